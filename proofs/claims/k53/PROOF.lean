import PyProof.Rows.All
import Wide.All
import OpenK.AllK
import PySem.Challenge.RW_callwalk_k53_refused_programs
section
open PySem PySem.W PyProof.Rows
def PySem.W.Vw:Program:={PySem.Challenge.pw_callwalk_k53_refused_programs with main:={PySem.Challenge.pw_callwalk_k53_refused_programs.main with body:=PySem.Challenge.pw_callwalk_k53_refused_programs.main.body.filter fun s=>match s with|.Assign [.Name n _] ..=>(n != "__name__")|_=>true}}
theorem PySem.W.cmb{A B C:Type}{o:Option A}{f:A->B}{g:A->C}{b:B}{c:C}(h:o.map f=some b)(k:o.map g=some c):o.map (fun x=>(f x,g x))=some (b,c):=by cases o with
 |none=>cases h
 |some x=>cases h;cases k;rfl
set_option hygiene false in
local macro_rules | `(tactic| o_head $H) => `(tactic| refine holds_open (q := PySem.W.Vw) (loose := ["PLACES"]) (Xt := fun s => xlAt PySem.W.Vw [] s && recOk (RowW.records PySem.Challenge.rw_callwalk_k53_refused_programs.row.toRowW) s) (XP := XL PySem.W.Vw []) (Yf := Hook.obs $H) (Ya := Hook.val $H) (YP := Hook.says $H) (N := 4900) (LeftO.of_split "special-get-raises" fun w => PySem.W.cmb (by kernel_rfl) (h2 w)) (Hook.of $H) (Hook.keeps $H) (fun s e => xl_of s (Bool.and_eq_true_iff.mp e).1) XL.keeps (by rfl) (by rfl) (by rfl) (fun s e => recFacts_of (Bool.and_eq_true_iff.mp e).2) (by rfl) (by first | assumption | decide +kernel) (by decide +kernel) ⟨rfl, rfl, rfl, rfl, rfl, by decide +kernel⟩ ?_ ?_)
set_option Elab.async false
set_option maxRecDepth 100000
set_option maxHeartbeats 0
def PySem.W.Eb:=fun(h2:∀w:World,_)hc=>(by
 w_on;o_law;k_head;(· w_witness2)
 exact hc:PySem.Challenge.rw_callwalk_k53_refused_programs.Holds)
def PySem.W.Ed:=PySem.W.Eb (fun w=>by kernel_rfl)
end
set_option autoImplicit true
set_option Elab.async false
set_option linter.all false
set_option genSizeOf false
set_option genSizeOfSpec false
set_option compiler.extract_closed false
set_option maxRecDepth 100000
set_option maxHeartbeats 4000000
set_option bootstrap.genMatcherCode false
noncomputable section
open PySem.W(hideAll keepIn fnOf codeIn excIn nsIn)
abbrev aB:=@PySem.wpAny_bind
abbrev cc:=@List.length_map
abbrev cH:=@Bool.and_eq_true
abbrev cI:=@decide_eq_true_eq
abbrev cJ:=@List.mem_cons
abbrev c5:=@List.getElem?_eq_some_iff
abbrev c6:=@PySem.Heap.get?_push_of_some
abbrev c7:=@List.map_cons
abbrev c8:=@List.all_eq_true
abbrev dJ:=@Nat.le_refl
abbrev dL:=@if_pos
abbrev dM:=@decide_eq_true
abbrev eQ:=@List.size_toArray
abbrev eR:=@List.mem_map
abbrev fW:=@PySem.wpAny_pure
abbrev fX:=@PySem.W.mg_of
abbrev fZ:=@decide_eq_false
abbrev f6:=@PySem.Heap.lt_size
abbrev f7:=@if_neg
abbrev f9:=@List.getElem?_set_self
abbrev f_:=@List.mem_append_right
abbrev gK:=@List.mem_of_getElem?
abbrev gL:=@List.lookup_cons
abbrev gM:=@PySem.Heap.get?_push_size
abbrev gO:=@List.mem_cons_of_mem
abbrev ir:=@List.mem_append
abbrev iy:=@List.not_mem_nil
abbrev iA:=@List.map_map
abbrev iB:=@Nat.lt_of_lt_of_le
abbrev i8:=@List.length_cons
abbrev je:=@Nat.ne_of_lt
abbrev jk:=@List.find?_cons
abbrev jD:=@Option.some.inj
abbrev jE:=@beq_eq_false_iff_ne
abbrev jF:=@List.getElem?_set_ne
abbrev jO:=@List.mem_iff_getElem?
abbrev jP:=@List.getElem?_append_right
abbrev jQ:=@Nat.le_trans
abbrev kE:=@List.getElem?_map
abbrev kF:=@PySem.W.mg_none_of
abbrev kG:=@Int.toNat_natCast
abbrev kI:=@List.append_assoc
abbrev kK:=@List.length_append
abbrev kR:=@List.mem_range
abbrev kU:=@PySem.wpAny_mono
abbrev kW:=@PyProof.Rows.slot_tuple_getitem
abbrev ly:=@congrArg
abbrev lC:=@List.length_take
abbrev lR:=@PySem.wpAny_field
abbrev lS:=@PySem.W.kia_one
abbrev lT:=@List.append_nil
abbrev lU:=@Nat.zero_le
abbrev lV:=@Bool.or_eq_true
abbrev lW:=@Bool.false_and
abbrev lX:=@Ne.symm
abbrev mU:=@Bool.false_eq_true
abbrev mV:=@Option.map_eq_some_iff
abbrev mW:=@List.length_nil
abbrev nJ:=@PySem.wpAny_truthy_bool
abbrev nK:=@List.getElem?_eq_getElem
abbrev nL:=@PyProof.Rows.callWith_type1
abbrev nM:=@List.mem_filterMap
abbrev nN:=@PySem.wpAny_callSpecial?_slot
abbrev nO:=@Nat.add_sub_cancel_left
abbrev nP:=@List.mem_singleton
abbrev nQ:=@List.mem_append_left
abbrev nR:=@Nat.mul_le_mul_right
abbrev pK:=@or_false
abbrev pL:=@PySem.W.hideAll_get
abbrev pN:=@PySem.mem_of_lookup
abbrev pO:=@PySem.wpAny_newObj_type
abbrev pP:=@Bool.true_and
abbrev pQ:=@List.drop_eq_getElem_cons
abbrev pR:=@List.getElem?_append_left
abbrev qV:=@List.mem_of_find?_eq_some
abbrev q_:=@List.mem_filter
abbrev rD:=@List.map_nil
abbrev rE:=@List.mem_of_mem_take
abbrev rF:=@List.all_cons
abbrev rG:=@decide_eq_false_iff_not
abbrev rH:=@PySem.wpAny_pyIter_list
abbrev rJ:=@Bool.eq_iff_iff
abbrev rK:=@List.map_append
abbrev rL:=@List.getD_eq_getElem?_getD
abbrev rM:=@List.mem_cons_self
abbrev ur:=@Bool.false_ne_true
abbrev uu:=@PySem.wpAny_setField_rec
abbrev uw:=@PySem.Heap.size_push
abbrev uy:=@PySem.wpAny_seqItems
abbrev uz:=@Bool.or_eq_false_iff
abbrev vG:=@List.length_set
abbrev wV:=@of_decide_eq_true
abbrev yI:=@Nat.lt_irrefl
abbrev zM:=@List.replicate_succ
abbrev AO:=@List.map_congr_left
abbrev FE:=@PySem.wpAny_getItem_str_slice
abbrev KE:=@PySem.wpAny_call_entry
abbrev RW:=@beq_self_eq_true
abbrev Sa:=@beq_iff_eq
abbrev Sb:=@PySem.Heap.get?_update_other
abbrev Sd:=@if_true
abbrev Se:=@PySem.tupleKind_room_in1
abbrev Sf:=@List.nil_append
abbrev Sg:=@List.take_append_drop
abbrev Sh:=@List.getElem?_eq_none
abbrev Si:=@PySem.wpAny_holding
abbrev Sj:=@if_false
abbrev Sk:=@Bool.eq_false_iff
abbrev Sm:=@Array.getElem?_eq_some_iff
abbrev Sn:=@List.mem_of_mem_drop
abbrev So:=@Bool.and_false
abbrev Sq:=@List.filterMap_cons
abbrev Sr:=@Array.length_toList
abbrev Ss:=@PyProof.Rows.slot_tupleiter_next
abbrev Su:=@Option.isSome_iff_exists
abbrev Sv:=@PySem.W.of_hideAll
abbrev Sw:=@PySem.wpAny_execs_nil
abbrev Sx:=@PySem.wpAny_standAt
abbrev Sy:=@PySem.wpAny_passesOwn
abbrev Sz:=@PySem.wpAny_Call_Name_kw
abbrev SA:=@List.foldl_cons
abbrev SB:=@List.any_cons
abbrev SD:=@PyProof.Rows.F.plain_set_update_loop
abbrev SE:=@PySem.Obj.data_mapFields
abbrev SF:=@PySem.F.plainAttrs_list
abbrev SG:=@List.getElem?_replicate
abbrev SH:=@PySem.sizeLine_eq
abbrev SI:=@List.flatten_cons
abbrev SJ:=@List.ext_getElem?
abbrev SK:=@List.length_range
abbrev SL:=@List.nodup_nil
abbrev SM:=@Nat.ne_of_gt
abbrev SN:=@PySem.codeAny_mono
abbrev SO:=@List.length_replicate
abbrev SQ:=@PySem.Heap.get?_update_self
abbrev SR:=@Array.getElem?_toList
abbrev SS:=@List.set_getElem_self
abbrev SU:=@Bool.beq_eq_decide_eq
abbrev SV:=@List.cons_append
abbrev SW:=@List.eq_nil_of_length_eq_zero
abbrev SX:=@List.getElem_mem
abbrev SY:=@decide_eq_decide
abbrev SZ:=@Nat.le_add_right
abbrev S0:=@PySem.Around.under_plainId
abbrev S1:=@PySem.wpAny_updateSeq_pair
abbrev S2:=@List.mem_zipIdx_iff_getElem?
abbrev S3:=@PySem.call_meets
abbrev S4:=@List.nodup_cons
abbrev S5:=@List.of_mem_zip
abbrev S6:=@PySem.codeAny_builtin
abbrev S7:=@PySem.F.slot_zip_next
abbrev S8:=@List.forIn_cons
abbrev S9:=@Sum.inr.inj
abbrev S_:=@PySem.post_val_or_str
abbrev Ta:=@ne_true_of_eq_false
abbrev Tc:=@List.find?_some
abbrev Td:=@List.all_append
abbrev Te:=@List.getElem?_drop
abbrev Tf:=@PySem.wpAny_setField
abbrev Tg:=@PySem.W.kitx_dict
abbrev Th:=@PySem.typeIs_str
abbrev Ti:=@Option.isSome_map
abbrev Tj:=@Bool.not_eq_true'
abbrev Tl:=@List.foldl_append
abbrev Tn:=@List.pairwise_map
abbrev To:=@List.all_eq_false
abbrev Tp:=@List.length_drop
abbrev Tq:=@List.zipIdx_cons
abbrev Tr:=@List.filter_cons
abbrev Ts:=@List.drop_length
abbrev Tt:=@List.any_eq_true
abbrev Tu:=@List.any_map
abbrev Tv:=PySem.Shared
abbrev Tw:=PySem.W.Frag
abbrev Tz:=PySem.Program
abbrev TB:=PySem.Value
abbrev TC:=PySem.Around
def TN(h : True := by rfl) : True := h
def TV:Lean.Syntax:=TN._auto_1
def TD(h : True := by decide) : True := h
def TQ:Lean.Syntax:=TD._auto_1
def TJ(h : ∀u : Unit, u = u := by intro _; rfl) : True := True.intro
def TU:Lean.Syntax:=TJ._auto_1
def TF(h : True := by first|exact .inl rfl|exact .inr rfl|assumption) : True := h
def TR:Lean.Syntax:=TF._auto_1
def TH(h : True := by first|exact Or.inl rfl|exact Or.inr (Or.inl rfl)|exact Or.inr (Or.inr rfl)) : True := h
def TK(h : True := by intro _ _; rfl) : True := h

namespace L2
open PySem PySem.Spec PyProof.Rows
noncomputable abbrev gQ:=Sum Int Str
noncomputable def u0:gQ->TB->Bool
 |.inl k,v=>Value.isInt k v
 |.inr x,v=>Value.isStrOf x v
noncomputable def P4(w:World):gQ->Int
 |.inl k=>hashInt k
 |.inr x=>hashStr w x
def c9:∀{k:gQ}{v:TB},u0 k v=true->(∃i t,k=Sum.inl i/\v=Value.int i t)\/(∃x t,k=Sum.inr x/\v=Value.str x t)
 |.inl i,v,h=>by obtain⟨t,e⟩:=Value.isInt_shape (k:=i) (v:=v) h;exact .inl ⟨i,t,rfl,e⟩
 |.inr x,v,h=>by obtain⟨t,e⟩:=Value.isStrOf_shape (x:=x) (v:=v) h;exact .inr ⟨x,t,rfl,e⟩
def AT(i:Int)(t:Tok):u0 (.inl i) (.int i t)=true:=by simp[u0,Value.isInt]
def AU(x:Str)(t:Tok):u0 (.inr x) (.str x t)=true:=by simp[u0,Value.isStrOf]
def Je(a b:Int):decide ((Sum.inl a:gQ)=Sum.inl b)=(a==b):=by grind
def Jf(a b:Str):decide ((Sum.inr a:gQ)=Sum.inr b)=decide (a=b):=by grind
def Jg(a:Int)(b:Str):decide ((Sum.inl a:gQ)=Sum.inr b)=false:=fZ (λq=>nomatch q)
def Jh(a:Str)(b:Int):decide ((Sum.inr a:gQ)=Sum.inl b)=false:=fZ (λq=>nomatch q)
def bS(prog:Tz)(w:World):PySem.KeyKind prog w gQ where
 is:=u0
 hash:=P4 w
 inj:=λv a b ha hb=>by
  rcases c9 ha with⟨i,t,rfl,rfl⟩|⟨x,t,rfl,rfl⟩
  .rcases c9 hb with⟨j,u,rfl,e⟩|⟨y,u,rfl,e⟩
   .injection e with e1 _;rw[e1]
   .exact nomatch e
  .rcases c9 hb with⟨j,u,rfl,e⟩|⟨y,u,rfl,e⟩
   .exact nomatch e
   .injection e with e1 _;rw[e1]
 byValue:=λk v h=>by rcases c9 h with⟨i,t,rfl,rfl⟩|⟨x,t,rfl,rfl⟩<;>rfl
 pyHash:=λhv h=>by
  rcases c9 hv with⟨i,t,rfl,rfl⟩|⟨x,t,rfl,rfl⟩
  .exact wpAny_pyHash_int h
  .exact wpAny_pyHash_str h
 eqBool:=λhu hv h=>by
  rcases c9 hu with⟨i,t,rfl,rfl⟩|⟨x,t,rfl,rfl⟩
  .rcases c9 hv with⟨j,u,rfl,rfl⟩|⟨y,u,rfl,rfl⟩
   .rw[Je]at h;exact wpAny_eqBool_int h
   .rw[Jg]at h;exact SeqAt.EqAt.int_str i t y u _ _ _ _ h
  .rcases c9 hv with⟨j,u,rfl,rfl⟩|⟨y,u,rfl,rfl⟩
   .rw[Jh]at h;exact SeqAt.EqAt.str_int x t j u _ _ _ _ h
   .rw[Jf]at h;exact wpAny_eqBool_str h
 «strs»:=λk x t v h=>by
  rcases c9 h with⟨i,u,rfl,e⟩|⟨y,u,rfl,e⟩
  .exact nomatch e
  .injection e with e1 _;subst e1;cases v<;>rfl
def w_(prog:Tz)(w:World)(i:Int)(t:Tok):(bS prog w).is (.inl i) (.int i t)=true:=AT i t
def l_(prog:Tz)(w:World)(x:Str)(t:Tok):(bS prog w).is (.inr x) (.str x t)=true:=AU x t
inductive V where
 |gP|bl (b:Bool)|int (i:Int)|str (x:Str)|Pv (b:Array UInt8)|ME (b:UInt64)|ref (a:Addr)|ty (n:String)
 deriving DecidableEq
noncomputable def RelV:V->TB->Prop
 |.gP,u=>u=Value.none
 |.bl b,u=>u=Value.bool b
 |.int i,u=>∃t,u=Value.int i t
 |.str x,u=>∃t,u=Value.str x t
 |.Pv b,u=>∃t,u=Value.bytes b t
 |.ME b,u=>∃t,u=Value.float b t
 |.ref a,u=>u=Value.ref a
 |.ty n,u=>u=Value.type n
abbrev Vals:List V->List TB->Prop:=Paired RelV
theorem Vals.length(r:Vals xs us):xs.length=us.length:=Paired.length r
theorem Vals.get:∀{xs:List V}{us:List TB}{i:Nat}{x:V},Vals xs us->xs[i]?=some x->∃u,us[i]?=some u/\RelV x u
 |_,_,_,_,.nil,e=>by simp at e
 |_,_,0,_,.cons r _,e=>by simp at e;subst e;exact⟨_,rfl,r⟩
 |_,_,i+1,x,.cons _ t,e=>by obtain⟨u,h1,h2⟩:=Vals.get (i:=i) (x:=x) t (by simpa using e);exact⟨u,by simpa using h1,h2⟩
theorem Vals.set(r:RelV x u):∀{xs:List V}{us:List TB}(i:Nat),Vals xs us->Vals (xs.set i x) (us.set i u)
 |_,_,_,.nil=>.nil
 |_,_,0,.cons _ t=>.cons r t
 |_,_,i+1,.cons q t=>.cons q (Vals.set r i t)
theorem Vals.append:∀{xs ys:List V}{us ws:List TB},Vals xs us->Vals ys ws->Vals (xs++ys) (us++ws)
 |_,_,_,_,.nil,s=>s
 |_,_,_,_,.cons r t,s=>.cons r (Vals.append t s)
theorem Vals.take:∀{xs:List V}{us:List TB}(n:Nat),Vals xs us->Vals (xs.take n) (us.take n)
 |_,_,0,_=>.nil
 |_,_,_+1,.nil=>.nil
 |_,_,n+1,.cons r t=>.cons r (Vals.take n t)
theorem Vals.drop:∀{xs:List V}{us:List TB}(n:Nat),Vals xs us->Vals (xs.drop n) (us.drop n)
 |_,_,0,r=>r
 |_,_,_+1,.nil=>.nil
 |_,_,n+1,.cons _ t=>Vals.drop n t
def RelO:Option V->Option TB->Prop
 |some v,some u=>RelV v u
 |none,none=>True
 |_,_=>False
def KV{κ:Type}:List (κ×V)->List (κ×TB)->Prop:=Paired λ(p:κ×V)(q:κ×TB)=>p.1=q.1/\RelV p.2 q.2
noncomputable def kV:gQ->V
 |.inl i=>.int i
 |.inr x=>.str x
inductive HO where
  
 |lst (xs:List V)
  
 |tup (xs:List V)
  
 |dK (kvs:List (gQ×V))|dT (kvs:List (List gQ×V))
  
 |set (S:Int->Bool) (n:Nat)
  
 |ins (C dx:Addr) (fs:List (Str×V))
  
 |own (x:Addr)
  
 |xd (fs:List (Str×V))
  
 |met (f x:Addr)
  
 |P1 (lo hi:Int)
  
 |dr (o:Obj) (u:HO)
  
 |Ja (ps:Array TB)
  
 |ext (φ:Heap->Prop)
noncomputable abbrev Hp:=Addr->Option HO
noncomputable def bQ(H:Hp)(a:Addr)(o:HO):Hp:=λb=>if b=a then some o else H b
def aP:bQ H a o a=some o:=by unfold bQ;rw[dL rfl]
theorem aH(h:b≠a):bQ H a o b=H b:=by unfold bQ;rw[f7 h]
def zO:bQ (bQ H a o) a u=bQ H a u:=by funext b;unfold bQ;split<;>rfl
def HJ{H:Hp}(h:H a=some o)(h':H b=some u)(d:o≠u):a≠b:=by intro e;subst e;rw[h]at h';exact d (jD h')
def aD{H:Hp}(h:H a=some o)(h':H b=none):a≠b:=by intro e;subst e;rw[h]at h';cases h'
section
variable(P:Tz)(w:World)
def ObjOk(H:Hp)(h:Heap)(a:Addr):HO->Prop
 |.lst xs=>xs.length<=sizeLine/\∃(its:List TB)(n:Nat),Vals xs its/\h.get? a=some { cls:=.type "list",data:=.seq its.toArray n }
 |.tup xs=>xs.length<=sizeLine/\∃its:List TB,Vals xs its/\IsTup h a its.toArray
 |.dK kvs=>kvs.length<=sizeLine/\(a==sysModules)=false/\∃vs,KV kvs vs/\h.DictOf (bS P w) a vs
 |.dT kvs=>kvs.length<=sizeLine/\(a==sysModules)=false/\∃xs:List (List gQ×Addr×TB),
  Paired (λ(p:List gQ×V)(q:List gQ×Addr×TB)=>p.1=q.1/\H q.2.1=some (.tup (p.1.map kV))/\RelV p.2 q.2.2) kvs xs/\
  ∃o es ep,h.get? a=some o/\o.ExactDict/\o.data=.dict es ep/\es.toList=xs.map (entryOfKey (tupleKind (bS P w)))/\(xs.map (·.1)).Nodup
 |.set S n=>h.SetOf (intKind P w) a S n
 |.ins C dx fs=>H dx=some (.own a)/\fs.length<=1000/\dx≠a/\h.get? a=some (PySem.W.instObj C dx)/\
  ∃mA,h.Ns1 dx mA/\(∀f,RelO (fs.lookup f) (mA f))/\PySem.Within mA (fs.map (·.1))
 |.own _=>∃o,h.get? a=some o
 |.xd fs=>∃mA,h.Ns1 a mA/\∀f,RelO (fs.lookup f) (mA f)
 |.P1 lo hi=>∃t u v,h.get? a=some { cls:=.type "range",data:=.fields #[.int lo t,.int hi u,.int 1 v] }
 |.dr o u=>h.get? a=some o/\ObjOk H h a u
 |.Ja ps=>h.get? a=some {cls:=.none,data:=.fields ps}
 |.met f x=>h.get? a=some (PySem.W.methodObj (.ref f) (.ref x))
 |.ext φ=>φ h/\(∃o,h.get? a=some o)/\∀h1 h2:Heap,φ h1->(∀o,h1.get? a=some o->h2.get? a=some o)->φ h2
def HOk(H:Hp)(h:Heap):Prop:=∀a o,H a=some o->ObjOk P w H h a o
end
section
theorem ObjOk.lt(x:ObjOk P w H h a o):a<h.objs.size:=by
 cases o with
 |lst xs=>obtain⟨_,_,_,_,e⟩:=x;exact f6 e
 |tup xs=>obtain⟨_,_,_,p⟩:=x;exact p.lt
 |dK kvs=>obtain⟨_,_,_,_,o,_,_,e,_⟩:=x;exact f6 e
 |dT kvs=>obtain⟨_,_,_,_,o,_,_,e,_⟩:=x;exact f6 e
 |set S n=>obtain⟨o,_,_,_,e,_⟩:=x;exact f6 e
 |ins C dx fs=>obtain⟨_,_,_,e,_⟩:=x;exact f6 e
 |own y=>obtain⟨_,e⟩:=x;exact f6 e
 |xd fs=>obtain⟨_,⟨_,_,_,e,_⟩,_⟩:=x;exact f6 e
 |P1 lo hi=>obtain⟨_,_,_,e⟩:=x;exact f6 e
 |dr ob u=>obtain⟨e,_⟩:=x;exact f6 e
 |Ja ps=>exact f6 (show h.get? a=some _ from x)
 |met f y=>exact f6 (show h.get? a=some _ from x)
 |ext φ=>obtain⟨_,⟨_,e⟩,_⟩:=x;exact f6 e
def Paired.Px{α β:Type}{F G:α->β->Prop}{l₁:List α}{l₂:List β}(h:Paired F l₁ l₂)(f:∀a b,F a b->G a b):Paired G l₁ l₂:=by
 induction h with
 |nil=>exact .nil
 |cons r _ ih=>exact .cons (f _ _ r) ih
def ObjOk.stay(x:ObjOk P w H h a o)(k:∀b u,(b=a\/H b=some (.own a))->h.get? b=some u->h'.get? b=some u)
 (ho:∀b,H b=some (.own a)->H' b=some (.own a)) (ht:∀b xs,H b=some (.tup xs)->H' b=some (.tup xs)):ObjOk P w H' h' a o:=by
 induction o with
 |lst xs=>obtain⟨z,its,n,r,e⟩:=x;exact⟨z,its,n,r,k _ _ (.inl rfl) e⟩
 |tup xs=>obtain⟨z,its,r,ob,e,c⟩:=x;exact⟨z,its,r,ob,k _ _ (.inl rfl) e,c⟩
 |dK kvs=>obtain⟨z,y,vs,r,ob,es,ep,e,c⟩:=x;exact⟨z,y,vs,r,ob,es,ep,k _ _ (.inl rfl) e,c⟩
 |dT kvs=>obtain⟨z,y,xs,r,ob,es,ep,e,c⟩:=x;exact⟨z,y,xs,Paired.Px r λp q z=>⟨z.1,ht _ _ z.2.1,z.2.2⟩,ob,es,ep,k _ _ (.inl rfl) e,c⟩
 |set S n=>obtain⟨ob,es,ep,t,e,c⟩:=x;exact⟨ob,es,ep,t,k _ _ (.inl rfl) e,c⟩
 |ins C dx fs=>obtain⟨d,z,ne,e,mA,⟨od,es,ep,e2,c⟩,r⟩:=x;exact⟨ho _ d,z,ne,k _ _ (.inl rfl) e,mA,⟨od,es,ep,k _ _ (.inr d) e2,c⟩,r⟩
 |own y=>obtain⟨ob,e⟩:=x;exact⟨ob,k _ _ (.inl rfl) e⟩
 |xd fs=>obtain⟨mA,⟨od,es,ep,e,c⟩,r⟩:=x;exact⟨mA,⟨od,es,ep,k _ _ (.inl rfl) e,c⟩,r⟩
 |P1 lo hi=>obtain⟨t,u,v,e⟩:=x;exact⟨t,u,v,k _ _ (.inl rfl) e⟩
 |dr ob u ih=>obtain⟨e,q⟩:=x;exact⟨k _ _ (.inl rfl) e,ih q⟩
 |Ja ps=>have e:h.get? a=some {cls:=.none,data:=.fields ps}:=x;show h'.get? a=some {cls:=.none,data:=.fields ps};exact k a _ (.inl rfl) e
 |met f y=>have e:h.get? a=some (PySem.W.methodObj (.ref f) (.ref y)):=x;show h'.get? a=some (PySem.W.methodObj (.ref f) (.ref y));exact k a _ (.inl rfl) e
 |ext φ=>obtain⟨p,⟨o,e⟩,st⟩:=x;exact⟨st _ _ p λo q=>k _ _ (.inl rfl) q,⟨o,k _ _ (.inl rfl) e⟩,st⟩
theorem HOk.lt(x:HOk P w H h)(e:H a=some o):a<h.objs.size:=(x a o e).lt
def HOk.fresh(x:HOk P w H h)(e:h.objs.size<=a):H a=none:=by
 cases q:H a with
 |none=>rfl
 |some u=>exact absurd (iB (x.lt q) e) (yI _)
def HOk.kept(x:HOk P w H h)(k:∀b u,h.get? b=some u->h'.get? b=some u):HOk P w H h':=λa o e=>(x a o e).stay (λb u _ q=>k b u q) (λ_ q=>q) λ_ _ q=>q
def HOk.laid(x:HOk P w H h)(k:∀b u,h.get? b=some u->h'.get? b=some u)(hp:h.objs.size<=a)(new:ObjOk P w (bQ H a o) h' a o):HOk P w (bQ H a o) h':=λb u e=>by
 have hn:=x.fresh hp;by_cases hb:b=a
 .subst hb;rw[aP]at e;cases e;exact new
 .rw[aH hb]at e;exact(x b u e).stay (λc v _ q=>k c v q) (λc q=>by rw[aH (aD q hn)];exact q) λc xs q=>by rw[aH (aD q hn)];exact q
end
def Rd(H:Hp)(a:Addr)(u:HO):Prop:=H a=some u\/∃o,H a=some (.dr o u)
def Rd.ok(r:Rd H a u)(x:HOk P w H h):ObjOk P w H h a u:=by
 rcases r with r|⟨o,r⟩
 .exact x a u r
 .obtain⟨_,q⟩:=x a _ r;exact q
noncomputable def MG:Option HO->Prop
 |some (.lst _)=>True
 |some (.dK _)=>True
 |some (.dT _)=>True
 |some (.set _ _)=>True
 |some (.ins _ _ _)=>True
 |some (.ext _)=>True
 |_=>False
section
def HOk.write(ok:HOk P w H h)(mu:MG (H x))(he:e=x\/H e=some (.own x))(k:∀b u,b≠e->h.get? b=some u->h'.get? b=some u)(heo:∃u,h'.get? e=some u)
 (new:ObjOk P w (bQ H x o') h' x o'):HOk P w (bQ H x o') h':=λb u q=>by
 have nown:∀c y,H c=some (.own y)->c≠x:=λc y r z=>by subst z;rw[r]at mu;exact mu
 have ntup:∀c xs,H c=some (.tup xs)->c≠x:=λc xs r z=>by subst z;rw[r]at mu;exact mu
 by_cases hb:b=x
 .subst hb;rw[aP]at q;cases q;exact new
 .rw[aH hb]at q;by_cases hbe:b=e
  .have q':H b=some (.own x):=by
    grind
   rw[q]at q';cases q';obtain⟨v,hv⟩:=heo;exact⟨v,by rw[hbe];exact hv⟩
  .refine(ok b u q).stay (λc v hc r=>k c v ?_ r) (λc r=>by rw[aH (nown c b r)];exact r) λc xs r=>by rw[aH (ntup c xs r)];exact r
   grind
end
def Qt(H:Hp)(b:Addr):Prop:=H b=none\/∃xs,H b=some (.tup xs)
structure Un(fs ex:List Addr) (H H':Hp) (h h':Heap):Prop where
 keep:∀b o,h.get? b=some o->Qt H b->b∉fs->b∉ex->h'.get? b=some o
 slot:∀b o,h.get? b=some o->H b=none->b∈fs->b∉ex->∃sl,h'.get? b=some {o with slots:=sl}
 free:∀b o,h.get? b=some o->H b=none->b∉ex->H' b=none
 there:∀b o,h.get? b=some o->b∉ex->∃o',h'.get? b=some o'
 j6:∀b xs,H b=some (.tup xs)->H' b=some (.tup xs)
 nt:∀b o u,H b=some (.dr o u)->H' b=some (.dr o u)
 pM:∀b ps,H b=some (.Ja ps)->∃more,H' b=some (.Ja (ps++more))
section
def Un.any(u:Un fs ex H H1 h h1)(q:h.get? b=some ob)(n:H b=none)(hx:b∉ex):∃sl,h1.get? b=some {ob with slots:=sl}:=by
 by_cases hb:b∈fs
 .exact u.slot b ob q n hb hx
 .exact⟨ob.slots,u.keep b ob q (.inl n) hb hx⟩
def Un.kept(k:∀b u,h.get? b=some u->h'.get? b=some u):Un fs ex H H h h':=⟨λb ob q _ _ _=>k b ob q,λb ob q _ _ _=>⟨ob.slots,k b ob q⟩,λ_ _ _ n _=>n,λb ob q _=>⟨ob,k b ob q⟩,λ_ _ q=>q,λ_ _ _ q=>q,λ_ ps q=>⟨#[],by rw[q];simp⟩⟩
def Un.refl:Un fs ex H H h h:=Un.kept λ_ _ q=>q
def Un.laid(k:∀b u,h.get? b=some u->h'.get? b=some u)(hp:h.objs.size<=a)(hn:H a=none):Un fs ex H (bQ H a o) h h' where
 keep:=λb u q _ _ _=>k b u q
 slot:=λb u q _ _ _=>⟨u.slots,k b u q⟩
 free:=λb u q n _=>by rw[aH (je (iB (f6 q) hp))];exact n
 there:=λb u q _=>⟨u,k b u q⟩
 j6:=λb xs q=>by rw[aH (aD q hn)];exact q
 nt:=λb u xs q=>by rw[aH (aD q hn)];exact q
 pM:=λb ps q=>⟨#[],by rw[aH (aD q hn),q];simp⟩
def Un.write(mu:MG (H x))(he:e=x\/H e=some (.own x))(k:∀b u,b≠e->h.get? b=some u->h'.get? b=some u)(heo:∃u,h'.get? e=some u):Un fs ex H (bQ H x o) h h':=by
 have hx:∀b,H b=none->b≠x:=λb n z=>by subst z;rw[n]at mu;exact mu
 have hb:∀b,H b=none->b≠e:=λb n z=>by grind
 have hm:∀b u,H b=some u->¬MG (some u)->b≠x:=λb u q nm z=>by subst z;rw[q]at mu;exact nm mu
 refine⟨λb u q n _ _=>k b u (n.elim (hb b) λ⟨xs,ee⟩ z=>by rcases he with r|r;(·rw[<- r,<- z,ee]at mu;exact mu);(·rw[<- z,ee]at r;cases r)) q,λb u q n _ _=>⟨u.slots,k b u (hb b n) q⟩,λb u q n _=>by rw[aH (hx b n)];exact n,λb u q _=>?_,
  λb xs q=>by rw[aH (hm b _ q λz=>z)];exact q,λb u xs q=>by rw[aH (hm b _ q λz=>z)];exact q,λb ps q=>⟨#[],by rw[aH (hm b _ q λz=>z),q];simp⟩⟩
 by_cases hbe:b=e
 .subst hbe;exact heo
 .exact⟨u,k b u hbe q⟩
end
noncomputable def sA(h:Heap)(H:Hp):List Addr:=(List.range h.objs.size).filter λa=>(H a).isSome
def xa(h:Heap)(H:Hp):Heap:=hideAll h (sA h H)
def AV(h:Heap)(H:Hp):(xa h H).objs.size=h.objs.size:=PySem.W.hideAll_size _ _
def xb(e:h.get? b=some o)(n:H b=none):(xa h H).get? b=some o:=pL _ e λhm=>by have q:(H b).isSome=true:=(q_.mp hm).2;rw[n]at q;simp at q
def FO(e:(xa h H).get? b=some o):h.get? b=some o/\H b=none:=by
 have e':h.get? b=some o:=Sv (sA h H) e;refine⟨e',?_⟩;cases q:H b with
 |none=>rfl
 |some x=>have hm:b∈sA h H:=q_.mpr ⟨kR.mpr (f6 e'),by simp[q]⟩;have z:(xa h H).get? b=none:=PySem.W.hideAll_none (sA h H) hm;rw[z]at e;cases e
noncomputable def FP(g h:Heap)(L:Addr):List (Addr×Obj):=(List.range h.objs.size).filterMap λa=>if a=L\/(g.get? a).isSome=true then none else(h.get? a).map λo=>(a,o)
def bd(g h:Heap)(L d:Addr):List (Addr×Obj):=(FP g h L).filter λp=>decide (p.1≠d)
noncomputable def P5:TB->V
 |.str x _=>.str x
 |.ref a=>.ref a
 |_=>.gP
def xc(o:Obj):Option (Addr×List V):=match o.cls with
 |.type n=>if n=="kt" then(match o.data with
  |.seq its _=>(match its.toList with
   |.ref a::r=>some (a,r.map P5)
   |_=>none)
  |_=>none)else none
 |_=>none
def Mr(K:Tw)(H:Hp):Prop:=∀p∈K,∀a xs,xc p.2=some (a,xs)->H a=some (.tup xs)
structure Mod(K:Tw) (mg:Str->Option TB) (base:Heap):Prop where
 xK:K.In base
 glob:base.Ns mainGlobals mg
 blt:∃mb,base.Ns builtinsNs mb/\∀x:Str,x≠"__name__"->mb x=bootBuiltins x
 nolimit:base.NoLimit
structure Cx where
 prog:Tz
 w:World
 K:Tw
 mg:Str->Option TB
 base:Heap
 A:TC
 N:List Str
 s₀:Tv
 H₀:Hp
 env:Env
 outer:List Env
 stack:List Env
 ex:List Addr
 fn:Str->Bool
 calm:Bool
 pn:List (Addr×Obj)
 xe:TB->Tv->Prop
abbrev wX(X:Cx){α:Type}(m:Sem α):(α->Tv->Prop)->(TB->Tv->Prop)->Tv->Prop:=wpAny (model X.prog X.w) X.A m
abbrev sE(X:Cx)(e:Expr)(es:List Expr):Prop:=starEach (e::es) X.env=(false,eval e X.env)::starEach es X.env
abbrev bT(X:Cx)(p:Pos)(es:List Expr):Prop:=(backTo p (starEach es X.env)).any (·.1)=false
abbrev dB(x:Str):Prop:=(x==("__debug__" : Str))=false
noncomputable def jJ(l:List Env):List Addr:=l.filterMap (·.frame)
abbrev Cx.fs(X:Cx):List Addr:=jJ X.outer
def PF(sc:Scope)(x:Str):Prop:=sc.names.lookup x=some .local\/sc.names.lookup x=some .cell\/sc.names.lookup x=some .free
def B4(sc:Scope)(x:Str):Prop:=sc.names.lookup x=some .local\/sc.names.lookup x=some .cell
def P6(env:Env)(h:Heap)(m:Str->Option TB)(x:Str)(u:TB):Prop:=(env.kindOf x=some .local/\m x=some u)\/((env.kindOf x=some .cell\/env.kindOf x=some .free)/\∃c,env.cells.lookup x=some c/\h.IsCell c (some u))
structure Cx.Ok(X:Cx):Prop where
 mod:Mod X.K X.mg X.base
 kind:X.env.scope.kind=.function
 glob:X.env.globals=mainGlobals
 blt:X.env.builtins=builtinsNs
 above:X.s₀.heap.objs.size<=X.env.locals
 inj:∀x y c,X.env.cells.lookup x=some c->X.env.cells.lookup y=some c->x=y
 has:∀x,(X.env.kindOf x=some .cell\/X.env.kindOf x=some .free)->∃c,X.env.cells.lookup x=some c
 Mj:∀x c,X.fn x=true->X.env.cells.lookup x=some c->X.s₀.heap.objs.size<=c
 hd:X.calm=true->X.A.handled=none
 frames:X.A.frames=some X.stack
 MD:X.stack=X.outer\/(X.stack=X.env::X.outer/\X.env.frame=some X.env.locals)
 P2:∀b∈X.ex,b≠X.env.locals/\∀x c,X.env.cells.lookup x=some c->c≠b
 bs:∀b o,X.base.get? b=some o->X.s₀.heap.get? b=some o/\X.H₀ b=none
 FN:X.base.objs.size<=X.s₀.heap.objs.size
 zN:∀b o,X.base.get? b=some o->b∉X.ex
 B2:∀b∈X.ex,b∉X.fs
 qX:X.s₀.heap.FunFrames X.base X.outer
 Jd:∀b∈X.fs,X.H₀ b=none
 kt:Mr X.K X.H₀
structure Inv(X:Cx) (ag:List (Addr×Obj)) (σ:List (Option V)) (H:Hp) (s:Tv):Prop where
 ok:X.Ok
 os:s.os=X.s₀.os
 bare:AllBare s.gens
 base:Un X.fs X.ex X.H₀ H X.s₀.heap s.heap
 loc:∃m,s.heap.Ns X.env.locals m/\∀(i:Nat)(x:Str)(v:V),X.N[i]?=some x->σ[i]?=some (some v)->PF X.env.scope x->∃u,RelV v u/\P6 X.env s.heap m x u
 cell:∀x c,X.env.cells.lookup x=some c->∃v,s.heap.IsCell c v
 free:H X.env.locals=none
 kM:∀x c,X.env.cells.lookup x=some c->H c=none
 pin:∀p∈X.pn++ag,s.heap.get? p.1=some p.2/\H p.1=none/\p.1≠X.env.locals/\p.1∉X.fs/\∀v,p.2.data≠.cell v
 bP:HOk X.prog X.w H s.heap
 len:σ.length=X.N.length
section
variable{X:Cx}{ag:List (Addr×Obj)}{σ:List (Option V)}{H H':Hp}{s:Tv}
def Cx.Ok.Q9(ok:X.Ok)(e:X.base.get? b=some o):b∉X.fs:=λhb=>by have:=(ok.qX.mem hb).1;rw[e]at this;cases this
theorem Inv.bs(I:Inv X ag σ H s):∀b o,X.base.get? b=some o->s.heap.get? b=some o/\H b=none:=λb o e=>⟨I.base.keep b o (I.ok.bs b o e).1 (.inl (I.ok.bs b o e).2) (I.ok.Q9 e) (I.ok.zN b o e),I.base.free b o (I.ok.bs b o e).1 (I.ok.bs b o e).2 (I.ok.zN b o e)⟩
theorem Inv.kt(I:Inv X ag σ H s):Mr X.K H:=λp hp a xs e=>I.base.j6 a xs (I.ok.kt p hp a xs e)
def Inv.bk(I:Inv X ag σ H s):∀b o,X.base.get? b=some o->s.heap.get? b=some o:=λb o e=>(I.bs b o e).1
theorem Inv.mod(I:Inv X ag σ H s):Mod X.K X.mg X.base:=I.ok.mod
def Inv.sx(I:Inv X ag σ H s):X.K.In s.heap:=I.ok.mod.xK.keeps I.bk
theorem Inv.lt(I:Inv X ag σ H s):X.env.locals<s.heap.objs.size:=let ⟨_,hn,_⟩:=I.loc;hn.lt
def Inv.sz(I:Inv X ag σ H s):X.s₀.heap.objs.size<=s.heap.objs.size:=jQ I.ok.above (Nat.le_of_lt I.lt)
def Inv.Rb(I:Inv X ag σ H s)(h:s.heap.objs.size<=a):a∉X.fs:=λhb=>by obtain⟨_,o,ho,_⟩:=I.ok.qX.mem hb;exact absurd (iB (f6 ho) (jQ I.sz h)) (yI _)
def Inv.Mm(I:Inv X ag σ H s):∀x c,X.env.cells.lookup x=some c->c≠X.env.locals:=λx c e z=>by obtain⟨v,o,ho,hd⟩:=I.cell x c e;obtain⟨m,⟨o',es,ep,ho',hd',_⟩,_⟩:=I.loc;rw[z,ho']at ho;cases ho;rw[hd']at hd;cases hd
theorem Inv.qX(I:Inv X ag σ H s):s.heap.FunFrames X.base X.outer:=by
 have all:∀(l:List Env),(∀b∈jJ l,b∈X.fs)->X.s₀.heap.FunFrames X.base l->s.heap.FunFrames X.base l:=by
  intro l;induction l with
  |nil=>intro _ _;trivial
  |cons env r ih=>intro hs hl;obtain⟨hk,⟨L,o,hf,hn,ho,hd⟩,hr⟩:=hl;have hL:L∈X.fs:=hs L (by unfold jJ;rw[Sq,hf];exact rM);obtain⟨sl,e⟩:=I.base.slot L o ho (I.ok.Jd L hL) hL λz=>I.ok.B2 L z hL;exact⟨hk,⟨L,_,hf,hn,e,hd⟩,ih (λb hb=>hs b (by unfold jJ;rw[Sq,hf];exact gO _ hb)) hr⟩
 exact all X.outer (λ_ hb=>hb) I.ok.qX
theorem Inv.stack(I:Inv X ag σ H s):s.heap.FunFrames X.base X.stack:=by
 rcases I.ok.MD with e|⟨e,hf⟩
 .rw[e];exact I.qX
 .rw[e];obtain⟨m,hn,_⟩:=I.loc;refine .cons (by rw[I.ok.kind];decide) hf hn ?_ I.qX;exact Heap.get?_none_of_le (jQ I.ok.FN I.ok.above)
def Inv.qU(I:Inv X ag σ H s):∀b∈jJ X.stack,b∈X.env.locals::X.fs:=λb hb=>by
 rcases I.ok.MD with e|⟨e,hf⟩
 .rw[e]at hb;exact gO _ hb
 .rw[e]at hb;unfold jJ at hb;rw[Sq,hf]at hb;exact hb
def Inv.wU(I:Inv X ag σ H s):∀b∈jJ X.stack,H b=none:=λb hb=>by
 rcases cJ.mp (I.qU b hb)with e|hb
 .rw[e];exact I.free
 .obtain⟨_,o,ho,_⟩:=I.ok.qX.mem hb;exact I.base.free b o ho (I.ok.Jd b hb) λz=>I.ok.B2 b z hb
theorem Inv.step{d':Drawn}{ch:List Addr}(I:Inv X ag σ H s)
 (hch:∀b∈ch,(b∈X.ex\/X.s₀.heap.objs.size<=b)/\b≠X.env.locals/\(∀x c,X.env.cells.lookup x=some c->c≠b)/\∀p∈X.pn++ag,p.1≠b)
 (keep:∀b o,b≠X.env.locals->b∉X.fs->b∉ch->s.heap.get? b=some o->Qt H b->h'.get? b=some o)
 (slot:∀b o,b≠X.env.locals->b∈X.fs->b∉ch->s.heap.get? b=some o->H b=none->∃sl,h'.get? b=some {o with slots:=sl}) (free:∀b o,b∉ch->s.heap.get? b=some o->H b=none->H' b=none)
 (there:∀b o,b∉ch->s.heap.get? b=some o->∃o',h'.get? b=some o')
 (j6:∀b xs,H b=some (.tup xs)->H' b=some (.tup xs)) (nt:∀b o u,H b=some (.dr o u)->H' b=some (.dr o u)) (pM:∀b ps,H b=some (.Ja ps)->∃more,H' b=some (.Ja (ps++more)))
 (ns:∀m,s.heap.Ns X.env.locals m->h'.Ns X.env.locals m) (bP:HOk X.prog X.w H' h') (hg:AllBare g') :
 Inv X ag σ H' {s with heap:=h',gens:=g',drawn:=d',toks:=t'}:=by
 have neL:∀b o,X.s₀.heap.get? b=some o->b≠X.env.locals:=λb o e=>je (iB (f6 e) I.ok.above);have neC:∀b o,X.s₀.heap.get? b=some o->b∉X.ex->b∉ch:=λb o e hx hb=>by
  rcases(hch b hb).1 with z|z
  .exact hx z
  .exact absurd (iB (f6 e) z) (yI _)
 have cellK:∀x c,X.env.cells.lookup x=some c->∀v,s.heap.IsCell c v->h'.IsCell c v:=λx c e v ⟨o,ho,hd⟩=>by
  have nch:c∉ch:=λz=>(hch c z).2.2.1 x c e rfl;by_cases hc:c∈X.fs
  .obtain⟨sl,q⟩:=slot c o (I.Mm x c e) hc nch ho (I.kM x c e);exact⟨_,q,hd⟩
  .exact⟨o,keep c o (I.Mm x c e) hc nch ho (.inl (I.kM x c e)),hd⟩
 refine⟨I.ok,I.os,hg,⟨λb o e n hb hx=>?_,λb o e n hb hx=>?_,λb o e n hx=>?_,λb o e hx=>?_,λb xs e=>j6 b xs (I.base.j6 b xs e),λb o xs e=>nt b o xs (I.base.nt b o xs e),λb ps e=>?_⟩,?_,λx c e=>?_,?_,λx c e=>?_,λp hp=>?_,bP,I.len⟩
 .exact keep b o (neL b o e) hb (neC b o e hx) (I.base.keep b o e n hb hx) (n.imp (λn=>I.base.free b o e n hx) λ⟨xs,q⟩=>⟨xs,I.base.j6 b xs q⟩)
 .obtain⟨sl,e1⟩:=I.base.slot b o e n hb hx;obtain⟨sl',e2⟩:=slot b _ (neL b o e) hb (neC b o e hx) e1 (I.base.free b o e n hx);exact⟨sl',e2⟩
 .obtain⟨o',e1⟩:=I.base.there b o e hx;exact free b o' (neC b o e hx) e1 (I.base.free b o e n hx)
 .obtain⟨o',e1⟩:=I.base.there b o e hx;exact there b o' (neC b o e hx) e1
 .obtain⟨m1,e1⟩:=I.base.pM b ps e
  grind
 .obtain⟨m,hn,hl⟩:=I.loc;refine⟨m,ns m hn,λi x v e1 e2 e3=>?_⟩;obtain⟨u,r,l⟩:=hl i x v e1 e2 e3;refine⟨u,r,?_⟩;rcases l with l|⟨k,c,e,z⟩
  .exact .inl l
  .exact .inr ⟨k,c,e,cellK x c e _ z⟩
 .obtain⟨v,z⟩:=I.cell x c e;exact⟨v,cellK x c e v z⟩
 .obtain⟨m,⟨o,_,_,ho,_⟩,_⟩:=I.loc;exact free _ o (λz=>(hch _ z).2.1 rfl) ho I.free
 .obtain⟨v,o,ho,hd⟩:=I.cell x c e;exact free c o (λz=>(hch c z).2.2.1 x c e rfl) ho (I.kM x c e)
 .obtain⟨e,n,ne,nf,d⟩:=I.pin p hp;have nch:p.1∉ch:=λz=>(hch p.1 z).2.2.2 p hp rfl;exact⟨keep p.1 p.2 ne nf nch e (.inl n),free p.1 p.2 nch e n,ne,nf,d⟩
theorem Inv.un{t':Nat}(I:Inv X ag σ H s)(u:Un X.fs [] H H' s.heap h')(bP:HOk X.prog X.w H' h'):Inv X ag σ H' {s with heap:=h',toks:=t'}:=by obtain⟨m,⟨o,es,ep,ho,r⟩,_⟩:=id I.loc;obtain⟨sl,hL⟩:=u.any ho I.free (by simp);exact I.step (g':=s.gens) (d':=s.drawn) (ch:=[]) (λ_ z=>nomatch z) (λb o _ hb _ e n=>u.keep b o e n hb (by simp)) (λb o _ hb _ e n=>u.slot b o e n hb (by simp)) (λb o _ e n=>u.free b o e n (by simp)) (λb o _ e=>u.there b o e (by simp)) u.j6 u.nt u.pM (λm' hm=>by obtain⟨o',es',ep',ho',r'⟩:=hm;rw[ho]at ho';cases ho';exact⟨_,es',ep',hL,r'⟩) bP I.bare
theorem Inv.call{d':Drawn}{ch:List Addr}(I:Inv X ag σ H s)(u:Un (jJ X.stack) ch H H' s.heap h')(bP:HOk X.prog X.w H' h')(hg:AllBare g')
 (hch:∀b∈ch,(b∈X.ex\/X.s₀.heap.objs.size<=b)/\b≠X.env.locals/\(∀x c,X.env.cells.lookup x=some c->c≠b)/\∀p∈X.pn++ag,p.1≠b) :
 Inv X ag σ H' {s with heap:=h',gens:=g',drawn:=d',toks:=t'}:=by
 obtain⟨m,⟨o,es,ep,ho,r⟩,_⟩:=id I.loc;obtain⟨sl,hL⟩:=u.any ho I.free λz=>(hch _ z).2.1 rfl;exact I.step (ch:=ch) hch (λb o hL hb hc e n=>u.keep b o e n (λz=>(cJ.mp (I.qU b z)).elim hL hb) hc) (λb o _ _ hc e n=>u.any e n hc) (λb o hc e n=>u.free b o e n hc) (λb o hc e=>u.there b o e hc) u.j6 u.nt u.pM (λm' hm=>by obtain⟨o',es',ep',ho',r'⟩:=hm;rw[ho]at ho';cases ho';exact⟨_,es',ep',hL,r'⟩) bP hg
theorem Inv.turned{it:Addr}(I:Inv X ag σ H s)(k:∀b o,b≠it->s.heap.get? b=some o->h'.get? b=some o)(hn:H it=none)(hL:it≠X.env.locals)
 (h1:it∈X.ex\/X.s₀.heap.objs.size<=it) (h2:∀x c,X.env.cells.lookup x=some c->c≠it) (h3:∀p∈X.pn++ag,p.1≠it):Inv X ag σ H {s with heap:=h',toks:=t'}:=by
 have nit:∀b u,H b=some u->b≠it:=λb u e z=>by rw[z,hn]at e;cases e
 refine I.step (g':=s.gens) (d':=s.drawn) (ch:=[it]) (λb hb=>?_) (λb o _ _ hc e _=>k b o (λz=>hc (by simp[z])) e) (λb o _ _ hc e _=>⟨o.slots,k b o (λz=>hc (by simp[z])) e⟩) (λ_ _ _ _ n=>n)
  (λb o hc e=>⟨o,k b o (λz=>hc (by simp[z])) e⟩) (λ_ _ e=>e) (λ_ _ _ e=>e) (λb ps e=>⟨#[],by rw[e];simp⟩) (λm hm=>?_) (λb u e=>?_) I.bare
 .have e:b=it:=by simpa using hb
  subst e;exact⟨h1,hL,h2,h3⟩
 .obtain⟨o,es,ep,ho,r⟩:=hm;exact⟨o,es,ep,k _ o (lX hL) ho,r⟩
 .refine(I.bP b u e).stay (λc v hc q=>k c v ?_ q) (λ_ q=>q) λ_ _ q=>q;rcases hc with z|z
  .rw[z];exact nit b u e
  .exact nit c _ z
def Inv.tok(I:Inv X ag σ H s)(t:Nat):Inv X ag σ H {s with toks:=t}:=I.un (h':=s.heap) (t':=t) Un.refl I.bP
theorem Inv.kept(I:Inv X ag σ H s)(k:∀b u,s.heap.get? b=some u->h'.get? b=some u):Inv X ag σ H {s with heap:=h',toks:=t'}:=I.un (Un.kept k) (I.bP.kept k)
theorem Inv.laid(I:Inv X ag σ H s)(k:∀b u,s.heap.get? b=some u->h'.get? b=some u)(hp:s.heap.objs.size<=a)(new:ObjOk X.prog X.w (bQ H a o) h' a o) :
 Inv X ag σ (bQ H a o) {s with heap:=h',toks:=t'}:=I.un (Un.laid k hp (I.bP.fresh hp)) (I.bP.laid k hp new)
theorem Inv.write(I:Inv X ag σ H s)(mu:MG (H x))(he:e=x\/H e=some (.own x))(k:∀b u,b≠e->s.heap.get? b=some u->h'.get? b=some u)(heo:∃u,h'.get? e=some u)
 (new:ObjOk X.prog X.w (bQ H x o) h' x o):Inv X ag σ (bQ H x o) {s with heap:=h',toks:=t'}:=I.un (Un.write mu he k heo) (I.bP.write mu he k heo new)
def Inv.AN(I:Inv X ag σ H s)(h:∀p∈pins',s.heap.get? p.1=some p.2/\H p.1=none/\p.1≠X.env.locals/\p.1∉X.fs/\∀v,p.2.data≠.cell v):Inv X pins' σ H s:=⟨I.ok,I.os,I.bare,I.base,I.loc,I.cell,I.free,I.kM,λp hp=>(ir.mp hp).elim (λz=>I.pin p (nQ _ z)) (h p),I.bP,I.len⟩
def xf{N:List Str}(hN:N.Nodup){i j:Nat}{x:Str}(a:N[i]?=some x)(b:N[j]?=some x):i=j:=by obtain⟨h1,e1⟩:=c5.mp a;obtain⟨h2,e2⟩:=c5.mp b;exact(List.getElem_inj hN).mp (e1.trans e2.symm)
def u3{E:TB->Tv->Prop}{x:Str}{v:V}{u:TB}{Q:Unit->Tv->Prop}(I:Inv X ag σ H s)(hN:X.N.Nodup)(hi:X.N[i]?=some x)(hx:B4 X.env.scope x)(r:RelV v u)
 (h:∀s',Inv X ag (σ.set i (some v)) H s'->(∃a,Heap.SameBut a s.heap s'.heap/\(a=X.env.locals\/X.env.cells.lookup x=some a))->Q () s') (hf:autoParam (X.fn x=true\/X.env.scope.names.lookup x=some .local) TR):wpAny M A (storeName X.env x u) Q E s:=by
 obtain⟨m,hn,hl⟩:=id I.loc;have hcls:(X.env.scope.kind==.class ||(X.env.scope.kind==.module&&X.env.locals != X.env.globals))=false:=by rw[I.ok.kind];rfl
 have hiσ:i<σ.length:=by rw[I.len];exact(c5.mp hi).1
 have Mm:=I.Mm;have tracked:∀{a:Addr}{h':Heap},(∃o,s.heap.get? a=some o/\H a=none)->Heap.SameBut a s.heap h'->HOk X.prog X.w H h':=λ{a h'} ha hs b ob e=>by
  obtain⟨_,_,hfree⟩:=ha;refine(I.bP b ob e).stay (λc w' hc q=>(hs.2 c ?_).trans q) (λ_ q=>q) λ_ _ q=>q
  grind
 rcases hx with hk|hk
 .refine wpAny_storeName_local hk hn (λh' hn' hs=>?_) hcls;obtain⟨oL,_,_,hoL,_⟩:=id hn;refine h _ ⟨I.ok,I.os,I.bare,⟨λb o e n hb hx=>?_,λb o e n hb hx=>?_,I.base.free,λb o e hx=>?_,I.base.j6,I.base.nt,I.base.pM⟩,⟨_,hn',λj y v' e1 e2 e3=>?_⟩,λy c e=>?_,I.free,I.kM,λp hp=>?_,tracked ⟨oL,hoL,I.free⟩ hs,by simpa using I.len⟩ ⟨_,hs,.inl rfl⟩
  .exact(hs.2 b (je (iB (f6 e) I.ok.above))).trans (I.base.keep b o e n hb hx)
  .obtain⟨sl,e1⟩:=I.base.slot b o e n hb hx;exact⟨sl,(hs.2 b (je (iB (f6 e) I.ok.above))).trans e1⟩
  .obtain⟨o',e1⟩:=I.base.there b o e hx;exact⟨o',(hs.2 b (je (iB (f6 e) I.ok.above))).trans e1⟩
  .by_cases hj:j=i
   .subst hj;rw[hi]at e1;cases e1;rw[f9 hiσ]at e2;cases e2;exact⟨u,r,.inl ⟨hk,by simp⟩⟩
   .rw[jF (lX hj)]at e2;obtain⟨u',r',q⟩:=hl j y v' e1 e2 e3;refine⟨u',r',?_⟩;rcases q with⟨k,e⟩|⟨k,c,e,z⟩
    .refine .inl ⟨k,?_⟩;have:y≠x:=λe=>hj (xf hN e1 (e▸hi));simp[this,e]
    .exact .inr ⟨k,c,e,z.sameBut hs (Mm y c e)⟩
  .obtain⟨w',z⟩:=I.cell y c e;exact⟨w',z.sameBut hs (Mm y c e)⟩
  .obtain⟨e,n,ne,nf,d⟩:=I.pin p hp;exact⟨(hs.2 p.1 ne).trans e,n,ne,nf,d⟩
 .have hfn:X.fn x=true:=by
   rcases hf with z|z
   .exact z
   .rw[z]at hk;cases hk
  obtain⟨c,hc⟩:=I.ok.has x (.inl hk);obtain⟨w',z⟩:=I.cell x c hc;refine wpAny_storeName_cell I.ok.kind hk hc z (λh' hc' hs=>?_);obtain⟨oc,hoc,hocd⟩:=id z;refine h {s with heap:=h'} ⟨I.ok,I.os,I.bare,⟨λb o e n hb hx=>?_,λb o e n hb hx=>?_,I.base.free,λb o e hx=>?_,I.base.j6,I.base.nt,I.base.pM⟩,⟨m,hn.sameBut hs (lX (Mm x c hc)),λj y v' e1 e2 e3=>?_⟩,λy c' e=>?_,I.free,I.kM,λp hp=>?_,tracked ⟨oc,hoc,I.kM x c hc⟩ hs,by simpa using I.len⟩ ⟨c,hs,.inr hc⟩
  .exact(hs.2 b (je (iB (f6 e) (I.ok.Mj x c hfn hc)))).trans (I.base.keep b o e n hb hx)
  .obtain⟨sl,e1⟩:=I.base.slot b o e n hb hx;exact⟨sl,(hs.2 b (je (iB (f6 e) (I.ok.Mj x c hfn hc)))).trans e1⟩
  .obtain⟨o',e1⟩:=I.base.there b o e hx;exact⟨o',(hs.2 b (je (iB (f6 e) (I.ok.Mj x c hfn hc)))).trans e1⟩
  .by_cases hj:j=i
   .subst hj;rw[hi]at e1;cases e1;rw[f9 hiσ]at e2;cases e2;exact⟨u,r,.inr ⟨.inl hk,c,hc,hc'⟩⟩
   .rw[jF (lX hj)]at e2;obtain⟨u',r',q⟩:=hl j y v' e1 e2 e3;refine⟨u',r',?_⟩;rcases q with q|⟨k,c',e,z'⟩
    .exact .inl q
    .refine .inr ⟨k,c',e,z'.sameBut hs ?_⟩;rintro rfl;exact hj (xf hN e1 (I.ok.inj _ _ _ e hc▸hi))
  .by_cases hcc:c'=c
   .subst hcc;exact⟨_,hc'⟩
   .obtain⟨w2,z2⟩:=I.cell y c' e;exact⟨w2,z2.sameBut hs hcc⟩
  .obtain⟨e,n,ne,nf,d⟩:=I.pin p hp;refine⟨(hs.2 p.1 ?_).trans e,n,ne,nf,d⟩
   grind
def sB(I:Inv X ag σ H s)(hN:X.N.Nodup)(hi:X.N[i]?=some x)(hx:B4 X.env.scope x)(r:RelV v u)
 (h:∀s',Inv X ag (σ.set i (some v)) H s'->Q () s') (hf:autoParam (X.fn x=true\/X.env.scope.names.lookup x=some .local) TR):wpAny M A (storeName X.env x u) Q E s:=
 u3 I hN hi hx r (λs' I' _=>h s' I') hf
def Inv.Jb(I:Inv X ag σ H s)(ho:s'.os=s.os)(u:Un (jJ X.stack) ch H H' s.heap s'.heap)(bP:HOk X.prog X.w H' s'.heap)(hg:AllBare s'.gens)
 (hch:∀b∈ch,(b∈X.ex\/X.s₀.heap.objs.size<=b)/\b≠X.env.locals/\(∀x c,X.env.cells.lookup x=some c->c≠b)/\∀p∈X.pn++ag,p.1≠b):Inv X ag σ H' s':=by
 obtain⟨h',g',d',t',o'⟩:=s';have e:o'=s.os:=ho;subst e;exact I.call (g':=g') (t':=t') (d':=d') u bP hg hch
end
abbrev XK:=TB->Option Addr->Hp->Prop
noncomputable abbrev St:=List (Option V)
abbrev VK:=V->Hp->Prop
abbrev TE:=St->Hp->VK->Prop
abbrev TT:=St->Hp->(Bool->Hp->Prop)->Prop
abbrev TA:=St->Hp->(List V->Hp->Prop)->Prop
structure Ends where
 nx:St->Hp->Prop
 rt:VK
 bk:St->Hp->Prop:=λ_ _=>False
 ct:St->Hp->Prop:=λ_ _=>False
abbrev TS:=Ends->St->Hp->Prop
def EP(X:Cx)(ag:List (Addr×Obj))(σ:St)(Q:VK)(u:TB)(s':Tv):Prop:=∃v H',Inv X ag σ H' s'/\RelV v u/\Q v H'
def TP(X:Cx)(ag:List (Addr×Obj))(σ:St)(Q:Bool->Hp->Prop)(b:Bool)(s':Tv):Prop:=∃H',Inv X ag σ H' s'/\Q b H'
def AP(X:Cx)(ag:List (Addr×Obj))(σ:St)(Q:List V->Hp->Prop)(us:List TB)(s':Tv):Prop:=∃vs H',Inv X ag σ H' s'/\Vals vs us/\Q vs H'
def SP(X:Cx)(ag:List (Addr×Obj))(D:Ends)(f:Flow)(s':Tv):Prop:=
 match f with
 |.next=>∃σ' H',Inv X ag σ' H' s'/\D.nx σ' H'
 |.brk=>∃σ' H',Inv X ag σ' H' s'/\D.bk σ' H'
 |.cont=>∃σ' H',Inv X ag σ' H' s'/\D.ct σ' H'
 |.ret u=>∃v σ' H',Inv X ag σ' H' s'/\RelV v u/\D.rt v H'
def PE(X:Cx)(e:Expr)(t:TE):Prop:=∀(ag:List (Addr×Obj))(s:Tv)(σ:St)(H:Hp)(Q:VK),Inv X ag σ H s->t σ H Q->wpAny (model X.prog X.w) X.A (eval e X.env) (EP X ag σ Q) X.xe s
def PT(X:Cx)(e:Expr)(t:TT):Prop:=∀(ag:List (Addr×Obj))(s:Tv)(σ:St)(H:Hp)(Q:Bool->Hp->Prop),Inv X ag σ H s->t σ H Q->wpAny (model X.prog X.w) X.A (isTrue e X.env (eval e X.env)) (TP X ag σ Q) X.xe s
def PW(X:Cx)(e:Expr)(t:TT):Prop:=∀(whole:Sem TB)(ag:List (Addr×Obj))(s:Tv)(σ:St)(H:Hp)(Q:Bool->Hp->Prop),Inv X ag σ H s->t σ H Q->wpAny (model X.prog X.w) X.A (isTrue e X.env whole) (TP X ag σ Q) X.xe s
def PW.pt(h:PW X e t):PT X e t:=h _
def PA(X:Cx)(es:List Expr)(t:TA):Prop:=∀(pos:Pos)(ag:List (Addr×Obj))(s:Tv)(σ:St)(H:Hp)(Q:List V->Hp->Prop),Inv X ag σ H s->t σ H Q->wpAny (model X.prog X.w) X.A (spliced (backTo pos (starEach es X.env))) (AP X ag σ Q) X.xe s
def PS(X:Cx)(st:Stmt)(t:TS):Prop:=∀(ag:List (Addr×Obj))(s:Tv)(σ:St)(H:Hp)(D:Ends),Inv X ag σ H s->t D σ H->wpAny (model X.prog X.w) X.A (exec st X.env) (SP X ag D) X.xe s
def FQ(X:Cx)(st:List Stmt)(t:TS):Prop:=∀(ag:List (Addr×Obj))(s:Tv)(σ:St)(H:Hp)(D:Ends),Inv X ag σ H s->t D σ H->wpAny (model X.prog X.w) X.A (execs st X.env) (SP X ag D) X.xe s
def eS{α:Type}{t:Sem α}{Q Q':α->Tv->Prop}{M:Model}{A:TC}{E:TB->Tv->Prop}{s:Tv}(h:wpAny M A t Q E s)(hQ:∀a s,Q a s->Q' a s):wpAny M A t Q' E s:=kU h hQ λ_ _ x=>x
section
variable{X:Cx}
noncomputable def sC(i:Nat):TE:=λσ H Q=>∃v,σ[i]?=some (some v)/\Q v H
noncomputable def tC(v:V):TE:=λ_ H Q=>Q v H
def Ji(hN:X.N[i]?=some x)(hv:PF X.env.scope x)(hd:autoParam (dB x) TQ) (hcd:autoParam ((x==("__classdict__" : Str))=false) TQ):PE X (.Name x pos) (sC i):=by
 intro ag s σ H Q I h;obtain⟨v,e,h⟩:=h;obtain⟨m,hn,hl⟩:=I.loc;obtain⟨u,r,l⟩:=hl i x v hN e hv;have fin:EP X ag σ Q u s:=⟨v,H,I,r,h⟩;rcases l with⟨hk,hm⟩|⟨hk,c,hc,hcell⟩
 .exact wpAny_Name (wpAny_loadName_local I.ok.kind hk hn hm fin) hd
 .rcases hk with hk|hk
  .exact wpAny_Name (wpAny_loadName_cell I.ok.kind hk hc hcell fin) hd
  .exact wpAny_Name (wpAny_loadName_free I.ok.kind hk hc hcell fin hcd) hd
def Jj{i j pos}:PE X (.Constant (.int i) j pos) (tC (.int i)):=λ_ _ _ H _ I h=>wpAny_Constant_int ⟨.int i,H,I.tok _,⟨_,rfl⟩,h⟩
def MH{b j pos}:PE X (.Constant (.bool b) j pos) (tC (.bl b)):=λ_ _ _ H _ I h=>Constant_bool ⟨.bl b,H,I,rfl,h⟩
def Jk{j pos}:PE X (.Constant .none j pos) (tC .gP):=λ_ _ _ H _ I h=>Constant_none ⟨.gP,H,I,rfl,h⟩
def B8{x j pos}:PE X (.Constant (.str x) j pos) (tC (.str x)):=λ_ _ _ H _ I h=>Calls.Constant_str ⟨.str x,H,I.tok _,⟨_,rfl⟩,h⟩
def Gl(X:Cx)(x:Str):Prop:=X.env.kindOf x=some .globalImplicit
def oy(I:Inv X ag σ H s)(hg:Gl X x)(hm:X.mg x=some u)(h:Q u s)
 (hd:autoParam (dB x) TQ):wX X (eval (.Name x pos) X.env) Q E s:=
 Calls.Name_function_global I.ok.kind hg (Calls.loadGlobal_global (by rw[I.ok.glob];exact I.mod.glob.keeps I.bk) hm h) hd
def nS(I:Inv X ag σ H s)(hg:Gl X x)(hm:X.mg x=none)(hv:bootBuiltins x=some u)(h:Q u s)
 (hn:autoParam (x≠"__name__") TQ) (hd:autoParam (dB x) TQ):wX X (eval (.Name x pos) X.env) Q E s:=by
 obtain⟨mb,h1,h2⟩:=I.mod.blt;exact Calls.Name_function_global I.ok.kind hg (Calls.loadGlobal_builtin (by rw[I.ok.glob];exact I.mod.glob.keeps I.bk) hm (by rw[I.ok.blt];exact h1.keeps I.bk) ((h2 x hn).trans hv) h) hd
def vH(hg:Gl X x)(hm:X.mg x=some u)(r:RelV v u)(hd:autoParam (dB x) TQ):PE X (.Name x pos) (tC v):=λ_ _ _ H _ I h=>oy I hg hm ⟨v,H,I,r,h⟩ hd
def FR(hg:Gl X x)(hm:X.mg x=none)(hv:bootBuiltins x=some u)(r:RelV v u)(hn:autoParam (x≠"__name__") TQ) (hd:autoParam (dB x) TQ):PE X (.Name x pos) (tC v):=λ_ _ _ H _ I h=>nS I hg hm hv ⟨v,H,I,r,h⟩ hn hd
variable{a b:Expr}{ta tb:TE}{pos:Pos}
variable{tA tB':TT}{bd:List Expr}
noncomputable def P7(t u:TT):TT:=λσ H Q=>t σ H λc H1=>if c=true then u σ H1 Q else Q false H1
noncomputable def RB(t u:TT):TT:=λσ H Q=>t σ H λc H1=>if c=true then Q true H1 else u σ H1 Q
noncomputable def P8(t:TT):TT:=λσ H Q=>t σ H λc H1=>Q (!c) H1
def FS(ha:PT X a tA):PW X (.BoolOp .And [a] pos) tA:=by
 intro wh ag s σ H Q I h;refine isTrue_and (eS (ha ag s σ H Q I h) λc s1 e=>?_);cases c with
 |true=>exact isTrue_and_nil e
 |false=>exact e
def Jl(ha:PT X a tA):PW X (.BoolOp .Or [a] pos) tA:=by
 intro wh ag s σ H Q I h;refine isTrue_or (eS (ha ag s σ H Q I h) λc s1 e=>?_);cases c with
 |false=>exact isTrue_or_nil e
 |true=>exact e
theorem Jm(ha:PT X a tA)(hb:PW X (.BoolOp .And (b::bd) pos) tB'):PW X (.BoolOp .And (a::b::bd) pos) (P7 tA tB'):=by
 intro wh ag s σ H Q I h;refine isTrue_and (eS (ha ag s σ H _ I h) λc s1 ⟨H1,I1,q1⟩=>?_);cases c with
 |true=>exact hb wh ag s1 σ H1 Q I1 q1
 |false=>exact⟨H1,I1,q1⟩
theorem MI(ha:PT X a tA)(hb:PW X (.BoolOp .Or (b::bd) pos) tB'):PW X (.BoolOp .Or (a::b::bd) pos) (RB tA tB'):=by
 intro wh ag s σ H Q I h;refine isTrue_or (eS (ha ag s σ H _ I h) λc s1 ⟨H1,I1,q1⟩=>?_);cases c with
 |true=>exact⟨H1,I1,q1⟩
 |false=>exact hb wh ag s1 σ H1 Q I1 q1
def Jn(ha:PT X a tA):PT X (.UnaryOp .Not a pos) (P8 tA):=by intro ag s σ H Q I h;exact isTrue_not (ha ag s σ H (λc H1=>Q (!c) H1) I h)
noncomputable def MJ(ta tb:TE):TE:=λσ H Q=>ta σ H λx H1=>∃c,x=.bl c/\if c=true then tb σ H1 Q else Q (.bl false) H1
noncomputable def P9(ta tb:TE):TE:=λσ H Q=>ta σ H λx H1=>∃c,x=.bl c/\if c=true then Q (.bl true) H1 else tb σ H1 Q
noncomputable def MK(ta:TE):TE:=λσ H Q=>ta σ H λx H1=>∃c,x=.bl c/\Q (.bl (!c)) H1
def Jo{op}(h:PE X a t):PE X (.BoolOp op [a] pos) t:=λag s σ H Q I hw=>BoolOp_one (h ag s σ H Q I hw)
theorem Jp(ha:PE X a ta)(hb:PE X (.BoolOp .And (b::bd) pos) tb):PE X (.BoolOp .And (a::b::bd) pos) (MJ ta tb):=by
 intro ag s σ H Q I h;refine BoolOp_and (eS (ha ag s σ H _ I h) λv s1 ⟨x,H1,I1,r1,q1⟩=>?_);obtain⟨c,rfl,q1⟩:=q1;cases r1;refine nJ ?_;cases c with
 |true=>exact hb ag s1 σ H1 Q I1 q1
 |false=>exact⟨.bl false,H1,I1,rfl,q1⟩
theorem ML(ha:PE X a ta)(hb:PE X (.BoolOp .Or (b::bd) pos) tb):PE X (.BoolOp .Or (a::b::bd) pos) (P9 ta tb):=by
 intro ag s σ H Q I h;refine BoolOp_or (eS (ha ag s σ H _ I h) λv s1 ⟨x,H1,I1,r1,q1⟩=>?_);obtain⟨c,rfl,q1⟩:=q1;cases r1;refine nJ ?_;cases c with
 |false=>exact hb ag s1 σ H1 Q I1 q1
 |true=>exact⟨.bl true,H1,I1,rfl,q1⟩
def Jq(ha:PE X a ta):PE X (.UnaryOp .Not a pos) (MK ta):=by intro ag s σ H Q I h;refine UnaryOp_ (eS (ha ag s σ H _ I h) λv s1 ⟨x,H1,I1,r1,q1⟩=>?_);obtain⟨c,rfl,q1⟩:=q1;cases r1;exact not_of (nJ ⟨.bl (!c),H1,I1,rfl,q1⟩)
noncomputable def RC(t:TT)(ta tb:TE):TE:=λσ H Q=>t σ H λc H1=>if c=true then ta σ H1 Q else tb σ H1 Q
def B9(hc:PT X c tA)(ha:PE X a ta)(hb:PE X b tb):PE X (.IfExp c a b pos) (RC tA ta tb):=by
 intro ag s σ H Q I h;refine wpAny_IfExp (eS (hc ag s σ H _ I h) λd s1 ⟨H1,I1,q1⟩=>?_);cases d with
 |true=>exact ha ag s1 σ H1 Q I1 q1
 |false=>exact hb ag s1 σ H1 Q I1 q1
end
def SqL(K:Tw)(H:Hp)(a:Addr)(xs:List V):Prop:=
 Rd H a (.lst xs)\/
  ∃(o:Obj)(its:Array TB)(n:Nat),K.lookup a=some o/\o.cls=.type "list"/\o.dict=none/\o.data=.seq its n/\its.size<=sizeLine/\Vals xs its.toList
def SqT(K:Tw)(H:Hp)(a:Addr)(xs:List V):Prop:=
 Rd H a (.tup xs)\/
  ∃(o:Obj)(its:Array TB)(n:Nat),K.lookup a=some o/\o.cls=.type "tuple"/\o.data=.seq its n/\its.size<=sizeLine/\Vals xs its.toList
noncomputable def P_:TB->Option V
 |.none=>some .gP
 |.bool b=>some (.bl b)
 |.int i _=>some (.int i)
 |.str x _=>some (.str x)
 |.bytes b _=>some (.Pv b)
 |.float b _=>some (.ME b)
 |.ref a=>some (.ref a)
 |.type n=>some (.ty n)
 |_=>none
def RelV.abs(r:RelV x u):P_ u=some x:=by
 cases x with
 |gP=>cases r;rfl
 |bl _=>cases r;rfl
 |int _=>obtain⟨t,rfl⟩:=r;rfl
 |str _=>obtain⟨t,rfl⟩:=r;rfl
 |Pv _=>obtain⟨t,rfl⟩:=r;rfl
 |ME _=>obtain⟨t,rfl⟩:=r;rfl
 |ref _=>cases r;rfl
 |ty _=>cases r;rfl
def RelV.inj(r:RelV x u)(q:RelV y u):x=y:=jD (r.abs.symm.trans q.abs)
theorem Vals.inj{xs ys:List V}{us:List TB}(h:Vals xs us)(k:Vals ys us):xs=ys:=by
 induction h generalizing ys with
 |nil=>cases k;rfl
 |cons r _ ih=>
  cases k with
  |cons r' t'=>rw[r.inj r',ih t']
section
def SqL.of{K:Tw}(h:H a=some (.lst xs)):SqL K H a xs:=.inl (.inl h)
def SqT.of{K:Tw}(h:H a=some (.tup xs)):SqT K H a xs:=.inl (.inl h)
def Inv.list(I:Inv X ag σ H s)(h:SqL X.K H a xs):∃its:List TB,Vals xs its/\PlainL s.heap a its.toArray/\xs.length<=sizeLine:=by
 rcases h with h|⟨o,its,n,hk,hc,hd,hs,hz,r⟩
 .obtain⟨z,its,n,r,e⟩:=h.ok I.bP;exact⟨its,r,⟨_,n,e,rfl,rfl,rfl⟩,z⟩
 .refine⟨its.toList,r,⟨o,n,I.sx a o hk,hc,hd,by simpa using hs⟩,?_⟩;have e:=r.length;simp only[Sr]at e;lia
def Inv.tuple(I:Inv X ag σ H s)(h:SqT X.K H a xs):∃its:List TB,Vals xs its/\IsTup s.heap a its.toArray/\xs.length<=sizeLine:=by
 rcases h with h|⟨o,its,n,hk,hc,hs,hz,r⟩
 .obtain⟨z,its,r,p⟩:=h.ok I.bP;exact⟨its,r,p,z⟩
 .refine⟨its.toList,r,⟨o,I.sx a o hk,hc,n,by simpa using hs⟩,?_⟩;have e:=r.length;simp only[Sr]at e;lia
def Inv.yH(I:Inv X ag σ H s)(h:SqL X.K H a xs)(h':SqL X.K H a ys):xs=ys:=by
 obtain⟨its,r,⟨o,n,e,_,_,d⟩,_⟩:=I.list h;obtain⟨its',r',⟨o',n',e',_,_,d'⟩,_⟩:=I.list h';rw[e]at e';cases e';rw[d]at d';injection d' with d1 _;have:its=its':=by simpa using ly Array.toList d1
 subst this;exact r.inj r'
def Inv.BZ(I:Inv X ag σ H s)(h:SqT X.K H a xs)(h':SqT X.K H a ys):xs=ys:=by
 obtain⟨its,r,⟨o,e,_,n,d⟩,_⟩:=I.tuple h;obtain⟨its',r',⟨o',e',_,n',d'⟩,_⟩:=I.tuple h';rw[e]at e';cases e';rw[d]at d';injection d' with d1 _;have:its=its':=by simpa using ly Array.toList d1
 subst this;exact r.inj r'
end
noncomputable abbrev Cx.uq(X:Cx)(E:TB->Tv->Prop):Cx:={X with xe:=E}
abbrev Cx.Rz(X:Cx):Cx:=X.uq λ_ _=>False
theorem Cx.Ok.uq{X:Cx}(ok:X.Ok)(E:TB->Tv->Prop):(X.uq E).Ok:=⟨ok.mod,ok.kind,ok.glob,ok.blt,ok.above,ok.inj,ok.has,ok.Mj,ok.hd,ok.frames,ok.MD,ok.P2,ok.bs,ok.FN,ok.zN,ok.B2,ok.qX,ok.Jd,ok.kt⟩
def Cx.Ok.ux{X:Cx}{E:TB->Tv->Prop}(ok:(X.uq E).Ok):X.Ok:=⟨ok.mod,ok.kind,ok.glob,ok.blt,ok.above,ok.inj,ok.has,ok.Mj,ok.hd,ok.frames,ok.MD,ok.P2,ok.bs,ok.FN,ok.zN,ok.B2,ok.qX,ok.Jd,ok.kt⟩
section
theorem Inv.uq(I:Inv X ag σ H s)(E:TB->Tv->Prop):Inv (X.uq E) ag σ H s:=⟨I.ok.uq E,I.os,I.bare,I.base,I.loc,I.cell,I.free,I.kM,I.pin,I.bP,I.len⟩
theorem Inv.ux(I:Inv (X.uq E) ag σ H s):Inv X ag σ H s:=⟨I.ok.ux,I.os,I.bare,I.base,I.loc,I.cell,I.free,I.kM,I.pin,I.bP,I.len⟩
end
section
variable{X:Cx}{st:Stmt}{bd:List Stmt}{t u:TS}
noncomputable def MM:TS:=λD σ H=>D.nx σ H
noncomputable def Qa(t u:TS):TS:=λD σ H=>t {D with nx:=u D} σ H
def FT:FQ X [] MM:=λ_ _ σ H _ I h=>Sw ⟨σ,H,I,h⟩
theorem B_(h1:PS X st t)(h2:FQ X bd u):FQ X (st::bd) (Qa t u):=by
 intro ag s σ H D I h;refine wpAny_execs_cons (eS (h1 ag s σ H {D with nx:=u D} I h) λf s1 q=>?_);cases f with
 |next=>obtain⟨σ',H',I',q⟩:=q;exact h2 ag s1 σ' H' D I' q
 |ret v=>exact q
 |brk=>exact q
 |cont=>exact q
def zP(h1:PS X st t):FQ X [st] t:=by
 intro ag s σ H D I h;refine wpAny_execs_cons (eS (h1 ag s σ H D I h) λf s1 q=>?_);cases f with
 |next=>exact Sw q
 |ret v=>exact q
 |brk=>exact q
 |cont=>exact q
def Inv.quiet(I:Inv X ag σ H s):interactive X.env=false:=by simp[interactive,I.ok.kind]
noncomputable def MN(te:TE):TS:=λD σ H=>te σ H λ_ H1=>D.nx σ H1
def vI(he:PE X e te)(hs:autoParam (swapsWith e none pos.line X.env=pure false) TV):PS X (.Expr e pos) (MN te):=by intro ag s σ H D I h;exact wpAny_Expr_any (eS (he ag s σ H _ I h) λv s1 ⟨x,H1,I1,r1,q1⟩=>⟨σ,H1,I1,q1⟩) I.quiet hs
noncomputable def Qb(te:TE):TS:=λD σ H=>te σ H D.rt
def Jr(he:PE X e te):PS X (.Return (some e) pos) (Qb te):=by intro ag s σ H D I h;exact wpAny_Return_some (eS (he ag s σ H _ I h) λv s1 ⟨x,H1,I1,r1,q1⟩=>⟨x,σ,H1,I1,r1,q1⟩)
noncomputable def Qc(c:TT)(t u:TS):TS:=λD σ H=>c σ H λb H1=>if b=true then t D σ H1 else u D σ H1
def MO(hc:PT X c tc)(ha:FQ X a t)(hb:FQ X b u):PS X (.If c a b pos) (Qc tc t u):=by
 intro ag s σ H D I h;refine wpAny_If (eS (hc ag s σ H _ I h) λd s1 ⟨H1,I1,q1⟩=>?_);cases d with
 |true=>exact ha ag s1 σ H1 D I1 q1
 |false=>exact hb ag s1 σ H1 D I1 q1
end
abbrev TG:=V->St->Hp->(St->Hp->Prop)->Prop
abbrev Ms:=List V->St->Hp->(St->Hp->Prop)->Prop
def PG(X:Cx)(target:Expr)(t:TG):Prop:=
 ∀(ag:List (Addr×Obj))(s:Tv)(σ:St)(H:Hp)(v:V)(u:TB)(Q:St->Hp->Prop),Inv X ag σ H s->RelV v u->t v σ H Q->
  wpAny (model X.prog X.w) X.A (assign target X.env u) (λ_ s'=>∃σ' H',Inv X ag σ' H' s'/\Q σ' H') X.xe s
def Js(X:Cx)(ts:List Expr)(t:Ms):Prop:=
 ∀(ag:List (Addr×Obj))(s:Tv)(σ:St)(H:Hp)(vs:List V)(us:List TB)(Q:St->Hp->Prop),Inv X ag σ H s->Vals vs us->t vs σ H Q->
  wpAny (model X.prog X.w) X.A (assignInOrder ((assignEach ts X.env).map (·.2)) us) (λ_ s'=>∃σ' H',Inv X ag σ' H' s'/\Q σ' H') X.xe s
abbrev MP:=V->V->V->Hp->(Hp->Prop)->Prop
def MQ(X:Cx)(t:MP):Prop:=
 ∀(ag:List (Addr×Obj))(s:Tv)(σ:St)(H:Hp)(o i v:V)(ov iv u:TB)(Q:Hp->Prop),Inv X ag σ H s->RelV o ov->RelV i iv->RelV v u->t o i v H Q->
  wpAny (model X.prog X.w) X.A (setItem ov iv u) (λ_ s'=>∃H',Inv X ag σ H' s'/\Q H') X.xe s
section
noncomputable def sD(i:Nat):TG:=λv σ H Q=>Q (σ.set i (some v)) H
def zQ(hN:X.N.Nodup)(hi:X.N[i]?=some x)(hx:B4 X.env.scope x)(hf:autoParam (X.fn x=true\/X.env.scope.names.lookup x=some .local) TR):PG X (.Name x pos) (sD i):=by intro ag s σ H v u Q I r h;exact wpAny_assign_Name (sB I hN hi hx r (λs' I'=>⟨_,H,I',h⟩) hf)
noncomputable def Qd:Ms:=λvs σ H Q=>vs=[]/\Q σ H
noncomputable def HK(t:TG)(u:Ms):Ms:=λvs σ H Q=>∃v r,vs=v::r/\t v σ H λσ' H'=>u r σ' H' Q
def FU:Js X [] Qd:=by intro ag s σ H vs us Q I r h;obtain⟨e,h⟩:=h;subst e;cases r;exact assignInOrder_nil ⟨σ,H,I,h⟩
def bv(h1:PG X e t)(h2:Js X es u)
 (hs:autoParam ((assignEach (e::es) X.env).map (·.2)=assign e X.env::(assignEach es X.env).map (·.2)) TV):Js X (e::es) (HK t u):=by
 intro ag s σ H vs us Q I r h;obtain⟨v,vr,e1,h⟩:=h;subst e1;cases r with
 |cons r rr=>rw[hs];refine assignInOrder_cons (eS (h1 ag s σ H _ _ _ I r h) λ_ s1 ⟨σ1,H1,I1,q1⟩=>?_);exact h2 ag s1 σ1 H1 _ _ Q I1 rr q1
noncomputable def Qe(K:Tw)(n:Nat)(t:Ms):TG:=λv σ H Q=>∃a xs,v=.ref a/\SqT K H a xs/\xs.length=n/\t xs σ H Q
def Jt(hc:X.calm=true)(h:Js X es t)
 (hn:autoParam ((assignEach es X.env).length=n) TV) (hst:autoParam ((assignEach es X.env).findIdx? (·.1)=none) TV):PG X (.Tuple es k pos) (Qe X.K n t):=by
 intro ag s σ H v u Q I r hw;obtain⟨a,xs,e1,hq,hl,hw⟩:=hw;subst e1;cases r;obtain⟨its,rv,ht,hz⟩:=I.tuple hq;refine assign_Tuple_tuple (I.ok.hd hc) ht (by simp[hn,<- hl,rv.length]) hst λh' hx=>?_;have I1:Inv X ag σ H {s with heap:=h'}:=I.kept (t':=s.toks) λb o e=>hx b o (je (f6 e)) e;exact h ag _ σ H xs _ Q I1 (by simpa using rv) hw
noncomputable def Qf(to ti:TE)(t:MP):TG:=λv σ H Q=>to σ H λo H1=>ti σ H1 λi H2=>t o i v H2 λH3=>Q σ H3
def Ju(ho:PE X o to)(hi:PE X i ti)(hs:MQ X t)
 (ha:autoParam (∀v,assign (.Subscript o i pos) X.env v=(do
   let ov <- holding [v] (eval o X.env)
   let iv <- holding [v,ov] (eval i X.env)
   standAt pos
   holding [v,ov,iv] (setItem ov iv v)
   release [v,ov,iv] [])) TU):PG X (.Subscript o i pos) (Qf to ti t):=by
 intro ag s σ H v u Q I r h;rw[ha];refine aB (Si (eS (ho ag s σ H _ I h) λov s1 ⟨x,H1,I1,r1,q1⟩=>?_));refine aB (Si (eS (hi ag s1 σ H1 _ I1 q1) λiv s2 ⟨y,H2,I2,r2,q2⟩=>?_));refine aB (Sx (aB (Si (eS (hs ag s2 σ H2 x y v ov iv u _ I2 r1 r2 r q2) λ_ s3 ⟨H3,I3,q3⟩=>?_))));exact wpAny_release ⟨σ,H3,I3,q3⟩
noncomputable def FV(te:TE)(g:TG):TS:=λD σ H=>te σ H λx H1=>g x σ H1 D.nx
def Jv(he:PE X e te)(hg:PG X tg g)(hs:autoParam (swapsWithSole [tg] e pos.line X.env=pure false) TV)(hw:autoParam (swappedStores [tg] e X.env=pure none) TV)
 (h1:autoParam ((assignEach [tg] X.env).map (·.2)=[assign tg X.env]) TV):PS X (.Assign [tg] e pos) (FV te g):=by
 intro ag s σ H D I h;refine wpAny_Assign_stores (eS (he ag s σ H _ I h) λv s1 ⟨x,H1,I1,r1,q1⟩=>?_) hs hw;rw[h1];exact eS (hg ag s1 σ H1 x v _ I1 r1 q1) λ_ s2 q=>q
def yM(hN:X.N.Nodup)(hi:X.N[i]?=some x)(hx:B4 X.env.scope x)(he:PE X e te)(hs:autoParam (swapsWith e (some (.Name x pos')) pos.line X.env=pure false) TV)(hf:autoParam (X.fn x=true\/X.env.scope.names.lookup x=some .local) TR) :
 PS X (.Assign [.Name x pos'] e pos) (FV te (sD i)):=by
 intro ag s σ H D I h;refine wpAny_Assign_Name (eS (he ag s σ H _ I h) λv s1 ⟨y,H1,I1,r1,q1⟩=>?_) hs;exact sB I1 hN hi hx r1 (λs2 I2=>⟨_,H1,I2,q1⟩) hf
end
structure It where
 go:Nat->Hp->Prop
 Jc:Nat->Hp->V->Hp->Prop
 stop:Nat->Hp->Prop
def h8(X:Cx)(ag:List (Addr×Obj))(H:Hp)(b:Addr):Prop:=H b=none/\b≠X.env.locals/\b∉X.fs/\(b∈X.ex\/X.s₀.heap.objs.size<=b)/\(∀x c,X.env.cells.lookup x=some c->c≠b)/\∀p∈X.pn++ag,p.1≠b
def Inv.wQ(I:Inv X ag σ H s)(hb:s.heap.objs.size<=b)(hn:H' b=none):h8 X ag H' b:=by
 refine⟨hn,SM (iB I.lt hb),I.Rb hb,.inr (jQ I.sz hb),λx c e z=>?_,λp hp z=>?_⟩
 .obtain⟨v,q⟩:=I.cell x c e;exact absurd (iB q.lt (by rw[z];exact hb)) (yI _)
 .exact absurd (iB (f6 (I.pin p hp).1) (by rw[z];exact hb)) (yI _)
structure Turn(P:Tz) (w:World) (K:Tw) (tg:Expr) (J:It) (fp:List Addr) (it:Addr) (tn:Nat->Heap->Prop):Prop where
 mem:it∈fp
 obj:∀i h,tn i h->∀b∈fp,∃o,h.get? b=some o/\∀v,o.data≠.cell v
 keep:∀i h h',tn i h->(∀b∈fp,∀o,h.get? b=some o->h'.get? b=some o)->tn i h'
 item:∀(X:Cx),X.prog=P->X.w=w->X.K=K->X.calm=true->∀(i:Nat)(ag:List (Addr×Obj))(s:Tv)(σ:St)(H:Hp)(E:TB->Tv->Prop),Inv X ag σ H s->(∀b∈fp,h8 X ag H b)->tn i s.heap->J.go i H->
  wpAny (model P w) X.A (pyNext (.ref it)) (λr s1=>∃u,r=some u/\
   wpAny (model P w) X.A (letOwnedTupleGo tg (.ref it) u) (λ_ s2=>∃x H',Inv X ag σ H' s2/\RelV x u/\J.Jc i H x H'/\tn (i+1) s2.heap/\∀b∈fp,H' b=none) E s1) E s
 done:∀(X:Cx),X.prog=P->X.w=w->X.K=K->X.calm=true->∀(i:Nat)(ag:List (Addr×Obj))(s:Tv)(σ:St)(H:Hp)(E:TB->Tv->Prop),Inv X ag σ H s->(∀b∈fp,h8 X ag H b)->tn i s.heap->J.stop i H->
  wpAny (model P w) X.A (pyNext (.ref it)) (λr s1=>r=none/\Inv X ag σ H s1) E s
 self:∀(A:TC)(i:Nat)(s:Tv)(Q:TB->Tv->Prop)(E:TB->Tv->Prop),tn i s.heap->Q (.ref it) s->wpAny (model P w) A (pyIter (.ref it)) Q E s
abbrev TI:=St->Hp->(It->Hp->Prop)->Prop
def Rf(X:Cx)(ag:List (Addr×Obj))(σ:St)(tg:Expr)(R:It->Hp->Prop)(itv:TB)(s2:Tv):Prop:=∃(it:Addr)(fp:List Addr)(tn:Nat->Heap->Prop)(J:It)(H':Hp),itv=.ref it/\Inv X ag σ H' s2/\Turn X.prog X.w X.K tg J fp it tn/\tn 0 s2.heap/\(∀b∈fp,h8 X ag H' b)/\R J H'
def PI(X:Cx)(tg iter:Expr)(wi:TI):Prop:=
 ∀(ag:List (Addr×Obj))(s:Tv)(σ:St)(H:Hp)(R:It->Hp->Prop),Inv X ag σ H s->wi σ H R->
  wpAny (model X.prog X.w) X.A (eval iter X.env) (λv s1=>wpAny (model X.prog X.w) X.A (pyIter v) (Rf X ag σ tg R) X.xe s1) X.xe s
def zR(ho:s.heap.get? it=some o)(hc:o.cls=.type n)(hd:o.data=.fields vs)
 (hn:["enumerate","zip","dict_itemiterator","dict_reverseitemiterator","odict_iterator","itertools.zip_longest","itertools.pairwise"].contains n=false) (hQ:Q () s):wpAny M A (letOwnedTupleGo tg (.ref it) u) Q E s:=by
 unfold letOwnedTupleGo;cases tg<;>first
  |exact fW hQ
  |(cases u<;>first
     |exact fW hQ
     |(refine aB (wpAny_load ho ?_)
       rw[hc,hd];show wpAny M A (if(["enumerate","zip","dict_itemiterator","dict_reverseitemiterator","odict_iterator","itertools.zip_longest","itertools.pairwise"].contains n&&vs[0]?==some (rawInt _))=true then _ else _) Q E s;rw[f7 (by intro h;rw[hn,lW]at h;cases h)];exact fW hQ))
noncomputable def Qg(K:Tw)(a:Addr):It:=⟨λi H=>∃xs x,SqL K H a xs/\xs[i]?=some x,λi H x H'=>H'=H/\∀xs,SqL K H a xs->xs[i]?=some x,λi H=>∃xs,SqL K H a xs/\xs.length<=i⟩
noncomputable def Qh(K:Tw)(a:Addr):It:=⟨λi H=>∃xs x,SqT K H a xs/\xs[i]?=some x,λi H x H'=>H'=H/\∀xs,SqT K H a xs->xs[i]?=some x,λi H=>∃xs,SqT K H a xs/\xs.length<=i⟩
noncomputable def MR(lo:Int)(n:Nat):It:=⟨λi _=>i<n,λi H x H'=>H'=H/\x=.int (lo+i),λi _=>n<=i⟩
def AW{K:Tw}{tg:Expr}(a it:Addr):Turn P w K tg (Qg K a) [it] it (λi h=>h.IsListIter it a i) where
 mem:=by simp
 obj:=λi h st b hb=>by
  have e:b=it:=by simpa using hb
  subst e;obtain⟨o,e,c,d⟩:=st;exact⟨o,e,λv z=>by rw[d]at z;cases z⟩
 keep:=λi h h' st k=>st.at λo e=>k it (by simp) o e
 item:=by intro X hP hw hK hc i ag s σ H E I hf st hg;subst hP hw hK;obtain⟨xs,x,hq,hx⟩:=hg;obtain⟨its,rv,p,hz⟩:=I.list hq;obtain⟨u,hu,ru⟩:=rv.get hx;obtain⟨f0,f1,f2,f3,f4,f5⟩:=hf it (by simp);refine wpAny_pyNext_list_item st p.isList (x:=u) (by simpa using hu) λh' st' sb=>?_;have I1:Inv X ag σ H {s with heap:=h'}:=I.turned (t':=s.toks) (λb o hb e=>(sb.2 b hb).trans e) f0 f1 f3 f4 f5;obtain⟨o,e,c,d⟩:=id st';exact⟨u,rfl,zR (s:={s with heap:=h'}) e c d (by decide) ⟨x,H,I1,ru,⟨rfl,λys hy=>by rw[I.yH hy hq];exact hx⟩,st',λb hb=>(hf b hb).1⟩⟩
 done:=by intro X hP hw hK hc i ag s σ H E I hf st hg;subst hP hw hK;obtain⟨xs,hq,hx⟩:=hg;obtain⟨its,rv,p,hz⟩:=I.list hq;obtain⟨f0,f1,f2,f3,f4,f5⟩:=hf it (by simp);have hl:=rv.length;exact wpAny_pyNext_list_end (I.ok.hd hc) st p.isList (by simp;lia) λh' eb=>⟨rfl,I.turned (t':=s.toks) (λb o hb e=>eb b o hb e) f0 f1 f3 f4 f5⟩
 self:=λ_ _ _ _ _ st h=>wpAny_pyIter_listiter st h
def yN{K:Tw}{tg:Expr}(a it:Addr):Turn P w K tg (Qh K a) [it] it (λi h=>h.IsTupleIter it a i) where
 mem:=by simp
 obj:=λi h st b hb=>by
  have e:b=it:=by simpa using hb
  subst e;obtain⟨o,e,c,d⟩:=st;exact⟨o,e,λv z=>by rw[d]at z;cases z⟩
 keep:=λi h h' st k=>st.at λo e=>k it (by simp) o e
 item:=by intro X hP hw hK hc i ag s σ H E I hf st hg;subst hP hw hK;obtain⟨xs,x,hq,hx⟩:=hg;obtain⟨its,rv,p,hz⟩:=I.tuple hq;obtain⟨u,hu,ru⟩:=rv.get hx;obtain⟨f0,f1,f2,f3,f4,f5⟩:=hf it (by simp);refine wpAny_pyNext_tuple_item st (show s.heap.IsTuple a its.toArray from p) (x:=u) (by simpa using hu) λh' st' sb=>?_;have I1:Inv X ag σ H {s with heap:=h'}:=I.turned (t':=s.toks) (λb o hb e=>(sb.2 b hb).trans e) f0 f1 f3 f4 f5;obtain⟨o,e,c,d⟩:=id st';exact⟨u,rfl,zR (s:={s with heap:=h'}) e c d (by decide) ⟨x,H,I1,ru,⟨rfl,λys hy=>by rw[I.BZ hy hq];exact hx⟩,st',λb hb=>(hf b hb).1⟩⟩
 done:=by intro X hP hw hK hc i ag s σ H E I hf st hg;subst hP hw hK;obtain⟨xs,hq,hx⟩:=hg;obtain⟨its,rv,p,hz⟩:=I.tuple hq;obtain⟨f0,f1,f2,f3,f4,f5⟩:=hf it (by simp);have hl:=rv.length;exact wpAny_pyNext_tuple_end (I.ok.hd hc) st (show s.heap.IsTuple a its.toArray from p) (by simp;lia) λh' eb=>⟨rfl,I.turned (t':=s.toks) (λb o hb e=>eb b o hb e) f0 f1 f3 f4 f5⟩
 self:=λ_ _ _ _ _ st h=>wpAny_pyIter_tupleiter st h
def yO{K:Tw}{tg:Expr}(it:Addr)(lo:Int)(n:Nat):Turn P w K tg (MR lo n) [it] it (λi h=>IsRangeIter h it (lo+(i:Nat)*1) ((n:Int)-(i:Nat)) 1) where
 mem:=by simp
 obj:=λi h st b hb=>by grind
 keep:=λi h h' st k=>k it (by simp) _ st
 item:=by intro X hP hw hK hc i ag s σ H E I hf st hg;subst hP hw hK;obtain⟨f0,f1,f2,f3,f4,f5⟩:=hf it (by simp);have W:=Walks.range (prog:=X.prog) (w:=X.w) (I.ok.hd hc) it lo 1 n;refine W.item i s _ _ hg st λv h' tk hv st' kk=>?_;obtain⟨t,rfl⟩:=hv;have I1:Inv X ag σ H {s with heap:=h',toks:=tk}:=I.turned (λb o hb e=>kk b o (by simpa using hb) e) f0 f1 f3 f4 f5;refine⟨_,rfl,zR (s:={s with heap:=h',toks:=tk}) (n:="range_iterator") st' rfl rfl (by decide) ⟨.int (lo+i),H,I1,⟨t,?_⟩,⟨rfl,rfl⟩,st',λb hb=>(hf b hb).1⟩⟩;rw[Int.mul_one]
 done:=by intro X hP hw hK hc i ag s σ H E I hf st hg;subst hP hw hK;obtain⟨f0,f1,f2,f3,f4,f5⟩:=hf it (by simp);exact wpAny_pyNext_range_end (I.ok.hd hc) st (by have:n<=i:=hg;lia) λh' eb=>⟨rfl,I.turned (t':=s.toks) (λb o hb e=>eb b o hb e) f0 f1 f3 f4 f5⟩
 self:=λ_ _ _ _ _ st h=>wpAny_pyIter_rangeiter st h
section
def xg{s:Tv}{R:It->Hp->Prop}{E:TB->Tv->Prop}{lo hi:Int}{t u v:Tok}{tk:Nat}(I:Inv X ag σ H s)(h1:-(2^62)<=lo)(h2:lo<2^62)(h3:-(2^62)<=hi)(h4:hi<2^62)
 (q:R (MR lo (hi-lo).toNat) H):wX X (pyIter (.ref s.heap.objs.size)) (Rf X ag σ tg R) E { s with heap:=s.heap.push { cls:=.type "range",data:=.fields #[.int lo t,.int hi u,.int 1 v] },toks:=tk }:=by
 refine wpAny_pyIter_range (IsRange.new ..) (small_one h1 h2 h3 h4) ?_;have I1:Inv X ag σ H { s with heap:=s.heap.push { cls:=.type "range",data:=.fields #[.int lo t,.int hi u,.int 1 v] },toks:=tk }:=I.kept λb o e=>c6 _ e;refine⟨(s.heap.push { cls:=.type "range",data:=.fields #[.int lo t,.int hi u,.int 1 v] }).objs.size,[(s.heap.push { cls:=.type "range",data:=.fields #[.int lo t,.int hi u,.int 1 v] }).objs.size],_,_,H,rfl,
  I1.kept (t':=tk) λb o e=>c6 _ e,yO _ lo (hi-lo).toNat,?_,λb hb=>?_,q⟩
 .have e1:lo+((0:Nat):Int)*1=lo:=by simp
  have e2:(((hi-lo).toNat:Nat):Int)-((0:Nat):Int)=Builtin.Range.rangeSize lo hi 1:=by rw[rangeSize_one];split<;>lia
  show IsRangeIter _ _ (lo+((0:Nat):Int)*1) ((((hi-lo).toNat:Nat):Int)-((0:Nat):Int)) 1;rw[e1,e2];exact gM _ rfl
 .have e:b=(s.heap.push { cls:=.type "range",data:=.fields #[.int lo t,.int hi u,.int 1 v] }).objs.size:=by simpa using hb
  subst e;exact I1.wQ (dJ _) (I1.bP.fresh (dJ _))
def MS(ta:TA):TI:=λσ H R=>ta σ H λvs H1=>∃j:Int,vs=[.int j]/\-(2^62)<=j/\j<2^62/\R (MR 0 j.toNat) H1
def MT(ta:TA):TI:=λσ H R=>ta σ H λvs H1=>∃i j:Int,vs=[.int i,.int j]/\(-(2^62)<=i/\i<2^62/\-(2^62)<=j/\j<2^62)/\R (MR i (j-i).toNat) H1
def AX{a:Expr}{ta:TA}{p pos:Pos}(hg:Gl X "range") (hm:X.mg "range"=none) (ha:PA X [a] ta) (hs:autoParam (starEach [a] X.env=[(false,eval a X.env)]) TV):PI X tg (.Call (.Name "range" p) [a] [] pos) (MS ta):=by
 intro ag s σ H R I h;refine Call_ (nS I hg hm boot_range (nL (eS (ha pos ag s σ H _ I h) λus s1 ⟨vs,H1,I1,r1,q1⟩=>?_) hs rfl));obtain⟨j,e,q1,q2,q⟩:=q1;subst e;cases r1 with
 |cons r rr=>cases rr;obtain⟨t,rfl⟩:=r;exact call_range_1 (xg I1 (by lia) (by lia) q1 q2 (by simpa using q))
def AY(hg:Gl X "range") (hm:X.mg "range"=none) (ha:PA X [a,b] ta) (hs:autoParam (starEach [a,b] X.env=[(false,eval a X.env),(false,eval b X.env)]) TV) (hs2:autoParam (starEach [b] X.env=[(false,eval b X.env)]) TV) :
 PI X tg (.Call (.Name "range" p) [a,b] [] pos) (MT ta):=by
 intro ag s σ H R I h;refine Call_ (nS I hg hm boot_range (nL (eS (ha pos ag s σ H _ I h) λus s1 ⟨vs,H1,I1,r1,q1⟩=>?_) (by rw[hs,hs2]) (by rw[hs2];rfl)));obtain⟨i,j,e,⟨q1,q2,q3,q4⟩,q⟩:=q1;subst e;cases r1 with
 |cons r rr=>
  cases rr with
  |cons r' rr=>cases rr;obtain⟨t,rfl⟩:=r;obtain⟨t',rfl⟩:=r';exact call_range_2 (xg I1 q1 q2 q3 q4 q)
def Qi(wi:TI)(g:TG)(tb:TS):TS:=λD σ H=>wi σ H λJ H1=>∃W:Nat->Nat->St->Hp->Prop,(∃m,W 0 m σ H1)/\∀i m σ H,W i m σ H->
 (J.stop i H/\D.nx σ H)\/(J.go i H/\∃N:St->Hp->Prop,(∀σ' H',N σ' H'->∃m',m'<m/\W (i+1) m' σ' H')/\∀x H',J.Jc i H x H'->g x σ H' λσ2 H2=>tb {D with nx:=N,ct:=N,bk:=D.nx} σ2 H2)
noncomputable def pY(fp:List Addr)(h:Heap):List (Addr×Obj):=fp.filterMap λb=>(h.get? b).map λo=>(b,o)
def ib(hb:b∈fp)(e:h.get? b=some o):(b,o)∈pY fp h:=nM.mpr ⟨b,hb,by rw[e];rfl⟩
def AZ(hp:p∈pY fp h):p.1∈fp/\h.get? p.1=some p.2:=by
 obtain⟨b,hb,e⟩:=nM.mp hp;cases q:h.get? b with
 |none=>rw[q]at e;cases e
 |some o=>rw[q]at e;have e':(b,o)=p:=jD e;subst e';exact⟨hb,q⟩
def Inv.pinned(I:Inv X ag σ H s)(hf:∀b∈fp,h8 X ag H b)(ho:∀b∈fp,∃o,s.heap.get? b=some o/\∀v,o.data≠.cell v):Inv X (ag++pY fp s.heap) σ H s:=
 I.AN λp hp=>(ir.mp hp).elim (λz=>I.pin p (f_ _ z)) λz=>by
  obtain⟨hb,e⟩:=AZ z;obtain⟨f0,f1,f2,_⟩:=hf p.1 hb
  grind
def Inv.mT(I:Inv X (ag++pl) σ H s):Inv X ag σ H s:=I.AN λp hp=>I.pin p (f_ _ (nQ _ hp))
def Jw(hp:PassesOwn (model X.prog X.w) X.A X.env X.xe)(hc:X.calm=true)(hi:PI X tg iter wi)(hg:PG X tg g)(hb:FQ X body tb)
 (hs:autoParam (∀x,foldedSetIterable iter X.env x=pure x) TU):PS X (.For tg iter body [] pos) (Qi wi g tb):=by
 intro ag s σ H D I h;refine wpAny_For (eS (hi ag s σ H _ I h) λv s1 h1=>eS h1 λitv s2 h2=>?_) hs;obtain⟨it,fp,tn,J,H2,e,I2,T,st2,f2,W,⟨m0,w0⟩,turn⟩:=h2;subst e;have stat:∀{H':Hp},(∀b∈fp,H' b=none)->∀b∈fp,h8 X ag H' b:=λhn b hb=>⟨hn b hb,(f2 b hb).2⟩;refine codeAny_forLoop_any (λn s'=>∃i σ' H',Inv X ag σ' H' s'/\tn i s'.heap/\(∀b∈fp,H' b=none)/\W i n σ' H') ?_ m0 ⟨0,σ,H2,I2,st2,λb hb=>(f2 b hb).1,w0⟩;rintro n s3 ⟨i,σ3,H3,I3,st3,fr3,w3⟩;rcases turn i n σ3 H3 w3 with⟨stop,qn⟩|⟨go,N,hN,step⟩
 .refine Sy hp (eS (T.done X rfl rfl rfl hc i ag s3 σ3 H3 X.xe I3 (stat fr3) st3 stop) λr s4 ⟨hr,I4⟩=>?_);subst hr;exact Sw ⟨σ3,H3,I4,qn⟩
 .refine Sy hp (eS (T.item X rfl rfl rfl hc i ag s3 σ3 H3 X.xe I3 (stat fr3) st3 go) λr s4 ⟨u,hr,h4⟩=>?_);subst hr;refine Sy hp (eS h4 λ_ s5 ⟨x,H5,I5,r5,y5,st5,fr5⟩=>?_);have I5':=I5.pinned (stat fr5) (T.obj _ _ st5);refine Sy hp (eS (hg _ s5 σ3 H5 x u _ I5' r5 (step x H5 y5)) λ_ s6 ⟨σ6,H6,I6,q6⟩=>?_);refine Sy hp (eS (hb _ s6 σ6 H6 _ I6 q6) λf s7 q7=>?_);have again:∀{σ7:St}{H7:Hp},Inv X (ag++pY fp s5.heap) σ7 H7 s7->N σ7 H7->∃m,m<n/\∃i σ' H',Inv X ag σ' H' s7/\tn i s7.heap/\(∀b∈fp,H' b=none)/\W i m σ' H':=λ{σ7 H7} I7 n7=>by obtain⟨m',hm,w7⟩:=hN σ7 H7 n7;refine⟨m',hm,i+1,σ7,H7,I7.mT,T.keep _ _ _ st5 λb hb o e=>(I7.pin (b,o) (f_ _ (f_ _ (ib hb e)))).1,λb hb=>?_,w7⟩;obtain⟨o,e,d⟩:=T.obj _ _ st5 b hb;exact(I7.pin (b,o) (f_ _ (f_ _ (ib hb e)))).2.1
  cases f with
  |next=>obtain⟨σ7,H7,I7,n7⟩:=q7;exact again I7 n7
  |cont=>obtain⟨σ7,H7,I7,n7⟩:=q7;exact again I7 n7
  |brk=>obtain⟨σ7,H7,I7,q7⟩:=q7;exact⟨σ7,H7,I7.mT,q7⟩
  |ret v=>obtain⟨x7,σ7,H7,I7,r7,q7⟩:=q7;exact⟨x7,σ7,H7,I7.mT,r7,q7⟩
end
abbrev R2:=V->V->Hp->VK->Prop
def OpR(X:Cx)(f:TB->TB->Sem TB)(r:R2):Prop:=
 ∀(ag:List (Addr×Obj))(s:Tv)(σ:St)(H:Hp)(x y:V)(v u:TB)(Q:VK),Inv X ag σ H s->RelV x v->RelV y u->r x y H Q->
  wpAny (model X.prog X.w) X.A (f v u) (EP X ag σ Q) X.xe s
def Qj(X:Cx)(f:TB->Sem TB)(r:V->Hp->VK->Prop):Prop:=
 ∀(ag:List (Addr×Obj))(s:Tv)(σ:St)(H:Hp)(x:V)(v:TB)(Q:VK),Inv X ag σ H s->RelV x v->r x H Q->
  wpAny (model X.prog X.w) X.A (f v) (EP X ag σ Q) X.xe s
def CallR(X:Cx)(f:TB)(r:List V->Hp->VK->Prop):Prop:=
 ∀(ag:List (Addr×Obj))(s:Tv)(σ:St)(H:Hp)(xs:List V)(us:List TB)(Q:VK),Inv X ag σ H s->Vals xs us->r xs H Q->
  wpAny (model X.prog X.w) X.A (call f us) (EP X ag σ Q) X.xe s
def Qk(X:Cx)(r:V->Hp->(Bool->Hp->Prop)->Prop):Prop:=
 ∀(ag:List (Addr×Obj))(s:Tv)(σ:St)(H:Hp)(x:V)(v:TB)(Q:Bool->Hp->Prop),Inv X ag σ H s->RelV x v->r x H Q->
  wpAny (model X.prog X.w) X.A (truthy v) (TP X ag σ Q) X.xe s
noncomputable def Mt(r:R2)(ta tb:TE):TE:=λσ H Q=>ta σ H λx H1=>tb σ H1 λy H2=>r x y H2 Q
noncomputable def RD(r:V->Hp->VK->Prop)(ta:TE):TE:=λσ H Q=>ta σ H λx H1=>r x H1 Q
noncomputable def rI(C:Int->Int->Prop)(g:Int->Int->V):R2:=λx y H Q=>∃i j,x=.int i/\y=.int j/\C i j/\Q (g i j) H
noncomputable def HL(g:Int->Int->V):R2:=λx y H Q=>∃i j,x=.int i/\y=.int j/\Q (g i j) H
noncomputable def rU(g:Int->V):V->Hp->VK->Prop:=λx H Q=>∃i,x=.int i/\Q (g i) H
section
def Jx(ha:PE X a ta)(hb:PE X b tb){R:V->V->Hp->Prop}(I:Inv X ag σ H s)
 (h:ta σ H λx H1=>tb σ H1 λy H2=>R x y H2) {Q:TB->Tv->Prop} {f:TB->TB->Sem TB}
 (hf:∀v u s2 x y H2,Inv X ag σ H2 s2->RelV x v->RelV y u->R x y H2->wX X (f v u) Q X.xe s2) :
 wX X (eval a X.env) (λv s₁=>wX X (eval b X.env) (λu s₂=>wX X (f v u) Q X.xe s₂) X.xe s₁) X.xe s:=by
 refine eS (ha ag s σ H _ I h) λv s1 ⟨x,H1,I1,r1,q1⟩=>?_;refine eS (hb ag s1 σ H1 _ I1 q1) λu s2 ⟨y,H2,I2,r2,q2⟩=>?_;exact hf v u s2 x y H2 I2 r1 r2 q2
def HM{op:Operator}(ho:OpR X (binaryOp op) r)(ha:PE X a ta)(hb:PE X b tb):PE X (.BinOp a op b pos) (Mt r ta tb):=by intro ag s σ H Q I h;exact wpAny_BinOp (Jx ha hb I h λv u s2 x y H2 I2 rx ry q=>ho ag s2 σ H2 x y v u Q I2 rx ry q)
def MU(ho:Qj X (unaryOp op) r)(ha:PE X a ta):PE X (.UnaryOp op a pos) (RD r ta):=by intro ag s σ H Q I h;exact UnaryOp_ (eS (ha ag s σ H _ I h) λv s1 ⟨x,H1,I1,r1,q1⟩=>ho ag s1 σ H1 x v Q I1 r1 q1)
def PH{f:TB->TB->Sem TB}{C:Int->Int->Prop}{g:Int->Int->Int}
 (rule:∀(i j:Int)(t u:Tok)(s:Tv)(Q:TB->Tv->Prop)(E:TB->Tv->Prop),C i j->Q (.int (g i j) s.toks) {s with toks:=s.toks+1}->wX X (f (.int i t) (.int j u)) Q E s) :
 OpR X f (rI C λi j=>.int (g i j)):=by
 intro ag s σ H x y v u Q I rx ry h;obtain⟨i,j,rfl,rfl,hc,q⟩:=h;obtain⟨t,rfl⟩:=rx;obtain⟨t',rfl⟩:=ry;exact rule i j t t' s _ _ hc ⟨.int (g i j),H,I.tok _,⟨_,rfl⟩,q⟩
def MV{f:TB->TB->Sem TB}{g:Int->Int->Int}
 (rule:∀(i j:Int)(t u:Tok)(s:Tv)(Q:TB->Tv->Prop)(E:TB->Tv->Prop),Q (.int (g i j) s.toks) {s with toks:=s.toks+1}->wX X (f (.int i t) (.int j u)) Q E s) :
 OpR X f (HL λi j=>.int (g i j)):=by
 intro ag s σ H x y v u Q I rx ry h;obtain⟨i,j,rfl,rfl,q⟩:=h;obtain⟨t,rfl⟩:=rx;obtain⟨t',rfl⟩:=ry;exact rule i j t t' s _ _ ⟨.int (g i j),H,I.tok _,⟨_,rfl⟩,q⟩
def Jy{f:TB->TB->Sem TB}{g:Int->Int->Bool}
 (rule:∀(i j:Int)(t u:Tok)(s:Tv)(Q:TB->Tv->Prop)(E:TB->Tv->Prop),Q (.bool (g i j)) s->wX X (f (.int i t) (.int j u)) Q E s) :
 OpR X f (HL λi j=>.bl (g i j)):=by
 intro ag s σ H x y v u Q I rx ry h;obtain⟨i,j,rfl,rfl,q⟩:=h;obtain⟨t,rfl⟩:=rx;obtain⟨t',rfl⟩:=ry;exact rule i j t t' s _ _ ⟨.bl (g i j),H,I,rfl,q⟩
def Ql(i j:Int):Prop:=0<j/\j<1073741824
def Qm(i j:Int):Prop:=0<=j/\j<=1000000/\i.natAbs<2^64
def CMul(i j:Int):Prop:=(-(2^64)<i/\i<2^64)\/(-(2^64)<j/\j<2^64)
def CMul.ok(h:CMul i j):IntMulOk i j:=by
 rcases h with⟨h1,h2⟩|⟨h1,h2⟩
 .exact .of_left (intBits_le_64 h1 h2)
 .exact .of_right (intBits_le_64 h1 h2)
def op_add:OpR X (binaryOp .Add) (HL λi j=>.int (i+j)):=MV λ_ _ _ _ _ _ _ q=>add_int q
def Jz:OpR X (binaryOp .Sub) (HL λi j=>.int (i-j)):=MV λ_ _ _ _ _ _ _ q=>sub_int q
def JA:OpR X (binaryOp .Mult) (rI CMul λi j=>.int (i*j)):=PH λ_ _ _ _ _ _ _ hc q=>mul_int q hc.ok
def FW:OpR X (binaryOp .FloorDiv) (rI Ql λi j=>.int (i/j)):=PH λi j _ _ _ _ _ hc q=>by have h1:(0:Int)<j:=hc.1;have h2:j<1073741824:=hc.2;exact floordiv_int (by lia) (by rw[Int.fdiv_eq_ediv_of_nonneg i (by lia)];exact q) (.inl (PyProof.noPylong_small (by lia)))
def JB:OpR X (binaryOp .Mod) (rI (λ_ j=>0<j) λi j=>.int (i%j)):=PH λi j _ _ _ _ _ hc q=>by have h1:(0:Int)<j:=hc;exact mod_int' (by lia) (by rw[Int.fmod_eq_emod_of_nonneg i (by lia)];exact q)
def JC:OpR X (binaryOp .Pow) (rI Qm λi j=>.int (i^j.toNat)):=PH λ_ _ _ _ _ _ _ hc q=>pow_int_small hc.1 hc.2.1 hc.2.2 q
def RE{f:TB->Sem TB}{g:Int->Int}
 (rule:∀(i:Int)(t:Tok)(s:Tv)(Q:TB->Tv->Prop)(E:TB->Tv->Prop),Q (.int (g i) s.toks) {s with toks:=s.toks+1}->wX X (f (.int i t)) Q E s) :
 Qj X f (rU λi=>.int (g i)):=by
 intro ag s σ H x v Q I rx h;obtain⟨i,rfl,q⟩:=h;obtain⟨t,rfl⟩:=rx;exact rule i t s _ _ ⟨.int (g i),H,I.tok _,⟨_,rfl⟩,q⟩
def JD:Qj X (unaryOp .USub) (rU λi=>.int (-i)):=RE λ_ _ _ _ _ q=>neg_int q
end
section
def Ca(I:Inv X ag σ H s)(q:Q (.bl k) H)(e:k=k'):EP X ag σ Q (.bool k') s:=by subst e;exact⟨.bl k,H,I,rfl,q⟩
def MW:OpR X (compareOp .Lt) (HL λi j=>.bl (decide (i<j))):=Jy λ_ _ _ _ _ _ _ q=>lt_int q
def MX:OpR X (compareOp .LtE) (HL λi j=>.bl (decide (i<=j))):=Jy λ_ _ _ _ _ _ _ q=>le_int q
def MY:OpR X (compareOp .GtE) (HL λi j=>.bl (decide (j<=i))):=Jy λ_ _ _ _ _ _ _ q=>ge_int q
def A0:OpR X (compareOp .In) (λx y H Q=>∃i j,x=.str i/\y=.str j/\Q (.bl (!(Builtin.Str.occurrences j i 0 j.length 1).isEmpty)) H):=by intro ag s σ H x y v u Q I rx ry h;obtain⟨i,j,rfl,rfl,q⟩:=h;obtain⟨t,rfl⟩:=rx;obtain⟨t',rfl⟩:=ry;exact in_str (Ca I q rfl)
def OpR.or(h:OpR X f r)(h':OpR X f r'):OpR X f (λx y H Q=>r x y H Q\/r' x y H Q):=by
 intro ag s σ H x y v u Q I rx ry q;rcases q with q|q
 .exact h ag s σ H x y v u Q I rx ry q
 .exact h' ag s σ H x y v u Q I rx ry q
def aG(b:Expr)(h:autoParam (op≠.In) TQ)(h2:autoParam (op≠.NotIn) TQ):behindInMarks op b=false:=by
 have e1:(op==CmpOp.In)=false:=by cases op<;>first|rfl|exact absurd rfl h
 have e2:(op==CmpOp.NotIn)=false:=by cases op<;>first|rfl|exact absurd rfl h2
 cases b<;>simp[behindInMarks,e1,e2]
def zS(ho:OpR X (compareOp op) r)(ha:PE X a ta)(hb:PE X b tb)(hm:behindInMarks op b=false):PE X (.Compare a [op] [b] pos) (Mt r ta tb):=by intro ag s σ H Q I h;exact wpAny_Compare1 (Jx ha hb I h λv u s2 x y H2 I2 rx ry q=>ho ag s2 σ H2 x y v u Q I2 rx ry q) hm
noncomputable def HN(t:TE):TT:=λσ H Q=>t σ H λx H'=>∃k,x=.bl k/\Q k H'
def FX(ho:OpR X (compareOp op) r)(ha:PE X a ta)(hb:PE X b tb)(hm:behindInMarks op b=false):PT X (.Compare a [op] [b] pos) (HN (Mt r ta tb)):=by intro ag s σ H Q I h;refine wpAny_isTrue_Compare1 (eS (ha ag s σ H _ I h) λv s1 ⟨x,H1,I1,r1,q1⟩=>eS (hb ag s1 σ H1 _ I1 q1) λu s2 ⟨y,H2,I2,r2,q2⟩=>eS (ho ag s2 σ H2 x y v u _ I2 r1 r2 q2) λc s3 ⟨z,H3,I3,r3,k,e,q3⟩=>?_) hm;subst e;cases r3;exact nJ ⟨H3,I3,q3⟩
noncomputable def yP(r r':R2)(ta tb tc:TE):TE:=λσ H Q=>ta σ H λx H1=>tb σ H1 λy H2=>r x y H2 λz H3=>∃k,z=.bl k/\
 (if k=true then tc σ H3 λw' H4=>r' y w' H4 Q else Q (.bl false) H3)
def Cb(ho:OpR X (compareOp op) r)(ho':OpR X (compareOp op') r')(ha:PE X a ta)(hb:PE X b tb)(hc:PE X c tc)
 (hm:lastMarks [op,op'] [b,c]=false:=by with_unfolding_all rfl):PE X (.Compare a [op,op'] [b,c] pos) (yP r r' ta tb tc):=by
 intro ag s σ H Q I h;refine Compare_chain (eS (ha ag s σ H _ I h) λv s1 ⟨x,H1,I1,r1,q1⟩=>chain_link (eS (hb ag s1 σ H1 _ I1 q1) λu s2 ⟨y,H2,I2,r2,q2⟩=>eS (ho ag s2 σ H2 x y v u _ I2 r1 r2 q2) λd s3 ⟨z,H3,I3,r3,k,e,q3⟩=>?_)) hm;subst e;cases r3;refine nJ ?_;cases k with
 |false=>exact ite_ff ⟨.bl false,H3,I3,rfl,q3⟩
 |true=>exact ite_tt (chain_last (eS (hc ag s3 σ H3 _ I3 q3) λw' s4 ⟨z',H4,I4,r4,q4⟩=>ho' ag s4 σ H4 y z' u w' Q I4 r2 r4 q4))
def Cc(ho:OpR X (compareOp op) r)(ho':OpR X (compareOp op') r')(ha:PE X a ta)(hb:PE X b tb)(hc:PE X c tc)
 (hm:lastMarks [op,op'] [b,c]=false:=by with_unfolding_all rfl):PT X (.Compare a [op,op'] [b,c] pos) (HN (yP r r' ta tb tc)):=by
 intro ag s σ H Q I h;refine isTrue_chain (eS (ha ag s σ H _ I h) λv s1 ⟨x,H1,I1,r1,q1⟩=>test_link (eS (hb ag s1 σ H1 _ I1 q1) λu s2 ⟨y,H2,I2,r2,q2⟩=>eS (ho ag s2 σ H2 x y v u _ I2 r1 r2 q2) λd s3 ⟨z,H3,I3,r3,k,e,q3⟩=>?_)) hm;subst e;cases r3;refine nJ ?_;cases k with
 |false=>obtain⟨k',e',q'⟩:=q3;cases e';exact ite_ff ⟨H3,I3,q'⟩
 |true=>refine ite_tt (test_last (eS (hc ag s3 σ H3 _ I3 q3) λw' s4 ⟨z',H4,I4,r4,q4⟩=>eS (ho' ag s4 σ H4 y z' u w' _ I4 r2 r4 q4) λd' s5 ⟨z2,H5,I5,r5,k2,e2,q5⟩=>?_));subst e2;cases r5;exact nJ ⟨H5,I5,q5⟩
def JE(K:Tw)(x:V)(H:Hp)(k:Bool):Prop:=
 match x with
 |.gP=>k=false
 |.bl b=>k=b
 |.int i=>k=(i != 0)
 |.str y=>y.length<=sizeLine/\k=((y.length:Int) != 0)
 |.Pv y=>y.size<=sizeLine/\k=((y.size:Int) != 0)
 |.ref p=>(∃xs,SqL K H p xs/\k=!xs.isEmpty)\/(∃xs,SqT K H p xs/\k=!xs.isEmpty)\/∃kvs,H p=some (.dK kvs)/\k=!kvs.isEmpty
 |_=>False
def yQ{κ:Type}{kvs:List (κ×V)}{vs:List (κ×TB)}(r:KV kvs vs):(!vs.isEmpty)=!kvs.isEmpty:=by cases r<;>rfl
def sF(r:Vals xs its):(!its.toArray.isEmpty)=!xs.isEmpty:=by cases r<;>simp
def nT:(sizeLine:Nat)<2^63:=by rw[SH];decide
def JF:Qk X (λx H Q=>∃k,JE X.K x H k/\Q k H):=by
 intro ag s σ H x v Q I rx h;obtain⟨k,e,q⟩:=h;have hl:=nT;have hs:sizeLine=16777216:=SH;cases x with
 |gP=>cases rx;have e':k=false:=e;subst e';exact truthy_none ⟨H,I,q⟩
 |bl b=>cases rx;have e':k=b:=e;subst e';exact nJ ⟨H,I,q⟩
 |int i=>obtain⟨t,rfl⟩:=rx;have e':k=(i != 0):=e;subst e';exact PySem.P.truthy_int ⟨H,I,q⟩
 |str y=>obtain⟨t,rfl⟩:=rx;obtain⟨hy,e'⟩ : y.length<=sizeLine/\k=((y.length:Int) != 0):=e;subst e';exact PySem.P.truthy_str (by lia) ⟨H,I.tok _,q⟩
 |Pv y=>obtain⟨t,rfl⟩:=rx;obtain⟨hy,e'⟩ : y.size<=sizeLine/\k=((y.size:Int) != 0):=e;subst e';exact PySem.W.truthy_bytes (by lia) ⟨H,I.tok _,q⟩
 |ref p=>
  cases rx;have e':(∃xs,SqL X.K H p xs/\k=!xs.isEmpty)\/(∃xs,SqT X.K H p xs/\k=!xs.isEmpty)\/∃kvs,H p=some (.dK kvs)/\k=!kvs.isEmpty:=e;rcases e' with⟨xs,hx,e'⟩|⟨xs,hx,e'⟩|⟨kvs,hx,e'⟩
  .subst e';obtain⟨its,r,pl,hz⟩:=I.list hx;have cj:=r.length;exact wpAny_truthy_list pl.isList (by simp only[eQ];lia) ⟨H,I.tok _,by rw[sF r];exact q⟩
  .subst e';obtain⟨its,r,pl,hz⟩:=I.tuple hx;have cj:=r.length;exact truthy_tuple pl (by simp only[eQ];lia) ⟨H,I.tok _,by rw[sF r];exact q⟩
  .subst e';obtain⟨hz,hS,vs,r,m⟩ : kvs.length<=sizeLine/\(p==sysModules)=false/\∃vs,KV kvs vs/\s.heap.DictOf (bS X.prog X.w) p vs:=I.bP p _ hx;have cj:kvs.length=vs.length:=Paired.length r;exact wpAny_truthy_dict hS m (by lia) ⟨H,I.tok _,by rw[yQ r];exact q⟩
 |_=>exact(show False from e).elim
def Cd(ha:PE X a ta)(he:∀whole,isTrue a X.env whole=(do let v <- whole;standAt a.pos;holding [v] (truthy v))) :
 PT X a (λσ H Q=>ta σ H λx H'=>∃k,JE X.K x H' k/\Q k H'):=by
 intro ag s σ H Q I h;exact isTrue_plain (eS (ha ag s σ H _ I h) λv s1 ⟨x,H1,I1,r1,q1⟩=>JF ag s1 σ H1 x v Q I1 r1 q1) (he _)
def yR:OpR X (binaryOp .Add) (λx y H Q=>∃i j,x=.str i/\y=.str j/\i.length+j.length<=sizeLine/\Q (.str (i++j)) H):=by intro ag s σ H x y v u Q I rx ry h;obtain⟨i,j,rfl,rfl,hz,q⟩:=h;obtain⟨t,rfl⟩:=rx;obtain⟨t',rfl⟩:=ry;exact add_str (λt' tk=>⟨.str (i++j),H,I.tok _,⟨_,rfl⟩,q⟩) hz
def j8(r:Vals [x] us):∃u,us=[u]/\RelV x u:=by
 cases r with
 |cons r1 r2=>cases r2;exact⟨_,rfl,r1⟩
def Ce(r:Vals [x,y] us):∃u w',us=[u,w']/\RelV x u/\RelV y w':=by
 cases r with
 |cons r1 r2=>
  cases r2 with
  |cons r3 r4=>cases r4;exact⟨_,_,rfl,r1,r3⟩
def A1(hc:X.calm=true):CallR X (.builtin "min") (λxs H Q=>∃i j,xs=[.int i,.int j]/\Q (.int (if j<i then j else i)) H):=by
 intro ag s σ H xs us Q I r h;obtain⟨i,j,rfl,q⟩:=h;obtain⟨u,w',rfl,⟨t,rfl⟩,⟨t',rfl⟩⟩:=Ce r;refine min_two_ints (I.ok.hd hc) λh' tk k=>⟨_,H,I.kept k,?_,q⟩;by_cases hj:j<i
 .rw[dL hj,dL hj];exact⟨_,rfl⟩
 .rw[f7 hj,f7 hj];exact⟨_,rfl⟩
def A2:CallR X (.type "int") (λxs H Q=>(∃i,xs=[.int i]/\Q (.int i) H)\/∃k,xs=[.bl k]/\Q (.int (if k then 1 else 0)) H):=by
 intro ag s σ H xs us Q I r h;rcases h with⟨i,rfl,q⟩|⟨k,rfl,q⟩
 .obtain⟨u,rfl,t,rfl⟩:=j8 r;exact call_int_int ⟨.int i,H,I,⟨_,rfl⟩,q⟩
 .obtain⟨u,rfl,r1⟩:=j8 r;cases r1;exact call_int_bool ⟨.int (if k then 1 else 0),H,I.tok _,⟨_,rfl⟩,q⟩
end
structure Mh(h:Heap) (x dx C:Addr) (mA:Str->Option TB):Prop where
 obj:h.get? x=some (PySem.W.instObj C dx)
 ns:h.Ns1 dx mA
 ne:dx≠x
def A3{h:Heap}{mA:Str->Option TB}(n:h.Ns1 dx mA):∃od,h.get? dx=some od/\∀name,PySem.W.lookIn name od=some (mA name):=by
 obtain⟨o,es,ep,ho,hd,hk,_,hm⟩:=n;refine⟨o,ho,λname=>?_⟩;have e:=hm name;unfold nsFind findBy at e;rw[<- Array.find?_toList]at e;unfold PySem.W.lookIn;rw[hd];dsimp only;split
 .rename_i y q;rw[q]at e;exact ly some e
 .rename_i q;rw[q]at e;have a:es.toList.any (·.refKey)=false:=by rw[List.any_eq_false];intro y hy;obtain⟨z,t,Q4⟩:=hk y (Array.mem_toList_iff.mp hy);simp[DictEntry.refKey,Q4]
  have a':¬es.toList.any (·.refKey)=true:=by rw[a];exact ur
  rw[f7 a'];exact ly some e
def Mh.look(I:Mh h x dx C mA):∃od,PySem.W.InstAt h x (PySem.W.instObj C dx) C (some od)/\∀name,PySem.W.lookIn name od=some (mA name):=
 let ⟨od,ho,hl⟩:=A3 I.ns
 ⟨od,⟨I.obj,rfl,rfl,ho⟩,hl⟩
section
def FY(bP:HOk P w H h)(e:H a=some (.ins C dx fs)):∃mA,Mh h a dx C mA/\(∀f,RelO (fs.lookup f) (mA f))/\PySem.Within mA (fs.map (·.1))/\fs.length<=1000/\H dx=some (.own a):=by obtain⟨d,z,ne,ob,mA,n,r,q⟩:=(show ObjOk P w H h a (.ins C dx fs)from bP a _ e);exact⟨mA,⟨ob,n,ne⟩,r,q,z,d⟩
end
structure Q8(K:Tw) (C:Addr):Prop where
 pg:PySem.W.plainGet K C Str.empty=true
 hd:PySem.W.hasDictIn K C=true
 po:PySem.W.plainOver K C=true
 sa:PySem.W.findIn K (.ref C) "__setattr__"=some (some (.builtin "object.__setattr__"))
def Q8.get{K:Tw}(c:Q8 K C)(f:Str):PySem.W.plainGet K C f=true:=c.pg
section
inductive qY(K:Tw) (H:Hp):V->TB->Prop where
 |gP:qY K H .gP (.type "NoneType")
 |bl (x:Bool):qY K H (.bl x) (.type "bool")
 |int (i:Int):qY K H (.int i) (.type "int")
 |str (x:Str):qY K H (.str x) (.type "str")
 |ME (x:UInt64):qY K H (.ME x) (.type "float")
 |lst {a:Addr} {xs:List V} (e:H a=some (.lst xs)):qY K H (.ref a) (.type "list")
 |dr {a:Addr} {o:Obj} {xs:List V} (e:H a=some (.dr o (.lst xs))):qY K H (.ref a) (.type "list")
 |tup {a:Addr} {xs:List V} (e:H a=some (.tup xs)):qY K H (.ref a) (.type "tuple")
 |dK {a:Addr} {kvs:List (gQ×V)} (e:H a=some (.dK kvs)):qY K H (.ref a) (.type "dict")
 |dT {a:Addr} {kvs:List (List gQ×V)} (e:H a=some (.dT kvs)):qY K H (.ref a) (.type "dict")
 |ins {a C dx:Addr} {fs:List (Str×V)} (e:H a=some (.ins C dx fs)) (cl:Q8 K C) (ha:PySem.W.findIn K (.ref C) "__class__"=some (some (.builtin "object.__class__")))
  (hn:PySem.W.specialIn K (.builtin "object.__class__") "__get__"=some (some (.builtin "getset_descriptor.__get__"))) (htk:PySem.W.takesIn K (.builtin "object.__class__")=some true)
  (hm:PySem.W.mroIn K C (.type "object")=some true):qY K H (.ref a) (.ref C)
def A4(I:Inv X ag σ H s)(rx:RelV x u)(ty:qY X.K H x t)(e:PySem.W.kitOne X.K t c=some b)(h:∀tk,Q (.bool b) {s with toks:=tk}) :
 wpAny (model X.prog X.w) A (call (.builtin "isinstance") [u,c]) Q E s:=by
 cases ty with
 |gP=>cases(show u=Value.none from rx);exact lS PySem.W.kitx_none I.sx True.intro e (λz=>nomatch z) h
 |bl y=>cases(show u=Value.bool y from rx);exact lS PySem.W.kitx_bool I.sx True.intro e (λz=>nomatch z) h
 |int i=>obtain⟨t,q⟩:=(show ∃t,u=Value.int i t from rx);cases q;exact lS PySem.W.kitx_int I.sx True.intro e (λz=>nomatch z) h
 |str y=>obtain⟨t,q⟩:=(show ∃t,u=Value.str y t from rx);cases q;exact lS PySem.W.kitx_str I.sx True.intro e (λz=>nomatch z) h
 |ME y=>obtain⟨t,q⟩:=(show ∃t,u=Value.float y t from rx);cases q;exact lS PySem.W.kitx_float I.sx True.intro e (λz=>nomatch z) h
 |@lst a xs ea=>cases(show u=Value.ref a from rx);obtain⟨_,_,n,_,h1⟩:=(show ObjOk X.prog X.w H s.heap a (.lst xs)from I.bP a _ ea);exact lS PySem.W.kitx_list I.sx ⟨_,h1,rfl⟩ e (λz=>nomatch z) h
 |@dr a ob xs ea=>cases(show u=Value.ref a from rx);obtain⟨_,_,_,n,_,h1⟩:=(show ObjOk X.prog X.w H s.heap a (.dr ob (.lst xs))from I.bP a _ ea);exact lS PySem.W.kitx_list I.sx ⟨_,h1,rfl⟩ e (λz=>nomatch z) h
 |@tup a xs ea=>cases(show u=Value.ref a from rx);obtain⟨_,_,_,p⟩:=(show ObjOk X.prog X.w H s.heap a (.tup xs)from I.bP a _ ea);obtain⟨o,h1,h2,_⟩:=p;exact lS PySem.W.kitx_tuple I.sx ⟨o,h1,h2⟩ e (λz=>nomatch z) h
 |@dK a kvs ea=>cases(show u=Value.ref a from rx);obtain⟨_,_,vs,_,p⟩:=(show ObjOk X.prog X.w H s.heap a (.dK kvs)from I.bP a _ ea);obtain⟨o,es,ep,h1,h2,_⟩:=p;exact lS Tg I.sx ⟨o,h1,h2.1⟩ e (λz=>nomatch z) h
 |@dT a kvs ea=>cases(show u=Value.ref a from rx);obtain⟨_,_,xs,_,o,es,ep,h1,h2,_⟩:=(show ObjOk X.prog X.w H s.heap a (.dT kvs)from I.bP a _ ea);exact lS Tg I.sx ⟨o,h1,h2.1⟩ e (λz=>nomatch z) h
 |@ins a C dx fs ea cl ha hn htk hm=>cases(show u=Value.ref a from rx);obtain⟨mA,O,_⟩:=FY I.bP ea;obtain⟨od,J,_⟩:=O.look;exact lS (PySem.W.kitx_own (cl.get _) cl.hd ha hn htk hm) I.sx J e (λz=>nomatch z) h
end
structure j3(k:Nat) (A:TC):Prop where
 hd:A.handled=none
 dp:A.depth+3*k+5<recursionLimit
 un:A.units+16*k+200<cLine
def j3.mono(r:j3 k A)(h:j<=k):j3 j A:=⟨r.hd,by have:=r.dp;lia,by have:=r.un;lia⟩
theorem j3.deeper(r:j3 (k+1) A)(env:Env):j3 k (A.deeper env):=⟨r.hd,by have:=r.dp;show A.depth+1+3*k+5<_;lia,by have:=r.un;show A.units+3+16*k+200<_;lia⟩
theorem j3.depth(r:j3 k A):A.depth<recursionLimit:=by have:=r.dp;lia
theorem j3.units(r:j3 k A):A.units+64<cLine:=by have:=r.un;lia
noncomputable def MZ:TA:=λ_ H Q=>Q [] H
noncomputable def M7(ta:TE)(tr:TA):TA:=λσ H Q=>ta σ H λx H1=>tr σ H1 λxs H2=>Q (x::xs) H2
section
def jl:PA X [] MZ:=λ_ _ _ _ H Q I h=>Calls.spliced_nil ⟨[],H,I,.nil,h⟩
def gR(ha:PE X e te)(hr:PA X es t)(hs:autoParam (starEach (e::es) X.env=(false,eval e X.env)::starEach es X.env) TV):PA X (e::es) (M7 te t):=by intro pos ag s σ H Q I h;rw[hs];show wpAny _ _ (spliced ((false,eval e X.env)::backTo pos (starEach es X.env))) _ _ s;refine Calls.spliced_cons (eS (ha ag s σ H _ I h) λu s1 ⟨x,H1,I1,r1,q1⟩=>?_);exact eS (hr pos ag s1 σ H1 _ I1 q1) λus s2 ⟨xs,H2,I2,r2,q2⟩=>⟨x::xs,H2,I2,.cons r1 r2,q2⟩
def Qn(t:TA):TE:=λσ H Q=>t σ H λxs H1=>xs.length<=sizeLine/\∀p,H1 p=none->Q (.ref p) (bQ H1 p (.tup xs))
def M8(t:TA):TE:=λσ H Q=>t σ H λxs H1=>xs.length<=sizeLine/\∀p,H1 p=none->Q (.ref p) (bQ H1 p (.lst xs))
def JG{x1}(h:PA X es t):PE X (.Tuple es x1 pos) (Qn t):=by intro ag s σ H Q I hq;refine wpAny_Tuple_spliced (eS (h pos ag s σ H _ I hq) λus s1 ⟨xs,H1,I1,r,z,q⟩=>⟨by rw[<- r.length];exact z,?_⟩);have hf:H1 s1.heap.objs.size=none:=I1.bP.fresh (dJ _);refine⟨.ref s1.heap.objs.size,bQ H1 s1.heap.objs.size (.tup xs),I1.laid (t':=s1.toks) (λb u e=>c6 _ e) (dJ _) ?_,rfl,q _ hf⟩;exact⟨z,us,r,⟨_,gM _ rfl,rfl,_,rfl⟩⟩
def yS(h:PA X es t):PE X (.List es pos) (M8 t):=by intro ag s σ H Q I hq;refine wpAny_List_spliced (eS (h pos ag s σ H _ I hq) λus s1 ⟨xs,H1,I1,r,z,q⟩=>⟨by rw[<- r.length];exact z,?_⟩);have hf:H1 s1.heap.objs.size=none:=I1.bP.fresh (dJ _);refine⟨.ref s1.heap.objs.size,bQ H1 s1.heap.objs.size (.lst xs),I1.laid (t':=s1.toks) (λb u e=>c6 _ e) (dJ _) ?_,rfl,q _ hf⟩;exact⟨z,us,0,r,gM _ rfl⟩
end
abbrev Sp:=List V->Hp->VK->XK->Prop
abbrev FI:=List Env->Hp->Tv->XK->TB->Tv->Prop
structure HI(P:Tz) (w:World) (K:Tw) (mg:Str->Option TB) (base:Heap) (A:TC) (outer:List Env) (s:Tv) (H:Hp):Prop where
 frames:A.frames=some outer
 mod:Mod K mg base
 bs:∀b o,base.get? b=some o->s.heap.get? b=some o/\H b=none
 FN:base.objs.size<=s.heap.objs.size
 qX:s.heap.FunFrames base outer
 Jd:∀b∈jJ outer,H b=none
 bP:HOk P w H s.heap
 bare:AllBare s.gens
 kt:Mr K H
def CE(outer:List Env)(P:Tz)(w:World)(H:Hp)(s:Tv)(Q:VK)(u:TB)(s':Tv):Prop:=∃v H',s'.os=s.os/\AllBare s'.gens/\Un (jJ outer) [] H H' s.heap s'.heap/\HOk P w H' s'.heap/\RelV v u/\Q v H'
def CR(CX:FI)(outer:List Env)(P:Tz)(w:World)(H:Hp)(s:Tv)(Q:VK)(E:XK)(r:Result)(s':Tv):Prop:=
 match r with
 |.ok (.ret u)=>CE outer P w H s Q u s'
 |.ok _=>False
 |.error e=>CX outer H s E e s'
structure cw(P:Tz) (w:World) (K:Tw) (mg:Str->Option TB) (base:Heap) (CX:FI) (k:Nat) (f:Addr) (fd:FuncData) (ps:List Str) (sp:Sp):Prop where
 len:∀vs H Q E,sp vs H Q E->vs.length=ps.length
 run:∀(A:TC)(outer:List Env)(s:Tv)(H:Hp)(args:Args)(us:List TB)(vs:List V)(Q:VK)(E:XK),j3 k A->HI P w K mg base A outer s H->BindsTo s fd args (ps.zip us)->Vals vs us->sp vs H Q E->
  codeAny (model P w) A (.call (.ref f) args) (CR CX outer P w H s Q E) s
def cw.imp{P:Tz}{w:World}{K:Tw}{mg:Str->Option TB}{base:Heap}{CX:FI}(F:cw P w K mg base CX k f fd ps sp)
 (h:∀vs H Q E,sp' vs H Q E->sp vs H Q E):cw P w K mg base CX k f fd ps sp':=
 ⟨λvs H Q E q=>F.len vs H Q E (h _ _ _ _ q),λA outer s H args us vs Q E hr he hb hv hs=>F.run A outer s H args us vs Q E hr he hb hv (h _ _ _ _ hs)⟩
section
def Inv.PC(I:Inv X ag σ H s):HI X.prog X.w X.K X.mg X.base X.A X.stack s H:=⟨I.ok.frames,I.ok.mod,I.bs,jQ I.ok.FN I.sz,I.stack,I.wU,I.bP,I.bare,I.kt⟩
def Inv.after(I:Inv X ag σ H s)(h:CE X.stack X.prog X.w H s Q u s'):EP X ag σ Q u s':=by obtain⟨v,H',os,bare,un,bP,r,q⟩:=h;obtain⟨hh,g,d,t,os'⟩:=s';obtain rfl:os'=s.os:=os;exact⟨v,H',I.call (h':=hh) (g':=g) (d':=d) (t':=t) (ch:=[]) un bP bare (λb z=>absurd z (by simp)),r,q⟩
end
noncomputable def HP(sp:Sp)(dvs:List V)(E:XK)(t:TA):TE:=λσ H Q=>t σ H λvs H1=>sp (vs++dvs) H1 Q E
def Binds(K:Tw)(fd:FuncData)(ps:List Str)(ds:List TB):Prop:=∀(s:Tv)(us:List TB),K.In s.heap->(us++ds).length=ps.length->BindsTo s fd ⟨us,[]⟩ (ps.zip (us++ds))
def Binds.all{K:Tw}(h:∀us:List TB,us.length=ps.length->bindArgs fd ⟨us,[]⟩=pure (ps.zip us)):Binds K fd ps []:=λs us _ hl=>by rw[lT]at hl ⊢;exact .of_eq (h us hl)
def nU(CX:FI)(X:Cx)(E:XK):Prop:=∀(ag:List (Addr×Obj))(σ:St)(H:Hp)(s:Tv)(e:TB)(s':Tv),Inv X ag σ H s->CX X.stack H s E e s'->X.xe e s'
section
def JH(F:cw X.prog X.w X.K X.mg X.base CX k f fd ps sp)(hr:j3 k X.A)(hb:Binds X.K fd ps ds)(hd:Vals dvs ds)(hx:nU CX X E)
 (I:Inv X ag σ H s) (r:Vals vs us) (h:sp (vs++dvs) H Q E):wX X (call (.ref f) us) (EP X ag σ Q) X.xe s:=by
 have r2:Vals (vs++dvs) (us++ds):=r.append hd;have hl:(us++ds).length=ps.length:=by rw[<- r2.length];exact F.len _ _ _ _ h
 refine wpAny_call (SN (F.run X.A X.stack s H ⟨us,[]⟩ (us++ds) (vs++dvs) Q E hr I.PC (hb s us I.sx hl) r2 h) λr s' hq=>?_);cases r with
 |error e=>exact hx ag σ H s e s' I hq
 |ok fl=>
  cases fl with
  |ret u=>exact I.after hq
  |next=>exact False.elim hq
  |brk=>exact False.elim hq
  |cont=>exact False.elim hq
def FZ(F:cw X.prog X.w X.K X.mg X.base CX k f fd ps sp)(hr:j3 k X.A)(hg:Gl X x)(hm:X.mg x=some (.ref f))(hk:keepIn X.K (.ref f)=true)(hb:Binds X.K fd ps ds)(hd:Vals dvs ds)(hx:nU CX X E)
 (ha:PA X (e::es) t) (hdb:autoParam (dB x) TQ) (he:autoParam (sE X e es) TV) (hpl:autoParam (bT X pos es) TV) :
 PE X (.Call (.Name x p) (e::es) [] pos) (HP sp dvs E t):=by
 intro ag s σ H Q I h;refine Sz (oy I hg hm ?_ hdb);refine PySem.W.callWith_K (h₀:=X.base) I.ok.mod.xK hk (eS (ha pos ag s σ H _ I h) λus s1 ⟨vs,H1,I1,r,q⟩=>⟨I1.sx,?_⟩) he hpl;exact JH F hr hb hd hx I1 r q
end
structure aZ(N P:List Str) (sc:Scope):Prop where
 kind:sc.kind=.function
 co:sc.isCoroutine=false
 gen:sc.isGenerator=false
 nd:N.Nodup
 pre:N.take P.length=P
 par:∀x∈P,sc.names.lookup x=some .local\/sc.names.lookup x=some .cell
 Mi:∀y∈sc.names,y.2≠.free
theorem u4{kindOf:Str->Option NameKind}:∀{binds:List (Str×TB)}{m:Str->Option TB},(∀v,(x,v)∉binds)->bindL kindOf binds m x=m x
 |[],_,_=>rfl
 |(n,v)::r,m,h=>by
  unfold bindL;rw[u4 λw hw=>h w (gO _ hw)];split
  .have:x≠n:=by rintro rfl;exact h v rM
   simp[this]
  .rfl
theorem u5{kindOf:Str->Option NameKind}:∀{binds:List (Str×TB)}{m:Str->Option TB},(∀v,(x,v)∉binds)->bindC kindOf binds m x=m x
 |[],_,_=>rfl
 |(n,v)::r,m,h=>by
  unfold bindC;rw[u5 λw hw=>h w (gO _ hw)];split
  .rfl
  .have:x≠n:=by rintro rfl;exact h v rM
   simp[this]
theorem u6{kindOf:Str->Option NameKind}:∀{P:List Str}{vs:List TB}{i:Nat}{m:Str->Option TB},P.Nodup->P[i]?=some x->vs[i]?=some v->kindOf x=some .local->
 bindL kindOf (P.zip vs) m x=some v
 |[],_,_,_,_,h,_,_=>by simp at h
 |_::_,[],_,_,_,_,h,_=>by simp at h
 |p::P,w::vs,0,m,nd,h1,h2,hk=>by simp at h1 h2;subst h1;subst h2;show bindL kindOf ((p,w)::P.zip vs) m p=_;unfold bindL;rw[u4 λv hv=>(S4.mp nd).1 (S5 hv).1,dL hk];simp
 |p::P,w::vs,i+1,m,nd,h1,h2,hk=>by show bindL kindOf ((p,w)::P.zip vs) m x=_;unfold bindL;exact u6 (i:=i) (S4.mp nd).2 (by simpa using h1) (by simpa using h2) hk
theorem u7{kindOf:Str->Option NameKind}:∀{P:List Str}{vs:List TB}{i:Nat}{m:Str->Option TB},P.Nodup->P[i]?=some x->vs[i]?=some v->kindOf x≠some .local->
 bindC kindOf (P.zip vs) m x=some v
 |[],_,_,_,_,h,_,_=>by simp at h
 |_::_,[],_,_,_,_,h,_=>by simp at h
 |p::P,w::vs,0,m,nd,h1,h2,hk=>by simp at h1 h2;subst h1;subst h2;show bindC kindOf ((p,w)::P.zip vs) m p=_;unfold bindC;rw[u5 λv hv=>(S4.mp nd).1 (S5 hv).1,f7 hk];simp
 |p::P,w::vs,i+1,m,nd,h1,h2,hk=>by show bindC kindOf ((p,w)::P.zip vs) m x=_;unfold bindC;exact u7 (i:=i) (S4.mp nd).2 (by simpa using h1) (by simpa using h2) hk
noncomputable def ma(N:List Str)(vs:List V):St:=vs.map some++List.replicate (N.length-vs.length) none
noncomputable def A5(CX:FI)(P:Tz)(w:World)(K:Tw)(mg:Str->Option TB)(base:Heap)(N:List Str)(qual:Str)(scope:Scope)(f:Addr)(cd:TB)(A:TC)(outer:List Env)(s:Tv)(H:Hp)(E:XK):Cx where
 prog:=P
 w:=w
 K:=K
 mg:=mg
 base:=base
 A:=A.deeper (envOfC qual scope s.heap.objs.size f cd)
 N:=N
 s₀:=s
 H₀:=H
 env:=envOfC qual scope s.heap.objs.size f cd
 outer:=outer
 stack:=envOfC qual scope s.heap.objs.size f cd::outer
 ex:=[]
 calm:=true
 fn:=λ_=>true
 pn:=[]
 xe:=λe s'=>wpAny (model P w) (A.deeper (envOfC qual scope s.heap.objs.size f cd)) (leaving (envOfC qual scope s.heap.objs.size f cd) e) (λ_ s''=>CX outer H s E e s'') (λe' s''=>CX outer H s E e' s'') s'
def xh{sc:Scope}(h:sc.names.lookup x=some .cell):∃c,(cellsFrom n sc.names []).lookup x=some c:=by have q:=PySem.W.cellsFrom_some sc.names n [] (.inl h);exact Su.mp q
def A6{CX:FI}{P:Tz}{w:World}{K:Tw}{mg:Str->Option TB}{base:Heap}{N ps:List Str}{qual:Str}{scope:Scope}
 (S:aZ N ps scope) (hd:A.handled=none) (e0:HI P w K mg base A outer s H) (hl:vs.length=ps.length) (r:Vals vs us)
 (x:InCallC s s.heap.objs.size (bindL (envOfC qual scope s.heap.objs.size f cd).kindOf (ps.zip us) λ_=>none) (cellsFrom (s.heap.objs.size+1) scope.names []) (bindC (envOfC qual scope s.heap.objs.size f cd).kindOf (ps.zip us) λ_=>none) s1) :
 Inv (A5 CX P w K mg base N qual scope f cd A outer s H E) [] (ma N vs) H s1:=by
 have hpl:ps.length<=N.length:=by have:=ly List.length S.pre;rw[lC]at this;lia
 obtain⟨h1,tk,rfl,hk⟩:=x.done;have noA:∀b:Addr,b∉(A5 CX P w K mg base N qual scope f cd A outer s H E).ex:=λb z=>absurd (show b∈([]:List Addr)from z) (by simp);refine⟨⟨e0.mod,S.kind,rfl,rfl,dJ _,λy z c h1 h2=>?_,λy hy=>?_,λy c _ h=>?_,λ_=>hd,Around.frames_deeper e0.frames,.inr ⟨rfl,rfl⟩,λb z=>absurd z (noA b),e0.bs,e0.FN,λb _ _=>noA b,λb z=>absurd z (noA b),e0.qX,e0.Jd,e0.kt⟩,
  rfl,e0.bare,Un.kept hk,⟨_,x.toInCall.ns,λi y v h1 h2 h3=>?_⟩,λy c h=>⟨_,x.cell y c h⟩,e0.bP.fresh (dJ _),λy c h=>?_,λp hp=>absurd (show p∈([]:List (Addr×Obj))from hp) (by simp),e0.bP.kept hk,?_⟩
 .exact name_of_addr x.apart (pN h1) (pN h2)
 .have hy:scope.names.lookup y=some .cell\/scope.names.lookup y=some .free:=hy;rcases hy with hy|hy
  .exact xh hy
  .exact absurd rfl (S.Mi _ (pN hy))
 .exact Nat.le_of_lt (x.above y c (pN h))
 .have hi:i<vs.length:=by
   grind [ma]
  have ha:vs[i]?=some v:=by grind [ma]
  obtain⟨u,hu,rv⟩:=r.get ha;have hp:ps[i]?=some y:=by rw[<- S.pre,List.getElem?_take_of_lt (by lia)];exact h1
  have ndP:ps.Nodup:=by rw[<- S.pre];exact S.nd.sublist (List.take_sublist _ _)
  refine⟨u,rv,?_⟩;rcases S.par y (gK hp)with k|k
  .exact .inl ⟨k,u6 ndP hp hu k⟩
  .obtain⟨c,e⟩:=xh (n:=s.heap.objs.size+1) k;refine .inr ⟨.inl k,c,e,?_⟩;have q:=x.cell y c e;rw[u7 ndP hp hu (by show scope.names.lookup y≠_;rw[k];decide)]at q;exact q
 .exact e0.bP.fresh (Nat.le_of_lt (x.above y c (pN h)))
 .unfold ma;show _=N.length;rw[kK,cc,SO];lia
def M9{CX:FI}{P:Tz}{w:World}{K:Tw}{mg:Str->Option TB}{base:Heap}{k:Nat}{f:Addr}{name qual:Str}{params:Arguments}{body:List Stmt}{scope:Scope}{dV kV doc pm cdv ct oc:TB}{an od:Option Addr}
 {osl:Array (Option TB)} {N ps:List Str} {sp:Sp} (lk:K.lookup f=some ⟨oc,od,.func (fnOf name qual params body scope dV kV doc pm an cdv ct),osl⟩) (hcd:codeIn K cdv qual=true) (S:aZ N ps scope)
 (len:∀vs H Q E,sp vs H Q E->vs.length=ps.length)
 (hbody:∀(A:TC)(outer:List Env)(s:Tv)(H:Hp)(vs:List V)(Q:VK)(E:XK),j3 k (A.deeper (envOfC qual scope s.heap.objs.size f cdv))->sp vs H Q E->
   ∃t,FQ (A5 CX P w K mg base N qual scope f cdv A outer s H E) body t/\t {nx:=λ_ H'=>Q .gP H',rt:=Q} (ma N vs) H) :
 cw P w K mg base CX (k+1) f (fnOf name qual params body scope dV kV doc pm an cdv ct) ps sp:=by
 refine⟨len,λA outer s H args us vs Q E hr e0 hb r hsp=>?_⟩;have hl:=len _ _ _ _ hsp;have KX:K.In s.heap:=e0.mod.xK.keeps λb o e=>(e0.bs b o e).1;have lim:s.heap.NoLimit:=e0.mod.nolimit.keeps λb o e=>(e0.bs b o e).1;have hkind:∀y∈ps.zip us,scope.names.lookup y.1=some .local\/(scope.names.lookup y.1=some .cell/\((cellsFrom (s.heap.objs.size+1) scope.names []).lookup y.1).isSome=true):=λ⟨n,v⟩ hy=>by
  rcases S.par n (S5 hy).1 with q|q
  .exact .inl q
  .exact .inr ⟨q,PySem.W.cellsFrom_some _ _ _ (.inl q)⟩
 refine codeAny_call_function hr.depth (KX _ _ lk) rfl S.co S.gen rfl (PySem.W.codeRec_of KX hcd) (hb _ _ _ _ ?_);refine wpAny_newFunctionEnv_cells S.kind hkind λenv he s1 x=>?_;subst he;refine⟨lim.keeps x.toInCall.keep,codeAny_func ?_⟩;obtain⟨t,ht,hq⟩:=hbody A outer s H vs Q E (hr.deeper _) hsp;have I:Inv (A5 CX P w K mg base N qual scope f cdv A outer s H E) [] (ma N vs) H s1:=A6 S hr.hd e0 hl r x;refine kU (ht [] s1 (ma N vs) H _ I hq) (λfl s' hs=>?_) λe s' hs=>hs;have fin:∀{σ':St}{H':Hp}{v:V}{u:TB},Inv (A5 CX P w K mg base N qual scope f cdv A outer s H E) [] σ' H' s'->RelV v u->Q v H'->CE outer P w H s Q u s':=λ{σ' H' v u} J rv q=>⟨v,H',J.os,J.bare,J.base,J.bP,rv,q⟩;cases fl with
 |ret u=>obtain⟨v,σ',H',J,rv,q⟩:=hs;exact fin J rv q
 |next=>obtain⟨σ',H',J,q⟩:=hs;exact fin (v:=V.gP) (u:=Value.none) J rfl q
 |brk=>obtain⟨_,_,_,q⟩:=hs;exact False.elim q
 |cont=>obtain⟨_,_,_,q⟩:=hs;exact False.elim q
section
variable{X:Cx}{x:Str}{p pos:Pos}{e:Expr}{es:List Expr}{t:TA}{id T:String}{r:List V->Hp->VK->Prop}
noncomputable def Rg(r:List V->Hp->VK->Prop)(t:TA):TE:=λσ H Q=>t σ H λvs H1=>r vs H1 Q
theorem sG(hc:CallR X (.builtin id) r) (hg:Gl X x) (hm:X.mg x=none) (hv:bootBuiltins x=some (.builtin id)) (ha:PA X (e::es) t) (hn:autoParam (x≠"__name__") TQ) (hdb:autoParam (dB x) TQ)
 (he:autoParam (starEach (e::es) X.env=(false,eval e X.env)::starEach es X.env) TV) (hpl:autoParam (bT X pos es) TV):PE X (.Call (.Name x p) (e::es) [] pos) (Rg r t):=by
 intro ag s σ H Q I h;refine Sz (nS I hg hm hv ?_ hn hdb);exact PyProof.Rows.callWith_builtin1 (eS (ha pos ag s σ H _ I h) λus s1 ⟨vs,H1,I1,r1,q1⟩=>hc ag s1 σ H1 vs us Q I1 r1 q1) he hpl
theorem u9(hc:CallR X (.type T) r) (hg:Gl X x) (hm:X.mg x=none) (hv:bootBuiltins x=some (.type T)) (ha:PA X (e::es) t) (hn:autoParam (x≠"__name__") TQ) (hdb:autoParam (dB x) TQ)
 (he:autoParam (starEach (e::es) X.env=(false,eval e X.env)::starEach es X.env) TV) (hpl:autoParam (bT X pos es) TV):PE X (.Call (.Name x p) (e::es) [] pos) (Rg r t):=by
 intro ag s σ H Q I h;refine Sz (nS I hg hm hv ?_ hn hdb);exact nL (eS (ha pos ag s σ H _ I h) λus s1 ⟨vs,H1,I1,r1,q1⟩=>hc ag s1 σ H1 vs us Q I1 r1 q1) he hpl
end
end L2
namespace HT
open PySem PyProof.Rows
section
def cat_tup(ht:IsTup s.heap t vs.toArray)(hb:IsTup s.heap b ws.toArray)(hv:vs≠[])
 (h1:ws=[]->Q (.ref t) s) (h2:ws≠[]->Q (.ref s.heap.objs.size) { s with heap:=s.heap.push { cls:=.type "tuple",data:=.seq (vs++ws).toArray } })
 (hsz:vs.length+ws.length<=sizeLine):wpAny (model prog w) A (binaryOp .Add (.ref t) (.ref b)) Q E s:=by
 obtain⟨⟨cls,dd,data,sl⟩,ho,hc,n,hd⟩:=id ht;obtain⟨⟨cls2,dd2,data2,sl2⟩,ho2,hc2,n2,hd2⟩:=id hb;simp only at hc hd hc2 hd2;subst hc hd hc2 hd2;have e:vs.toArray++ws.toArray=(vs++ws).toArray:=by simp
 by_cases hw:ws=[]
 .exact concat_meets ⟨_,ho,rfl⟩ ⟨_,ho2,rfl⟩ noFill_tuple_add seq_tuple_add PySem.F.slot_tuple_add PySem.F.entry_tuple_add (PySem.F.args_tuple_add_2 _ _)
   (tuple_addW1 t b vs.toArray ws.toArray n n2 dd dd2 sl sl2 (by simpa using hv) (by simp[hw])) ⟨ho,ho2,h1 hw⟩
 .refine concat_meets ⟨_,ho,rfl⟩ ⟨_,ho2,rfl⟩ noFill_tuple_add seq_tuple_add PySem.F.slot_tuple_add PySem.F.entry_tuple_add (PySem.F.args_tuple_add_2 _ _)
   (tuple_addW2 t b vs.toArray ws.toArray n n2 dd dd2 sl sl2 (by simpa using hv) (by simpa using hw) (by rw[eQ,eQ];exact hsz)) ⟨ho,ho2,?_⟩
  rw[e];exact h2 hw
noncomputable def sIx(n d:Nat):Option Int->Nat
 |none=>d
 |some v=>if v<0 then(v+(n:Int)).toNat else min v.toNat n
def sIx_nat(n d k:Nat):sIx n d (some (k:Int))=min k n:=by show(if(k:Int)<0 then((k:Int)+(n:Int)).toNat else min (k:Int).toNat n)=min k n;rw[f7 (by lia),kG]
def JI(n d:Nat)(hd:d<=n)(o:Option Int):sIx n d o<=n:=by
 cases o with
 |none=>exact hd
 |some v=>
  show(if v<0 then(v+(n:Int)).toNat else min v.toNat n)<=n
  grind
def zT(v:Int)(n d:Nat):(if v<0 then max (v+(n:Int)) 0 else min v (n:Int))=((sIx n d (some v):Nat):Int):=by
 show(if v<0 then max (v+(n:Int)) 0 else min v (n:Int))=(((if v<0 then(v+(n:Int)).toNat else min v.toNat n):Nat):Int)
 grind
def yT(lo hi:Option Int)(n:Nat):Builtin.Slice.sliceAdjust lo hi 1 (n:Int)=(((sIx n 0 lo:Nat):Int),((sIx n n hi:Nat):Int)):=by
 have h1:¬((1:Int)<0):=by lia
 unfold Builtin.Slice.sliceAdjust;simp only[h1,Sj];refine Prod.ext ?_ ?_
 .cases lo with
  |none=>rfl
  |some v=>exact zT v n 0
 .cases hi with
  |none=>rfl
  |some v=>exact zT v n n
def yU(i j:Nat):Builtin.Slice.slicePlaces (i:Int) (j:Int) 1=j-i:=by
 unfold Builtin.Slice.slicePlaces
 grind
def sH(p:IsPart v o)(h:Q o s):wpAny (model prog w) A (Builtin.Slice.slicePartIndex v) Q E s:=by
 cases p with
 |none=>exact slicePart_none h
 |int i t=>exact slicePart_int h
def sliceApplied_gen{lo hi:Option Int}{n:Nat}{Q:Int×Int×Nat->Tv->Prop}(hs:s.heap.IsSliceOf sl vl vu .none)(pl:IsPart vl lo)(pu:IsPart vu hi)
 (h:Q (((sIx n 0 lo:Nat):Int),1,sIx n n hi-sIx n 0 lo) s):wpAny (model prog w) A (Builtin.Slice.sliceApplied (.ref sl) (pure (n:Int))) Q E s:=by
 obtain⟨os,hos,hcs,hds⟩:=id hs;unfold Builtin.Slice.sliceApplied Builtin.Slice.sliceFields;refine aB (aB (lR hos hds (x:=vl) rfl (aB (lR hos hds (x:=vu) rfl (aB (lR hos hds (x:=.none) rfl (fW ?_)))))));refine aB (slicePart_none ?_);show wpAny _ _ (if((1:Int)==0)=true then _ else _) _ _ s;rw[f7 (by decide)];refine aB (sH pl (aB (sH pu (aB (fW ?_)))));show wpAny _ _ (match Builtin.Slice.sliceAdjust lo hi 1 (n:Int)with|(lo,hi)=>pure (lo,(1:Int),Builtin.Slice.slicePlaces lo hi 1)) _ _ s;rw[yT lo hi n];show wpAny _ _ (pure (((sIx n 0 lo:Nat):Int),(1:Int),Builtin.Slice.slicePlaces ((sIx n 0 lo:Nat):Int) ((sIx n n hi:Nat):Int) 1)) _ _ s;rw[yU];exact fW h
def Cf(xs:Array TB)(i k:Nat):((List.range k).filterMap λ(m:Nat)=>xs[((i:Int)+(m:Int)*1).toNat]?).toArray=((xs.toList.drop i).take k).toArray:=by
 have e:(λ(m:Nat)=>xs[((i:Int)+(m:Int)*1).toNat]?)=λm=>xs[i+m]?:=by grind
 rw[e];have:=pick_run xs i k;rw[List.filterMap_map]at this;have e2:((λx=>xs[x]?) ∘ λx=>i+x)=λm=>xs[i+m]?:=rfl;rw[e2]at this;rw[this]
def getItem_tuple_cut{vl vu:TB}{lo hi:Option Int}{Q:TB->Tv->Prop}(ht:IsTup s.heap t items)(hs:s.heap.IsSliceOf sl vl vu .none)(pl:IsPart vl lo)(pu:IsPart vu hi)
 (hw:¬(sIx items.size 0 lo=0/\sIx items.size items.size hi=items.size))
 (h:Q (.ref s.heap.objs.size) { s with heap:=s.heap.push { cls:=.type "tuple",data:=.seq ((items.toList.drop (sIx items.size 0 lo)).take (sIx items.size items.size hi-sIx items.size 0 lo)).toArray } })
 (hsz:items.size<=sizeLine):wpAny (model prog w) A (getItem (.ref t) (.ref sl)) Q E s:=by
 have htake:sizeOk (.seq ((items.toList.drop (sIx items.size 0 lo)).take (sIx items.size items.size hi-sIx items.size 0 lo)).toArray):=by
  show((items.toList.drop (sIx items.size 0 lo)).take (sIx items.size items.size hi-sIx items.size 0 lo)).toArray.size<=sizeLine
  grind
 have hj:sIx items.size items.size hi<=items.size:=JI _ _ (dJ _) hi;obtain⟨os,hos,hcs,hds⟩:=id hs;have hTs:s.TypeIs (.ref sl) "slice":=⟨os,hos,hcs⟩;unfold getItem
 try with_reducible refine Si ?_
 first|refine aB (fW ?_)|skip
 refine aB (wpAny_sequenceKey ht.typeIs (by decide) ?_);refine aB (nN (name:=Str.ofString "__getitem__") ht.typeIs kW
  (KE kW ht.typeIs entry_tuple_getitem ?_ (args_tuple_getitem _ _)))
 show wpAny _ _ (Builtin.Tuple.tupleItemsOf (.ref t) >>= _) _ _ s;refine aB (tupleItemsOf_ ht ?_);refine aB (wpAny_typeOf hTs ?_);rw[dL (by decide)];refine aB (sliceApplied_gen hs pl pu ?_);have hno:¬((((sIx items.size 0 lo:Nat):Int)==0&&(1:Int)==1&&(sIx items.size items.size hi-sIx items.size 0 lo)==items.size)=true):=by grind
 show wpAny _ _ (if(((sIx items.size 0 lo:Nat):Int)==0&&(1:Int)==1&&(sIx items.size items.size hi-sIx items.size 0 lo)==items.size)=true then _ else _) _ _ s;rw[f7 hno,Cf]
 first
  |exact aB (m:=Builtin.Tuple.tupleExact _) (pO (fW ⟨_,rfl,fW h⟩) htake)
  |exact aB (m:=Builtin.Tuple.tupleExact _) (pO (aB (fW (fW ⟨_,rfl,fW h⟩))) htake)
  |exact aB (aB (m:=Builtin.Tuple.tupleExact _) (pO (fW (fW ⟨_,rfl,fW h⟩)) htake))
  |exact aB (aB (m:=Builtin.Tuple.tupleExact _) (pO (fW ⟨_,rfl,fW h⟩) htake))
end
end HT
namespace L2
open PySem PySem.Spec PyProof.Rows
abbrev TO:=St->Hp->(Option Int->Hp->Prop)->Prop
def PO(X:Cx)(e:Option Expr)(t:TO):Prop:=
 ∀(ag:List (Addr×Obj))(s:Tv)(σ:St)(H:Hp)(Q:Option Int->Hp->Prop),Inv X ag σ H s->t σ H Q->
  wpAny (model X.prog X.w) X.A (evalPart e X.env) (λu s'=>∃o H',Inv X ag σ H' s'/\IsPart u o/\Q o H') X.xe s
noncomputable def F0:TO:=λ_ H Q=>Q none H
noncomputable def M_(t:TE):TO:=λσ H Q=>t σ H λx H1=>∃i,x=.int i/\Q (some i) H1
section
variable{X:Cx}{e:Expr}{te:TE}{lo hi:Option Expr}{tl th:TO}{pos p2:Pos}
def F1:PO X none F0:=by intro ag s σ H Q I h;rw[evalPart_none];exact fW ⟨none,H,I,.none,h⟩
def F2(h:PE X e te):PO X (some e) (M_ te):=by intro ag s σ H Q I hw;rw[evalPart_some];refine eS (h ag s σ H _ I hw) λu s1 ⟨x,H1,I1,r1,q1⟩=>?_;obtain⟨i,rfl,q⟩:=q1;obtain⟨t,rfl⟩:=r1;exact⟨some i,H1,I1,.int i t,q⟩
def SlR(X:Cx)(r:V->Option Int->Option Int->Hp->VK->Prop):Prop:=
 ∀(ag:List (Addr×Obj))(s:Tv)(σ:St)(H:Hp)(x:V)(v vl vu:TB)(lo hi:Option Int)(sl:Addr)(Q:VK),Inv X ag σ H s->RelV x v->s.heap.IsSliceOf sl vl vu .none->IsPart vl lo->IsPart vu hi->r x lo hi H Q->
  ∃T id,typeLookup (.type T) "__getitem__"=pure (some (.builtin id))/\s.TypeIs v T/\wpAny (model X.prog X.w) X.A (getItem v (.ref sl)) (EP X ag σ Q) X.xe s
def SlR.or(h:SlR X r)(h':SlR X r'):SlR X (λx lo hi H Q=>r x lo hi H Q\/r' x lo hi H Q):=by
 intro ag s σ H x v vl vu lo hi sl Q I rx hs pl pu q;rcases q with q|q
 .exact h ag s σ H x v vl vu lo hi sl Q I rx hs pl pu q
 .exact h' ag s σ H x v vl vu lo hi sl Q I rx hs pl pu q
noncomputable def RF(r:V->Option Int->Option Int->Hp->VK->Prop)(te:TE)(tl th:TO):TE:=λσ H Q=>te σ H λx H1=>tl σ H1 λl H2=>th σ H2 λu H3=>r x l u H3 Q
def Cg(hr:SlR X r)(he:PE X e te)(hl:PO X lo tl)(hu:PO X hi th):PE X (.Subscript e (.Slice lo hi none p2) pos) (RF r te tl th):=by intro ag s σ H Q I h;refine Subscript_ (eS (he ag s σ H _ I h) λv s1 ⟨x,H1,I1,r1,q1⟩=>?_);refine wpAny_Slice (eS (hl ag s1 σ H1 _ I1 q1) λvl s2 ⟨l,H2,I2,pl,q2⟩=>eS (hu ag s2 σ H2 _ I2 q2) λvu s3 ⟨u,H3,I3,pu,q3⟩=>?_);rw[evalPart_none];refine fW ?_;have I4:Inv X ag σ H3 { s3 with heap:=s3.heap.push { cls:=.type "slice",data:=.fields #[vl,vu,.none] } }:=I3.kept (t':=s3.toks) λb ob q=>c6 _ q;obtain⟨T,id,hT,ht,hg⟩:=hr ag { s3 with heap:=s3.heap.push { cls:=.type "slice",data:=.fields #[vl,vu,.none] } } σ H3 x v vl vu l u s3.heap.objs.size Q I4 r1 (Heap.IsSliceOf.new ..) pl pu q3;show wX X (subscriptTail e (.Slice lo hi none p2) v (.ref s3.heap.objs.size)) (EP X ag σ Q) X.xe { s3 with heap:=s3.heap.push { cls:=.type "slice",data:=.fields #[vl,vu,.none] } };exact tail_any (ops:=[.ref s3.heap.objs.size,v]) ht hT hg (by with_unfolding_all rfl)
def xi(xs:List V)(lo hi:Option Int):List V:=(xs.drop (HT.sIx xs.length 0 lo)).take (HT.sIx xs.length xs.length hi-HT.sIx xs.length 0 lo)
theorem rg(xs:List V)(lo hi:Option Int):(xi xs lo hi).length<=xs.length:=by unfold xi;rw[lC,Tp];lia
def Qo(K:Tw):V->Option Int->Option Int->Hp->VK->Prop:=λx lo hi H Q=>∃a xs,x=.ref a/\SqT K H a xs/\
 ¬(HT.sIx xs.length 0 lo=0/\HT.sIx xs.length xs.length hi=xs.length)/\∀p,H p=none->Q (.ref p) (bQ H p (.tup (xi xs lo hi)))
theorem sl_tup:SlR X (Qo X.K):=by
 intro ag s σ H x v vl vu lo hi sl Q I rx hs pl pu h;obtain⟨a,xs,rfl,hx,hw,q⟩:=h;cases rx;obtain⟨its,r,ht,hz⟩:=I.tuple hx;have cj:its.toArray.size=xs.length:=by rw[eQ];exact r.length.symm
 refine⟨"tuple",_,kW.lookup,ht.typeIs,?_⟩;refine HT.getItem_tuple_cut ht hs pl pu (by rw[cj];exact hw) ?_ (by rw[cj];exact hz);rw[cj];refine⟨.ref s.heap.objs.size,_,I.laid (t':=s.toks) (o:=.tup (xi xs lo hi)) (λb ob q=>c6 _ q) (dJ _) ?_,rfl,q _ (I.bP.fresh (dJ _))⟩;exact⟨jQ (rg xs lo hi) hz,_,(r.drop (HT.sIx xs.length 0 lo)).take (HT.sIx xs.length xs.length hi-HT.sIx xs.length 0 lo),IsTup.new _ _⟩
def Na(K:Tw):R2:=λx y H Q=>∃a b xs ys,x=.ref a/\y=.ref b/\SqT K H a xs/\SqT K H b ys/\xs≠[]/\xs.length+ys.length<=sizeLine/\
 (ys=[]->Q (.ref a) H)/\(ys≠[]->∀p,H p=none->Q (.ref p) (bQ H p (.tup (xs++ys))))
def Vals.wR(r:Vals xs us):us=[]↔xs=[]:=by
 cases r with
 |nil=>simp
 |cons _ _=>simp
theorem op_catT:OpR X (binaryOp .Add) (Na X.K):=by intro ag s σ H x y v u Q I rx ry h;obtain⟨a,b,xs,ys,rfl,rfl,ha,hb,hx,hz,q1,q2⟩:=h;cases rx;cases ry;obtain⟨its,r1,p1,_⟩:=I.tuple ha;obtain⟨its2,r2,p2,_⟩:=I.tuple hb;refine HT.cat_tup p1 p2 (λz=>hx (r1.wR.mp z)) (λz=>⟨.ref a,H,I,rfl,q1 (r2.wR.mp z)⟩) (λz=>?_) (by rw[<- r1.length,<- r2.length];exact hz);refine⟨.ref s.heap.objs.size,_,I.laid (t':=s.toks) (o:=.tup (xs++ys)) (λb ob q=>c6 _ q) (dJ _) ?_,rfl,q2 (λw=>z (r2.wR.mpr w)) _ (I.bP.fresh (dJ _))⟩;exact⟨by rw[kK];exact hz,_,r1.append r2,IsTup.new _ _⟩
end
noncomputable def pZ(n:Nat)(i:Int):Option Nat:=if 0<=i then(if i<n then some i.toNat else none)else if -(n:Int)<=i then some (i+n).toNat else none
def bI{α:Type}(xs:List α)(i:Int):Option α:=(pZ xs.length i).bind λj=>xs[j]?
def zU(h:pZ n i=some j):seqIndex? i n=some j/\j<n/\-(n:Int)<=i/\i<n:=by
 unfold pZ at h;by_cases h0:0<=i
 .rw[dL h0]at h;by_cases h1:i<n
  .rw[dL h1]at h;have e:i.toNat=j:=jD h;exact⟨by rw[seqIndex_of h0 h1,e],by lia,by lia,h1⟩
  .rw[f7 h1]at h;cases h
 .rw[f7 h0]at h;by_cases h1:-(n:Int)<=i
  .rw[dL h1]at h;have e:(i+n).toNat=j:=jD h;exact⟨by rw[seqIndex_neg (by lia) h1,e],by lia,h1,by lia⟩
  .rw[f7 h1]at h;cases h
def vJ{α:Type}{xs:List α}{i:Int}{v:α}(h:bI xs i=some v):∃j,seqIndex? i xs.length=some j/\xs[j]?=some v/\j<xs.length/\-(xs.length:Int)<=i/\i<xs.length:=by
 unfold bI at h;cases e:pZ xs.length i with
 |none=>rw[e]at h;cases h
 |some j=>rw[e]at h;obtain⟨h1,h2,h3,h4⟩:=zU e;exact⟨j,h1,h,h2,h3,h4⟩
def rW(b:Expr):Prop:=∀o i,subscripted b false o i=operate [o,i] (getItem o i)
def IxR(X:Cx)(r:R2):Prop:=
 ∀(value slice:Expr)(ag:List (Addr×Obj))(s:Tv)(σ:St)(H:Hp)(x y:V)(v u:TB)(Q:VK),Inv X ag σ H s->RelV x v->RelV y u->r x y H Q->
  subscripted slice false v u=operate [v,u] (getItem v u)->wpAny (model X.prog X.w) X.A (subscriptTail value slice v u) (EP X ag σ Q) X.xe s
def PJ(X:Cx)(id:String)(r:V->List V->Hp->VK->Prop):Prop:=
 ∀(ag:List (Addr×Obj))(s:Tv)(σ:St)(H:Hp)(x:V)(xs:List V)(v:TB)(us:List TB)(Q:VK),Inv X ag σ H s->RelV x v->Vals xs us->r x xs H Q->
  wpAny (model X.prog X.w) X.A (call (.builtin id) (v::us)) (EP X ag σ Q) X.xe s
section
variable{X:Cx}
def IxR.or(h:IxR X r)(h':IxR X r'):IxR X (λx y H Q=>r x y H Q\/r' x y H Q):=by
 intro value slice ag s σ H x y v u Q I rx ry q hs;rcases q with q|q
 .exact h value slice ag s σ H x y v u Q I rx ry q hs
 .exact h' value slice ag s σ H x y v u Q I rx ry q hs
def Ci(hr:IxR X r)(ha:PE X a ta)(hb:PE X b tb)(hs:rW b):PE X (.Subscript a b pos) (Mt r ta tb):=by intro ag s σ H Q I h;exact Subscript_ (Jx ha hb I h λv u s2 x y H2 I2 rx ry q=>hr a b ag s2 σ H2 x y v u Q I2 rx ry q (hs _ _))
def JJ(K:Tw):R2:=λx y H Q=>∃p xs i v,x=.ref p/\y=.int i/\SqL K H p xs/\bI xs i=some v/\Q v H
def Nb(K:Tw):R2:=λx y H Q=>∃p xs i v,x=.ref p/\y=.int i/\SqT K H p xs/\bI xs i=some v/\Q v H
def Nc:R2:=λx y H Q=>∃z i c,x=.str z/\y=.int i/\z.length<=sizeLine/\bI z.cps.toList i=some c/\Q (.str ⟨#[c]⟩) H
def ix_list:IxR X (JJ X.K):=by
 intro value slice ag s σ H x y v u Q I rx ry h hs;obtain⟨p,xs,i,z,rfl,rfl,hq,he,q⟩:=h;cases rx;obtain⟨t,rfl⟩:=ry;obtain⟨its,r,pl,hz⟩:=I.list hq;obtain⟨j,h1,h2,h3,h4,h5⟩:=vJ he;obtain⟨w,ew,rw'⟩:=r.get h2;have hl:=r.length;have hn:=nT;have fin:EP X ag σ Q w s:=⟨z,H,I,rw',q⟩;by_cases h0:0<=i
 .have hj:i.toNat=j:=by rw[seqIndex_of h0 h5]at h1;exact jD h1
  exact item_listR pl.isList h0 (by lia) (by rw[hj];simpa using ew) fin hs
 .have hj:(i+(its.toArray.size:Int)).toNat=j:=by rw[seqIndex_neg (by lia) h4]at h1;rw[eQ,<- hl];exact jD h1
  exact subscriptTail_builtinR (x:=w) pl.isList.typeIs slot_list_getitem.lookup
   (wpAny_getItem_list_neg (Q:=λr s'=>r=w/\EP X ag σ Q r s') pl.isList (by lia) (by rw[eQ]<;>lia) (by lia) (by rw[hj];simpa using ew) ⟨rfl,fin⟩) hs
def ix_tup:IxR X (Nb X.K):=by
 intro value slice ag s σ H x y v u Q I rx ry h hs;obtain⟨p,xs,i,z,rfl,rfl,hq,he,q⟩:=h;cases rx;obtain⟨t,rfl⟩:=ry;obtain⟨its,r,pl,hz⟩:=I.tuple hq;obtain⟨j,h1,h2,h3,h4,h5⟩:=vJ he;obtain⟨w,ew,rw'⟩:=r.get h2;have hl:=r.length;have hn:=nT;have fin:EP X ag σ Q w s:=⟨z,H,I,rw',q⟩;exact subscriptTail_builtinR (x:=w) pl.typeIs slot_tuple_getitem.lookup
  (getItem_tuple (j:=j) (Q:=λr s'=>r=w/\EP X ag σ Q r s') pl (by lia) (by lia) (by rw[eQ,<- hl];exact h1) (by simpa using ew) ⟨rfl,fin⟩) hs
def JK:IxR X Nc:=by
 intro value slice ag s σ H x y v u Q I rx ry h hs;obtain⟨z,i,c,rfl,rfl,hz,he,q⟩:=h;obtain⟨t,rfl⟩:=rx;obtain⟨t',rfl⟩:=ry;obtain⟨j,h1,h2,h3,h4,h5⟩:=vJ he;have hl:z.cps.toList.length=z.length:=by simp[Str.length]
 rw[hl]at h1 h4 h5;have hn:=nT;exact tail_any (Th s z t) slot_str_getitem.lookup (getItem_str (c:=c) (by have e1:decide (i < -(2^63:Int))=false:=fZ (by lia);have e2:decide (i>=2^63)=false:=fZ (by lia);rw[e1,e2,Bool.or_false]) (by rw[h1];simpa using h2) ⟨.str ⟨#[c]⟩,H,I.tok _,⟨_,rfl⟩,q⟩) hs
def RG(K:Tw):R2:=λx y H Q=>JJ K x y H Q\/Nb K x y H Q\/Nc x y H Q
def JL:IxR X (RG X.K):=ix_list.or (ix_tup.or JK)
def yV(its:List TB)(n j:Nat)(u:TB):Obj.mapSeq (·.setIfInBounds j u) { cls:=.type "list",data:=.seq its.toArray n }={ cls:=.type "list",data:=.seq (its.set j u).toArray n }:=by simp[Obj.mapSeq]
theorem Inv.lst(I:Inv X ag σ H s)(h:H p=some (.lst xs)) :
 ∃(its:List TB)(n:Nat),Vals xs its/\s.heap.get? p=some { cls:=.type "list",data:=.seq its.toArray n }/\xs.length<=sizeLine:=by
 obtain⟨z,its,n,r,e⟩:=I.bP p _ h;exact⟨its,n,r,e,z⟩
def Inv.Mq{p:Addr}{xs ys:List V}{its its':List TB}{n n':Nat}{f:Obj->Obj}(I:Inv X ag σ H s)(h:H p=some (.lst xs))
 (ho:s.heap.get? p=some { cls:=.type "list",data:=.seq its.toArray n }) (hf:f { cls:=.type "list",data:=.seq its.toArray n }={ cls:=.type "list",data:=.seq its'.toArray n' }) (r:Vals ys its') (hz:ys.length<=sizeLine) (t:Nat) :
 Inv X ag σ (bQ H p (.lst ys)) {s with heap:=s.heap.update p f,toks:=t}:=by
 have e:(s.heap.update p f).get? p=some { cls:=.type "list",data:=.seq its'.toArray n' }:=by rw[SQ f ho (by rw[hf]<;>rfl),hf]
 refine I.write (x:=p) (e:=p) (by rw[h];trivial) (.inl rfl) (λb u hb q=>(Sb _ _ (lX hb)).trans q) ⟨_,e⟩ ?_;exact⟨hz,its',n',r,e⟩
def Nd:V->V->V->Hp->(Hp->Prop)->Prop:=λo i v H Q=>∃p xs k j,o=.ref p/\i=.int k/\H p=some (.lst xs)/\pZ xs.length k=some j/\Q (bQ H p (.lst (xs.set j v)))
def Cj:MQ X Nd:=by
 intro ag s σ H o i v ov iv u Q I ro ri rv h;obtain⟨p,xs,k,j,rfl,rfl,hp,hj,q⟩:=h;cases ro;obtain⟨t,rfl⟩:=ri;obtain⟨its,n,r,ho,hz⟩:=I.lst hp;obtain⟨h1,h2,h3,h4⟩:=zU hj;have hl:=r.length;have hn:=nT;have I':Inv X ag σ (bQ H p (.lst (xs.set j v))) {s with heap:=s.heap.update p (Obj.mapSeq (·.setIfInBounds j u))}:=I.Mq hp ho (yV its n j u) (r.set rv j) (by rw[vG];exact hz) s.toks;by_cases h0:0<=k
 .have hk:k.toNat=j:=by rw[seqIndex_of h0 h4]at h1;exact jD h1
  exact PySem.W.ki_setAt ho h0 (by lia) (by rw[eQ,<- hl];exact h4) (by rw[hk];exact⟨_,I',q⟩)
 .have hk:(k+(its.toArray.size:Int)).toNat=j:=by rw[seqIndex_neg (by lia) h3]at h1;rw[eQ,<- hl];exact jD h1
  exact PySem.W.ki_setBack ho (by lia) (by rw[eQ,<- hl];exact h3) (by lia) (by rw[hk];exact⟨_,I',q⟩)
def vK(lo hi:Option Int)(n:Nat):(sliceBounds lo hi none n).1=((HT.sIx n 0 lo:Nat):Int)/\(sliceBounds lo hi none n).2.1=((HT.sIx n n hi:Nat):Int)/\(sliceBounds lo hi none n).2.2=1:=by
 refine⟨?_,?_,rfl⟩
 .cases lo with
  |none=>simp[sliceBounds,HT.sIx]
  |some i=>
   simp only[sliceBounds,HT.sIx,Option.getD_none,show(1:Int)>0 by decide,Sd]
   grind
 .cases hi with
  |none=>simp[sliceBounds,HT.sIx]
  |some i=>
   simp only[sliceBounds,HT.sIx,Option.getD_none,show(1:Int)>0 by decide,Sd]
   grind
def uC(its:List TB)(lo hi:Option Int):slicePick its.toArray lo hi none=((its.drop (HT.sIx its.length 0 lo)).take (HT.sIx its.length its.length hi-HT.sIx its.length 0 lo)).toArray:=by obtain⟨h1,h2,h3⟩:=vK lo hi its.toArray.size;unfold slicePick;rw[h1,h2,h3];simp only[sliceRange_one,pick_run,eQ]<;>rfl
def Qp(K:Tw):V->Option Int->Option Int->Hp->VK->Prop:=λx lo hi H Q=>∃a xs,x=.ref a/\SqL K H a xs/\∀p,H p=none->Q (.ref p) (bQ H p (.lst (xi xs lo hi)))
def sl_list:SlR X (Qp X.K):=by intro ag s σ H x v vl vu lo hi sl Q I rx hs pl pu h;obtain⟨a,xs,rfl,hx,q⟩:=h;cases rx;obtain⟨its,r,ht,hz⟩:=I.list hx;have cj:=r.length;refine⟨"list",_,slot_list_getitem.lookup,ht.isList.typeIs,?_⟩;refine wpAny_getItem_list_slice ht.isList hs pl pu .none (by simp) ?_ (by rw[eQ]<;>lia);rw[uC,<- cj];refine⟨.ref s.heap.objs.size,_,I.laid (t':=s.toks) (o:=.lst (xi xs lo hi)) (λb ob q=>c6 _ q) (dJ _) ?_,rfl,q _ (I.bP.fresh (dJ _))⟩;exact⟨jQ (rg xs lo hi) hz,_,0,(r.drop (HT.sIx xs.length 0 lo)).take (HT.sIx xs.length xs.length hi-HT.sIx xs.length 0 lo),gM _ rfl⟩
def call_len_seq:CallR X (.builtin "len") (λxs H Q=>∃p ys,xs=[.ref p]/\(SqL X.K H p ys\/SqT X.K H p ys)/\Q (.int ys.length) H):=by
 intro ag s σ H xs us Q I r h;obtain⟨p,ys,rfl,hq,q⟩:=h;obtain⟨u,rfl,rx⟩:=j8 r;cases rx;have hn:=nT;rcases hq with hq|hq
 .obtain⟨its,r',pl,hz⟩:=I.list hq;have cj:=r'.length;exact Calls.call_len_list pl.isList (by simp only[eQ]<;>lia) ⟨.int ys.length,H,I.tok _,⟨s.toks+1,by rw[eQ,cj]⟩,q⟩
 .obtain⟨its,r',pl,hz⟩:=I.tuple hq;have cj:=r'.length;exact len_tuple pl (by simp only[eQ]<;>lia) ⟨.int ys.length,H,I.tok _,⟨s.toks+1,by rw[eQ,cj]⟩,q⟩
def vL:CallR X (.builtin "len") (λxs H Q=>∃z,xs=[.str z]/\z.length<=sizeLine/\Q (.int z.length) H):=by intro ag s σ H xs us Q I r h;obtain⟨z,rfl,hz,q⟩:=h;obtain⟨u,rfl,t,rfl⟩:=j8 r;have hn:=nT;exact len_str (by lia) ⟨.int z.length,H,I.tok _,⟨_,rfl⟩,q⟩
def CallR.or(h:CallR X f r)(h':CallR X f r'):CallR X f (λxs H Q=>r xs H Q\/r' xs H Q):=by
 intro ag s σ H xs us Q I rs q;rcases q with q|q
 .exact h ag s σ H xs us Q I rs q
 .exact h' ag s σ H xs us Q I rs q
def uD:CallR X (.type "tuple") (λxs H Q=>∃p ys,xs=[.ref p]/\((SqL X.K H p ys/\∀l,H l=none->Q (.ref l) (bQ H l (.tup ys)))\/(SqT X.K H p ys/\Q (.ref p) H))):=by
 intro ag s σ H xs us Q I r h;obtain⟨p,ys,rfl,h⟩:=h;obtain⟨u,rfl,rx⟩:=j8 r;cases rx;rcases h with⟨hq,q⟩|⟨hq,q⟩
 .obtain⟨its,r',pl,hz⟩:=I.list hq;have cj:=r'.length;refine call_tuple_list pl.isList (λh' kp=>?_) (by simp only[eQ]<;>lia);have I1:Inv X ag σ H {s with heap:=h'}:=I.kept (t':=s.toks) kp;have I2:Inv X ag σ (bQ H h'.objs.size (.tup ys)) { s with heap:=h'.push { cls:=.type "tuple",data:=.seq its.toArray } }:=I1.laid (t':=s.toks) (λb o e=>c6 _ e) (dJ _) (show ObjOk X.prog X.w _ _ _ (.tup ys)from⟨hz,its,r',IsTup.new _ _⟩);exact⟨.ref h'.objs.size,_,I2,rfl,q _ (I1.bP.fresh (dJ _))⟩
 .obtain⟨its,r',pl,hz⟩:=I.tuple hq;exact call_tuple_same pl ⟨.ref p,H,I,rfl,q⟩
def Rh(K:Tw)(T:String)(x:V)(H:Hp):Prop:=match x with
 |.str _=>T="str"
 |.int _=>T="int"
 |.ref p=>(T="list"/\∃xs,SqL K H p xs)\/(T="tuple"/\∃o,K.lookup p=some o/\o.cls=.type "tuple"/\o.dict=none)\/
  (T="dict"/\((∃kvs,H p=some (.dK kvs))\/∃kvs,H p=some (.dT kvs)))\/(T="set"/\∃S n,H p=some (.set S n))
 |_=>False
def JM(I:Inv X ag σ H s)(r:RelV x v)(ty:Rh X.K T x H) :
 s.TypeIs v T/\∀a,v=.ref a->∃ob,s.heap.get? a=some ob/\ob.dict=none:=by
 cases x with
 |str z=>obtain⟨t,rfl⟩:=r;cases(show T="str" from ty);exact⟨Th s z t,λ_ e=>nomatch e⟩
 |int i=>obtain⟨t,rfl⟩:=r;cases(show T="int" from ty);exact⟨typeIs_int s i t,λ_ e=>nomatch e⟩
 |ref p=>
  cases r;rcases ty with⟨rfl,xs,hq⟩|⟨rfl,o,hk,hc,hd⟩|⟨rfl,hk⟩|⟨rfl,S,n,hk⟩
  .obtain⟨its,_,pl,_⟩:=I.list hq;refine⟨pl.isList.typeIs,λa e=>?_⟩;cases e;obtain⟨o,n,e,c,hd,_⟩:=pl;exact⟨o,e,hd⟩
  .refine⟨⟨o,I.sx p o hk,hc⟩,λa e=>?_⟩;cases e;exact⟨o,I.sx _ o hk,hd⟩
  .have z:∃o,s.heap.get? p=some o/\o.ExactDict:=by
    rcases hk with⟨kvs,hk⟩|⟨kvs,hk⟩
    .obtain⟨_,_,_,_,o,_,_,e,ex,_⟩:=I.bP p _ hk;exact⟨o,e,ex⟩
    .obtain⟨_,_,_,_,o,_,_,e,ex,_⟩:=I.bP p _ hk;exact⟨o,e,ex⟩
   obtain⟨o,e,ex⟩:=z;refine⟨⟨o,e,ex.1⟩,λa e2=>?_⟩;cases e2;exact⟨o,e,ex.2.1⟩
  .obtain⟨o,_,_,_,e,ex,_⟩:=I.bP p _ hk;refine⟨⟨o,e,ex.1⟩,λa e2=>?_⟩;cases e2;exact⟨o,e,ex.2.1⟩
 |_=>exact False.elim ty
noncomputable def RH(K:Tw)(T:String)(r:V->List V->Hp->VK->Prop)(to:TE)(t:TA):TE:=λσ H Q=>to σ H λx H1=>Rh K T x H1/\t σ H1 λxs H2=>r x xs H2 Q
variable{o e:Expr}{es:List Expr}{to:TE}{t:TA}{name:Str}{apos cpos:Pos}{T id:String}{r:V->List V->Hp->VK->Prop}
theorem xj(pa:PlainAttrs T)(slot:Slot T name id)(hty:typeOf (.builtin id)=pure (.type "method_descriptor")) (hm:PJ X id r) (ho:PE X o to) (ha:PA X (e::es) t)
 (hbase:autoParam (attributeBase o name X.env (eval o X.env)=eval o X.env) TV)
 (hfew:autoParam (((backTo cpos (starEach (e::es) X.env)).all (λx=>!x.1)&&(backToKw cpos (keywordEach [] X.env)).all (λx=>x.1.isSome)
   && decide ((e::es).length+([]:List Keyword).length+(if([]:List Keyword).isEmpty then 0 else 1)<30))=true) TV)
 (hline:autoParam ((apos.endLine==cpos.line)=true) TV) (hs:autoParam (starEach (e::es) X.env=(false,eval e X.env)::starEach es X.env) TV) (hplain:autoParam (bT X cpos es) TV) :
 PE X (.Call (.Attribute o name apos) (e::es) [] cpos) (RH X.K T r to t):=by
 intro ag s σ H Q I h;refine wpAny_Call_method_late hbase hfew hline rfl (eS (ho ag s σ H _ I h) λv s1 ⟨x,H1,I1,r1,ty,q1⟩=>?_);obtain⟨h1,h2⟩:=JM I1 r1 ty;refine⟨T,id,pa,slot,hty,h1,h2,?_⟩;have hA:=ha cpos ag s1 σ H1 _ I1 q1;rw[hs]at hA ⊢;refine Calls.callWith_builtin (by show(false ||(backTo cpos (starEach es X.env)).any (·.1))=false;rw[hplain]<;>rfl) (Calls.evalArgs_plain ?_);exact eS hA λus s2 ⟨vs,H2,I2,r2,q2⟩=>hm ag s2 σ H2 x vs v us Q I2 r1 r2 q2
end
def RI(X:Cx)(id:String)(r:V->List V->Hp->VK->Prop):Prop:=
 ∀(ag:List (Addr×Obj))(s:Tv)(σ:St)(H:Hp)(x:V)(xs:List V)(v:TB)(us:List TB)(Q:VK),Inv X ag σ H s->RelV x v->Vals xs us->r x xs H Q->
  wpAny (model X.prog X.w) X.A (call (.builtin id) (v::us)) (EP X ag σ Q) X.xe s
def Vals.one{x:V}{us:List TB}(h:Vals [x] us):∃u,us=[u]/\RelV x u:=j8 h
theorem Vals.rep(h:Vals xs us):∀k:Nat,Vals (List.replicate k xs).flatten (List.replicate k us).flatten
 |0=>.nil
 |k+1=>by rw[zM,zM,SI,SI];exact Vals.append h (Vals.rep h k)
theorem u_(its:List TB):∀(k:Nat)(acc:List TB),
 List.foldl (λx1 x2=>x1++x2) acc.toArray (List.replicate k its.toArray)=(acc++(List.replicate k its).flatten).toArray
 |0,acc=>by simp
 |k+1,acc=>by
  have e:acc.toArray++its.toArray=(acc++its).toArray:=by simp
  have e2:(acc++its)++(List.replicate k its).flatten=acc++(List.replicate (k+1) its).flatten:=by rw[zM,SI,kI]
  rw[<- e2,<- u_ its k (acc++its),<- e,zM,SA]
section
def Inv.Ra{its its':List TB}{f:Array TB->Array TB}(I:Inv X ag σ H s)(hH:H l=some (.lst xs))
 (e:s.heap.get? l=some { cls:=.type "list",data:=.seq its.toArray n }) (hf:f its.toArray=its'.toArray) (hv:Vals ys its') (hz:ys.length<=sizeLine) :
 Inv X ag σ (bQ H l (.lst ys)) {s with heap:=s.heap.update l (Obj.mapSeq f),toks:=t'}:=by
 have q:=PySem.IsL.update e f;rw[hf]at q;refine I.write (x:=l) (e:=l) (by rw[hH];exact trivial) (.inl rfl) (λb' u hb hu=>(Sb s.heap (Obj.mapSeq f) (lX hb)).trans hu) ⟨_,q⟩ ?_;exact⟨hz,its',_,hv,q⟩
def Inv.Mn(I:Inv X ag σ H s)(hv:Vals ys its)(hz:ys.length<=sizeLine) :
 Inv X ag σ (bQ H s.heap.objs.size (.lst ys)) { s with heap:=s.heap.push { cls:=.type "list",data:=.seq its.toArray },toks:=t' }:=
 I.laid (λ_ _ q=>c6 _ q) (dJ _) ⟨hz,its,0,hv,gM _ rfl⟩
theorem Inv.fresh(I:Inv X ag σ H s):H s.heap.objs.size=none:=I.bP.fresh (dJ _)
def Inv.PB(I:Inv X ag σ H s)(hH:H l=some (.lst xs)):xs.length<=sizeLine/\∃(its:List TB)(n:Nat),Vals xs its/\xs.length=its.length/\s.heap.get? l=some { cls:=.type "list",data:=.seq its.toArray n }:=by obtain⟨z,its,n,r,e⟩:=I.bP l _ hH;exact⟨z,its,n,r,r.length,e⟩
def Ck(h:n<=sizeLine):Builtin.List.listTooLong n=false:=by unfold Builtin.List.listTooLong;exact fZ (by lia)
end
section
def F3:V->List V->Hp->VK->Prop:=λx vs H Q=>∃l xs y,x=.ref l/\vs=[y]/\H l=some (.lst xs)/\xs.length<sizeLine/\Q .gP (bQ H l (.lst (xs++[y])))
def mX:RI X "list.append" F3:=by intro ag s σ H x vs v us Q I rx rv h;obtain⟨l,xs,y,rfl,rfl,hH,hz,q⟩:=h;cases rx;obtain⟨u,rfl,ru⟩:=rv.one;obtain⟨z,its,n,r,hl,e⟩:=I.PB hH;refine S3 F.slot_list_append ⟨_,e,rfl⟩ F.entry_list_append (F.args_list_append_2 _ _) (PySem.list_append l its.toArray n u (by rw[eQ];lia)) ⟨e,?_⟩;refine⟨.gP,_,I.Ra (its':=its++[u]) hH e (by simp) (r.append (.cons ru .nil)) ?_,rfl,q⟩;rw[kK,List.length_singleton];lia
def Qq:R2:=λx y H Q=>∃l k xs,x=.ref l/\y=.int k/\H l=some (.lst xs)/\-(2^63)<=k/\k<2^63/\xs.length*k.toNat<=sizeLine/\
 ∀p,H p=none->Q (.ref p) (bQ H p (.lst (List.replicate k.toNat xs).flatten))
def F4{α:Type}(xs:List α)(k:Nat):(List.replicate k xs).flatten.length=k*xs.length:=by
 induction k with
 |zero=>simp
 |succ k ih=>rw[zM,SI,kK,ih,Nat.succ_mul,Nat.add_comm]
def JN:OpR X (binaryOp .Mult) Qq:=by
 intro ag s σ H x y v u Q I rx ry h;obtain⟨l,k,xs,rfl,rfl,hH,h1,h2,hz,q⟩:=h;cases rx;obtain⟨t,rfl⟩:=ry;obtain⟨z,its,n,r,hl,e⟩:=I.PB hH;have cj:its.toArray.size*k.toNat<=sizeLine:=by rw[eQ,<- hl];exact hz
 have hcap:¬its.toArray.size*k.toNat>(2^63-1)/8:=by
  have:(sizeLine:Nat)<=(2^63-1)/8:=by decide
  lia
 have hfit:¬(!Builtin.List.listFitsIndex k)=true:=by rw[fitsIndex_both h1 h2];exact ur
 have hlong:¬Builtin.List.listTooLong (its.toArray.size*k.toNat)=true:=by rw[Ck cj];exact ur
 have hnew:List.foldl (λx1 x2=>x1++x2) #[] (List.replicate (if its.toArray.isEmpty=true then 0 else k.toNat) its.toArray)=(List.replicate k.toNat its).flatten.toArray:=by
  have f0:∀m:Nat,List.foldl (λx1 x2=>x1++x2) #[] (List.replicate m its.toArray)=(List.replicate m its).flatten.toArray:=λm=>by have:=u_ its m [];rw[Sf]at this;exact this
  rw[f0];cases its with
  |nil=>simp
  |cons a r'=>rw[f7 (by simp)]
 refine wpAny_binaryOp_repeat_ref (T:="list") (U:="int") (by decide) ⟨_,e,rfl⟩ (λs'=>typeIs_int s' k t) noFill_list_mul F.fills_int_mul F.slot_int_rmul repeat_list F.slot_int_index.lookup
  (S3 F.slot_int_rmul (typeIs_int s k t) F.entry_int_rmul (F.args_int_rmul_2 _ _) (int___rmul___int_list k t l its.toArray n)
    ⟨e,rfl,⟨_,e,rfl⟩,S3 F.slot_list_mul ⟨_,e,rfl⟩ F.entry_list_mul (F.args_list_mul_2 _ _) (AutoListH.list___mul___list_int_3 l its.toArray n k t hfit hcap hlong) ⟨e,?_⟩⟩)
 rw[hnew];exact⟨.ref _,_,I.Mn (t':=s.toks) (r.rep k.toNat) (by rw[F4,Nat.mul_comm];exact hz),rfl,q _ I.fresh⟩
end
section
variable{κ:Type}[DecidableEq κ]
noncomputable def sJ(kvs:List (κ×V))(k:κ):Option V:=(kvs.find? λkv=>decide (kv.1=k)).map (·.2)
noncomputable def kY(kvs:List (κ×V))(k:κ)(v:V):List (κ×V):=if(kvs.any λkv=>decide (kv.1=k))=true then kvs.map (λkv=>if kv.1=k then(kv.1,v)else kv)else kvs++[(k,v)]
def oz{p:κ×V}(e:p.1=k):sJ (p::r) k=some p.2:=by simp[sJ,jk,e]
def oA{p:κ×V}(e:¬p.1=k):sJ (p::r) k=sJ r k:=by simp[sJ,jk,e]
theorem xk(k:κ):∀kvs:List (κ×V),(kvs.any λkv=>decide (kv.1=k))=(sJ kvs k).isSome
 |[]=>rfl
 |p::r=>by
  rw[SB];by_cases e:p.1=k
  .simp only[oz e,dM e,Bool.true_or,Option.isSome_some]
  .rw[oA e,fZ e,Bool.false_or];exact xk k r
theorem md(kvs:List (κ×V))(k:κ)(v:V):(kY kvs k v).length<=kvs.length+1:=by grind [kY]
def RelO.kQ(r:RelO o u):o.isSome=u.isSome:=by
 cases o with
 |none=>cases u with
  |none=>rfl
  |some _=>exact(show False from r).elim
 |some _=>cases u with
  |none=>exact(show False from r).elim
  |some _=>rfl
def KV.val{kvs:List (κ×V)}(r:KV kvs vs)(k:κ):RelO (sJ kvs k) (valueAt vs k):=by
 unfold KV at r;induction r with
 |nil=>exact True.intro
 |@cons p q ps qs h t ih=>
  obtain⟨h1,h2⟩:=h;by_cases e:p.1=k
  .have e':q.1=k:=h1.symm.trans e;have b:valueAt (q::qs) k=some q.2:=by simp[valueAt,jk,e']
   rw[oz e,b];exact h2
  .have e':¬q.1=k:=λz=>e (h1.trans z);have b:valueAt (q::qs) k=valueAt qs k:=by simp[valueAt,jk,e']
   rw[oA e,b];exact ih
theorem KV.any(r:KV kvs vs)(k:κ):(kvs.any λkv=>decide (kv.1=k))=vs.any λkv=>decide (kv.1=k):=by
 unfold KV at r;induction r with
 |nil=>rfl
 |cons h t ih=>rw[SB,SB,ih,h.1]
def KV.Mp(r:KV kvs vs)(k:κ)(ry:RelV y u) :
 KV (kvs.map λkv=>if kv.1=k then(kv.1,y)else kv) (vs.map λkv=>if kv.1=k then(kv.1,u)else kv):=by
 unfold KV at r ⊢;induction r with
 |nil=>exact .nil
 |@cons p q ps qs h t ih=>
  rw[c7,c7];refine .cons ?_ ih
  grind
def KV.put(r:KV kvs vs)(k:κ)(ry:RelV y u):KV (kY kvs k y) (stored vs k u):=by
 unfold kY stored;rw[r.any k];by_cases e:(vs.any λkv=>decide (kv.1=k))=true
 .rw[dL e,dL e];exact r.Mp k ry
 .rw[f7 e,f7 e];exact Paired.snoc r ⟨rfl,ry⟩
theorem KV.length(r:KV kvs vs):kvs.length=vs.length:=Paired.length r
end
def oB(r:RelV (kV k) u):(bS P w).is k u=true:=by
 cases k with
 |inl i=>obtain⟨t,e⟩:=(show ∃t,u=Value.int i t from r);subst e;exact w_ P w i t
 |inr x=>obtain⟨t,e⟩:=(show ∃t,u=Value.str x t from r);subst e;exact l_ P w x t
theorem vb:∀{ks:List gQ}{us:List TB},Vals (ks.map kV) us->ItemsAre (bS P w) ks us
 |[],_,r=>by rw[rD]at r;cases r;exact .nil
 |k::ks,_,r=>by
  rw[c7]at r;cases r with
  |cons h t=>exact .cons (oB h) (vb t)
abbrev KT(H:Hp):List (List gQ×V)->List (List gQ×Addr×TB)->Prop:=Paired λp q=>p.1=q.1/\H q.2.1=some (.tup (p.1.map kV))/\RelV p.2 q.2.2
def KT.val{H:Hp}(r:KT H kvs xs)(k:List gQ):RelO (sJ kvs k) ((atKey xs k).map (·.2)):=by
 induction r with
 |nil=>exact True.intro
 |@cons p q ps qs h t ih=>
  obtain⟨h1,_,h2⟩:=h;by_cases e:p.1=k
  .have e':q.1=k:=h1.symm.trans e;have b:atKey (q::qs) k=some q.2:=by simp[atKey,jk,e']
   rw[oz e,b];exact h2
  .have e':¬q.1=k:=λz=>e (h1.trans z);have b:atKey (q::qs) k=atKey qs k:=by simp[atKey,jk,e']
   rw[oA e,b];exact ih
def KT.Mp(r:KT H kvs xs)(k:List gQ)(ry:RelV y u) :
 KT H (kvs.map λkv=>if kv.1=k then(kv.1,y)else kv) (xs.map (putAt k u)):=by
 induction r with
 |nil=>exact .nil
 |@cons p q ps qs h t ih=>
  rw[c7,c7];refine .cons ?_ ih;obtain⟨h1,h2,h3⟩:=h;unfold putAt
  grind
def KT.put(r:KT H kvs xs)(k:List gQ)(hb:H b=some (.tup (k.map kV)))(ry:RelV y u) :
 KT H (kY kvs k y) (storedH xs k b u):=by
 have e:(kvs.any λkv=>decide (kv.1=k))=(atKey xs k).isSome:=by rw[xk,(r.val k).kQ,Ti]
 unfold kY storedH;rw[e];by_cases q:(atKey xs k).isSome=true
 .rw[dL q,dL q];exact r.Mp k ry
 .rw[f7 q,f7 q];exact Paired.snoc r ⟨rfl,hb,ry⟩
def KT.keeps(r:KT H kvs xs)(ht:∀b ys,H b=some (.tup ys)->H' b=some (.tup ys)):KT H' kvs xs:=Paired.Px r λ_ _ z=>⟨z.1,ht _ _ z.2.1,z.2.2⟩
section
def zV(ok:HOk P w H h)(e:Rd H a u):ObjOk P w H h a u:=e.ok ok
def zW(ok:HOk P w H h)(e:Rd H a (.dK kvs)):kvs.length<=sizeLine/\(a==sysModules)=false/\∃vs,KV kvs vs/\h.DictOf (bS P w) a vs:=show ObjOk P w H h a (.dK kvs)from zV ok e
def HQ(ok:HOk P w H h)(e:H a=some (.dK kvs)):kvs.length<=sizeLine/\(a==sysModules)=false/\∃vs,KV kvs vs/\h.DictOf (bS P w) a vs:=zW ok (.inl e)
theorem p4(ok:HOk P w H h)(e:H a=some (.tup (ks.map kV))):(tupleKind (bS P w)).is h ks a:=by obtain⟨_,its,r,o,h1,h2,n,h3⟩:=(show ObjOk P w H h a (.tup (ks.map kV))from ok a _ e);exact⟨o,its.toArray,n,h1,h2,h3,by simpa using vb r⟩
def zX(ok:HOk P w H h)(e:Rd H a (.dT kvs)):kvs.length<=sizeLine/\(a==sysModules)=false/\
 ∃xs,KT H kvs xs/\h.DictOfH (tupleKind (bS P w)) a xs:=by
 obtain⟨z,y,xs,r,o,es,ep,h1,h2,h3,h4,h5⟩:=(show ObjOk P w H h a (.dT kvs)from zV ok e);refine⟨z,y,xs,r,o,es,ep,h1,h2,h3,h4,λx hx=>?_,h5⟩;have all:∀{l:List (List gQ×V)}{m:List (List gQ×Addr×TB)},KT H l m->∀x∈m,(tupleKind (bS P w)).is h x.1 x.2.1:=by
  intro l m q;induction q with
  |nil=>intro x hx;exact nomatch hx
  |@cons p q ps qs hq t ih=>grind [p4]
 exact all r x hx
def Nf(ok:HOk P w H h)(e:H a=some (.dT kvs)):kvs.length<=sizeLine/\(a==sysModules)=false/\
 ∃xs,KT H kvs xs/\h.DictOfH (tupleKind (bS P w)) a xs:=zX ok (.inl e)
end
def JO(H:Hp)(a:Addr)(y:V)(r:Option V):Prop:=(∃kvs k,Rd H a (.dK kvs)/\y=kV k/\r=sJ kvs k)\/∃kvs k b,Rd H a (.dT kvs)/\y=.ref b/\H b=some (.tup (k.map kV))/\r=sJ kvs k
def DPut(H:Hp)(a:Addr)(y v:V)(H':Hp):Prop:=
 (∃kvs k,H a=some (.dK kvs)/\y=kV k/\kvs.length<sizeLine/\H'=bQ H a (.dK (kY kvs k v)))\/
 ∃kvs k b,H a=some (.dT kvs)/\y=.ref b/\H b=some (.tup (k.map kV))/\kvs.length<sizeLine/\H'=bQ H a (.dT (kY kvs k v))
theorem DPut.k{kvs:List (gQ×V)}{k:gQ}{v:V}(e:H a=some (.dK kvs))(hl:kvs.length<sizeLine):DPut H a (kV k) v (bQ H a (.dK (kY kvs k v))):=.inl ⟨kvs,k,e,rfl,hl,rfl⟩
def DPut.t{kvs:List (List gQ×V)}{k:List gQ}{v:V}(e:H a=some (.dT kvs))(eb:H b=some (.tup (k.map kV)))(hl:kvs.length<sizeLine) :
 DPut H a (.ref b) v (bQ H a (.dT (kY kvs k v))):=.inr ⟨kvs,k,b,e,rfl,eb,hl,rfl⟩
section
def Inv.big(I:Inv X ag σ H s):sysModules<s.heap.objs.size:=by have h:mainGlobals<s.heap.objs.size:=(I.mod.glob.keeps I.bk).lt;exact Nat.lt_trans (by decide) h
def Qr(hu:A.units+1<cLine)(I:Inv X ag σ H s)(g:JO H a y o)(ry:RelV y u)(h:∀s',Inv X ag σ H s'->Q (.bool o.isSome) s') :
 wpAny (model X.prog X.w) A (compareOp .In u (.ref a)) Q E s:=by
 rcases g with⟨kvs,k,e,ey,l⟩|⟨kvs,k,b,e,ey,eb,l⟩
 .subst ey;obtain⟨z,hd,vs,rel,dd⟩:=zW I.bP e;refine wpAny_in_of (oB ry) hd dd.mapOf ?_;rw[<- (rel.val k).kQ,<- l];exact h _ (I.tok _)
 .subst ey;cases(show u=Value.ref b from ry);obtain⟨z,hd,xs,rel,dd⟩:=zX I.bP e;refine wpAny_in_heap (Se hu) (p4 I.bP eb) hd dd ?_;have q:=(rel.val k).kQ;rw[Ti]at q;rw[<- q,<- l];exact h _ (I.tok _)
def F5(hu:A.units+1<cLine)(I:Inv X ag σ H s)(g:JO H a y o)(ry:RelV y u)(h:∀s',Inv X ag σ H s'->Q (.bool (!o.isSome)) s') :
 wpAny (model X.prog X.w) A (compareOp .NotIn u (.ref a)) Q E s:=by
 rcases g with⟨kvs,k,e,ey,l⟩|⟨kvs,k,b,e,ey,eb,l⟩
 .subst ey;obtain⟨z,hd,vs,rel,dd⟩:=zW I.bP e;refine wpAny_notIn_of (oB ry) hd dd.mapOf ?_;rw[<- (rel.val k).kQ,<- l];exact h _ (I.tok _)
 .subst ey;cases(show u=Value.ref b from ry);obtain⟨z,hd,xs,rel,dd⟩:=zX I.bP e;refine wpAny_notIn_heap (Se hu) (p4 I.bP eb) hd dd ?_;have q:=(rel.val k).kQ;rw[Ti]at q;rw[<- q,<- l];exact h _ (I.tok _)
def vM(I:Inv X ag σ H s)(mu:MG (H a))(hs:Heap.SameBut a s.heap h')(he:∃q,h'.get? a=some q)(new:ObjOk X.prog X.w (bQ H a ob) h' a ob) :
 Inv X ag σ (bQ H a ob) {s with heap:=h',toks:=t'}:=
 I.write (x:=a) (e:=a) mu (.inl rfl) (λb q hb z=>(hs.2 b hb).trans z) he new
def Cm(z:kvs.length<=sizeLine)(hd:(a==sysModules)=false)(rel:KV kvs vs)(dd:h'.DictOf (bS P w) a vs) :
 ObjOk P w H' h' a (.dK kvs):=⟨z,hd,vs,rel,dd⟩
def p6(hu:A.units+1<cLine)(I:Inv X ag σ H s)(g:DPut H a y v H')(ry:RelV y u)(rv:RelV v r)(h:∀s',Inv X ag σ H' s'->Q () s') :
 wpAny (model X.prog X.w) A (setItem (.ref a) u r) Q E s:=by
 rcases g with⟨kvs,k,e,ey,l,eH⟩|⟨kvs,k,b,e,ey,eb,l,eH⟩
 .subst ey eH;obtain⟨z,hd,vs,rel,dd⟩:=HQ I.bP e;have hz:vs.length<=sizeLine:=by rw[<- rel.length];exact z
  have hl:(kY kvs k v).length<=sizeLine:=by have:=md kvs k v;lia
  refine wpAny_setItem_pairs (hsz:=hz) (oB ry) dd λh' dd' hs=>h _ ?_;have he:∃q,h'.get? a=some q:=let ⟨q,_,_,hq,_⟩:=dd';⟨q,hq⟩;exact vM I (by rw[e];exact True.intro) hs he (Cm hl hd (rel.put k rv) dd')
 .subst ey eH;cases(show u=Value.ref b from ry);obtain⟨z,hd,xs,rel,dd⟩:=Nf I.bP e;have hz:xs.length<=sizeLine:=by rw[<- Paired.length rel];exact z
  have hl:(kY kvs k v).length<=sizeLine:=by have:=md kvs k v;lia
  refine wpAny_setItem_heap (hsz:=hz) (Se hu) (p4 I.bP eb) dd λh' dd' hs=>h _ ?_;obtain⟨q,es,ep,hq,h2,h3,h4,_,h5⟩:=dd';refine vM I (by rw[e];exact True.intro) hs ⟨q,hq⟩ ⟨hl,hd,_,(rel.put k eb rv).keeps λc ys ec=>?_,q,es,ep,hq,h2,h3,h4,h5⟩;rw[aH (HJ ec e (λz=>nomatch z))];exact ec
end
def JP(i:Expr):Prop:=∀ov iv,subscripted i false ov iv=operate [ov,iv] (getItem ov iv)
def F6{E:TB->Tv->Prop}{env:Env}{value slice:Expr}{pos:Pos}{T id:String}{Q:TB->Tv->Prop}
 (hl:typeLookup (.type T) "__getitem__"=pure (some (.builtin id))) (hs:JP slice)
 (h:wpAny (model prog w) A (eval value env) (λo s₁=>wpAny (model prog w) A (eval slice env) (λi s₂=>s₂.TypeIs o T/\wpAny (model prog w) A (getItem o i) Q E s₂) E s₁) E s) :
 wpAny (model prog w) A (eval (.Subscript value slice pos) env) Q E s:=by
 refine Subscript_ (kU h (λo s₁ h₁=>kU h₁ (λi s₂ h₂=>?_) λ_ _ x=>x) λ_ _ x=>x);obtain⟨hT,h₂⟩:=h₂;unfold subscriptTail;refine aB ?_;rw[getitemInPython_of_ne hT.not_modules];refine aB (wpAny_specialOf hT hl ?_);have fin:wpAny (model prog w) A (subscripted slice false o i) (λr s₃=>wpAny (model prog w) A (letTemporaryGo value o r >>= λ_=>pure r) Q E s₃) E s₂:=by rw[hs o i];exact wpAny_operating (kU h₂ (λr s₃ h₃=>aB (wpAny_letTemporaryGo (fW h₃))) λ_ _ x=>x)
 first
  |exact fW (aB fin)
  |exact aB (fW (aB fin))
  |exact aB fin
def Co(h:Heap)(hb:sysModules<h.objs.size):ObjOk P w H (h.push { cls:=.type "dict",data:=.dict #[] }) h.objs.size (.dK []):=⟨lU _,jE.mpr (lX (je hb)),[],.nil,Heap.DictOf.new h⟩
noncomputable def yW:List (TE×TE)->St->Hp->(List (V×V)->Hp->Prop)->Prop
 |[],_,H,Q=>Q [] H
 |(tk,tv)::r,σ,H,Q=>tk σ H λx H1=>tv σ H1 λy H2=>yW r σ H2 λps H3=>Q ((x,y)::ps) H3
abbrev VV:List (V×V)->List (TB×TB)->Prop:=Paired λp q=>RelV p.1 q.1/\RelV p.2 q.2
def PK(X:Cx)(pos:Pos)(keys:List (Option Expr))(values:List Expr)(trs:List (TE×TE)):Prop:=
 ∀(ag:List (Addr×Obj))(s:Tv)(σ:St)(H:Hp)(Q:List (V×V)->Hp->Prop),Inv X ag σ H s->yW trs σ H Q->
  wpAny (model X.prog X.w) X.A (evalPairs (pairTrees keys values X.env pos)) (λvs s'=>∃ps H',Inv X ag σ H' s'/\VV ps vs/\Q ps H') X.xe s
def F7:PK X pos [] [] []:=λag s σ H Q I h=>pairTrees_nil_walk ⟨[],H,I,.nil,h⟩
def Cp(hk:PE X k tk)(hv:PE X v tv)(hr:PK X pos ks vs trs) :
 PK X pos (some k::ks) (v::vs) ((tk,tv)::trs):=λag s σ H Q I h=>
 pairTrees_cons_walk (eS (hk ag s σ H _ I h) λu s1 ⟨x,H1,I1,rx,q1⟩=>eS (hv ag s1 σ H1 _ I1 q1) λw2 s2 ⟨y,H2,I2,ry,q2⟩=>eS (hr ag s2 σ H2 _ I2 q2) λws s3 ⟨ps,H3,I3,rel,q3⟩=>⟨(x,y)::ps,H3,I3,.cons ⟨rx,ry⟩ rel,q3⟩)
def p7(kvs more:List (gQ×V)):List (gQ×V):=more.foldl (λacc kv=>kY acc kv.1 kv.2) kvs
def KV.merge:∀{more:List (gQ×V)}{rs:List (gQ×TB)}{kvs:List (gQ×V)}{vs:List (gQ×TB)},KV more rs->KV kvs vs->KV (p7 kvs more) (merged vs rs):=by
 intro more rs kvs vs r;unfold KV at r;induction r generalizing kvs vs with
 |nil=>intro q;exact q
 |@cons p q ps qs h t ih=>
  intro r0;have e:KV (kY kvs p.1 p.2) (stored vs q.1 q.2):=by have:=r0.put p.1 h.2;rw[<- h.1];exact this
  exact ih e
theorem nu:∀(more kvs:List (gQ×V)),(p7 kvs more).length<=kvs.length+more.length
 |[],kvs=>by show kvs.length<=kvs.length+0;lia
 |p::r,kvs=>by
  have h1:=nu r (kY kvs p.1 p.2)
  grind [md,p7,kY]
theorem sK:∀{kvs:List (gQ×V)}{ws:List (TB×TB)},VV (kvs.map λkv=>(kV kv.1,kv.2)) ws->∃rs,Carries (bS P w) ws rs/\KV kvs rs
 |[],_,r=>by rw[rD]at r;cases r;exact⟨[],True.intro,.nil⟩
 |p::kvs,_,r=>by
  rw[c7]at r;cases r with
  |@cons a b as bs h t=>obtain⟨rs,c,q⟩:=sK (P:=P) (w:=w) t;obtain⟨b1,b2⟩:=b;exact⟨(p.1,b2)::rs,⟨oB h.1,rfl,c⟩,.cons ⟨rfl,h.2⟩ q⟩
def Ng(trs:List (TE×TE)):TE:=λσ H Q=>∀p,H p=none->yW trs σ (bQ H p (.dK [])) λps H2=>H2 p=some (.dK [])/\∃kvs:List (gQ×V),ps=kvs.map (λkv=>(kV kv.1,kv.2))/\kvs.length<=15/\Q (.ref p) (bQ H2 p (.dK (p7 [] kvs)))
def F8(h:PK X pos keys values trs)(hall:keys.all (·.isSome)=true)(hl:keys.length=values.length)(h0:keys≠[])
 (h15:keys.length<=15):PE X (.Dict keys values pos) (Ng trs):=by
 intro ag s σ H Q I q;have hn:=I.bP.fresh (dJ s.heap.objs.size);have I1:=I.laid (a:=s.heap.objs.size) (o:=.dK []) (h':=s.heap.push { cls:=.type "dict",data:=.dict #[] }) (t':=s.toks) (λ_ _ q=>c6 _ q) (dJ _) (Co s.heap I.big);refine wpAny_Dict_walk (knd:=bS X.prog X.w) hall hl h0 h15 (eS (h ag _ σ _ _ I1 (q _ hn)) λws s2 ⟨ps,H2,I2,rel,e,kvs,ep,lk,q2⟩=>?_);subst ep;obtain⟨rs,c,rk⟩:=sK (P:=X.prog) (w:=X.w) rel;obtain⟨z,hd,vs0,r0,dd⟩:=HQ I2.bP e;cases r0;refine⟨rs,c,dd,λh' dd' hs=>⟨.ref s.heap.objs.size,_,?_,rfl,q2⟩⟩;have hz:(p7 [] kvs).length<=sizeLine:=by have h1:=nu kvs [];rw[mW]at h1;rw[SH];lia
 have he:∃q,h'.get? s.heap.objs.size=some q:=let ⟨q,_,_,hq,_⟩:=dd';⟨q,hq⟩;exact vM I2 (by rw[e];exact True.intro) hs he (Cm hz hd (rk.merge .nil) dd')
structure M1(X:Cx) (o:Expr) (m:Str) (apos:Pos) (e:Expr) (cpos:Pos):Prop where
 base:attributeBase o m X.env (eval o X.env)=eval o X.env
 R_:((backTo cpos (starEach [e] X.env)).all (λx=>!x.1)&&(backToKw cpos (keywordEach [] X.env)).all (λx=>x.1.isSome)
  && decide (([e]:List Expr).length+([]:List Keyword).length+(if([]:List Keyword).isEmpty then 0 else 1)<30))=true
 line:(apos.endLine==cpos.line)=true
 trees:backTo cpos (starEach [e] X.env)=[(false,eval e X.env)]
def Ri(H:Hp)(a:Addr):Prop:=(∃kvs,Rd H a (.dK kvs))\/∃kvs,Rd H a (.dT kvs)
def JQ(I:Inv X ag σ H s)(d:Ri H a) :
 s.TypeIs (.ref a) "dict"/\(∀b,Value.ref a=.ref b->∃ob,s.heap.get? b=some ob/\ob.dict=none)/\(a==sysModules)=false:=by
 rcases d with⟨kvs,e⟩|⟨kvs,e⟩
 .obtain⟨_,hd,vs,_,dd⟩:=zW I.bP e;refine⟨dd.typeIs,λb q=>?_,hd⟩;cases q;obtain⟨ob,_,_,h1,h2,_⟩:=dd;exact⟨ob,h1,h2.2.1⟩
 .obtain⟨_,hd,xs,_,dd⟩:=zX I.bP e;refine⟨dd.typeIs,λb q=>?_,hd⟩;cases q;obtain⟨ob,_,_,h1,h2,_⟩:=dd;exact⟨ob,h1,h2.2.1⟩
end L2
namespace Att
open PySem PySem.W PySem.Calls PyProof.Rows
def rN:∀(ns:List Int)(vs:List TB),WellAll P h vs (ns.map WData.int)->IntsAre vs ns:=by
 intro ns;induction ns with
 |nil=>intro vs w;rw[rD]at w;cases w;exact .nil
 |cons n ns ih=>
  intro vs w;rw[c7]at w;cases w with
  |cons a b=>cases a;exact .cons _ _ (ih _ b)
def A7{l:OpenLaw}{n:Nat}(hn:l.most=some n){P:Params}
 (hpre:l.row.toRowW.claim.pre args=true) (hwl:WellAll P h vals args) :
 ∃a vs ns,vals=[Value.ref a]/\args=[WData.list (ns.map WData.int)]/\h.get? a=some { cls:=.type "list",data:=.seq vs.toArray }/\IntsAre vs ns/\ns.length<=n:=by
 have hsh:WShape.hasAll [] args [.list .int]=true:=(pre_splitW hpre).1;have hc:l.pre.holds [] {args:=args}=true:=(pre_splitW hpre).2;obtain⟨d,r,rfl,h1,h2⟩:=hasAllW_cons hsh;obtain rfl:=hasAllW_nil h2;obtain⟨xs,rfl,h3⟩:=hasW_list h1;obtain⟨ns,rfl⟩:=items_int h3;have cj:ns.length<=n:=by
  unfold OpenLaw.pre at hc;have h4:(WTm.not (.lt (.lit (.int (n:Int))) (.len (.arg 0)))).holds [] {args:=[.list (ns.map .int)]}=true:=by have h4:=(holds_andW hc).1;rw[hn]at h4;exact h4
  have h5:=condW_of h4 (w_not (w_lt w_lit (w_len_list (w_arg rfl))))
  grind
 cases hwl with
 |cons w1 w2=>
  cases w2;cases w1 with
  |list ho hall=>exact⟨_,_,ns,rfl,rfl,ho,rN ns _ hall,cj⟩
def A8(l:OpenLaw)(args:List WData):l.row.toRowW.claim.post args (.bool true) args=true:=
 postW_of (r:=l.row.toRowW) (X:=(true==true))
  (show WShape.has [] (.bool true) .bool=true by first|rfl|decide|simp[WShape.has,WShape.arms,WShape.armsAll])
  (show(WTm.eq .res (.lit (.bool true))).value [] {args:=args,res:=some (.bool true),after:=args}=some (.bool (true==true))from w_eq_bool (w_res rfl) w_lit) rfl
def attach_call{l:OpenLaw}{n:Nat}{XP:(Str->Option TB)->Heap->Prop}{YP:World->Heap->Prop}
 (hn:l.most=some n) (hdf:d.params.defaults=[])
 (call:∀(w:World)(s₀ s₁:Tv)(mg mb:Str->Option TB)(fa:Addr)(o:Obj)(pm cd doc:TB)(a:Addr)(vs:List TB)(ns:List Int),
   Ground q loose [] XP w s₀ mg mb s₁.heap->YP w s₁.heap->
   s₁.heap.get? fa=some o->o.data=.func (docDef d.name d.params d.body d.scope pm cd doc)->s₁.heap.CodeRec cd d.name->mg d.name=some (.ref fa)->
   s₁.heap.get? a=some { cls:=.type "list",data:=.seq vs.toArray }->IntsAre vs ns->ns.length<=n->s₁.gens=#[]->
   codeAny (model l.prog w) callerA (.call (.ref fa) ⟨[.ref a],[]⟩) (λr s'=>r=.ok (.ret (.bool true))/\OldK s₁.heap s'.heap/\s'.os=s₁.os/\AllBare s'.gens) s₁) :
 WalkO q loose XP YP l.row.toRowW d [] (λf vs=>PySem.call f vs):=by
 intro w s₀ s₁ mg mb G Y fa o pm cd doc dV kV ho hd hcd hD hmg hg args vals as hpre hlay hrd hwl hlo;obtain rfl:dV=.none:=Dflts.none hD hdf;obtain rfl:kV=.none:=Dflts.noKw hD;obtain⟨a,vs,ns,rfl,rfl,hobj,hints,cj⟩:=A7 hn hpre hwl;refine enter_call (SN (call w s₀ s₁ mg mb fa o pm cd doc a vs ns G Y ho (fd_plain hd) hcd hmg hobj hints cj hg) λr s' hq=>?_);obtain⟨rfl,h2,h3,h4⟩:=hq;exact⟨.inl ⟨.bool true,.bool true,[],rfl,λ_=>rfl,.bool true,A8 l _,λ_=>⟨List.Pairwise.nil,λ_ hm=>(nomatch hm)⟩⟩,h2,h3,h4⟩
end Att
namespace L2
open PySem PySem.Spec PyProof.Rows
noncomputable def aV(s:Stmt):Arguments:=match s with
 |.FunctionDef _ a _ _ _ _ _ _ _ _=>a
 |_=>{posonlyargs:=[],args:=[],vararg:=none,kwonlyargs:=[],kw_defaults:=[],kwarg:=none,defaults:=[]}
noncomputable def aT(s:Stmt):List Stmt:=match s with
 |.FunctionDef _ _ b _ _ _ _ _ _ _=>b
 |_=>[]
noncomputable def ar(s:Stmt):Scope:=match s with
 |.FunctionDef _ _ _ _ _ _ sc _ _ _=>sc
 |_=>{kind:=.function,names:=[],isGenerator:=false,isCoroutine:=false}
noncomputable abbrev E0:XK:=λ_ _ _=>False
structure MC(K:Tw) (x qual:Str) (st:Stmt) (f:Addr) (fd:FuncData):Prop where
 ex:∃(oc:TB)(od:Option Addr)(kV doc pm:TB)(an:Option Addr)(cdv ct:TB)(osl:Array (Option TB)),
  fd=fnOf x qual (aV st) (aT st) (ar st) .none kV doc pm an cdv ct/\K.lookup f=some ⟨oc,od,.func fd,osl⟩/\codeIn K cdv qual=true
 kp:keepIn K (.ref f)=true
section
variable{K:Tw}
def MC.binds{x qual:Str}{st:Stmt}(F:MC K x qual st f fd)
 (h:∀(kV doc pm:TB)(an:Option Addr)(cdv ct:TB)(us:List TB),us.length=ps.length->bindArgs (fnOf x qual (aV st) (aT st) (ar st) .none kV doc pm an cdv ct) ⟨us,[]⟩=pure (ps.zip us)):Binds K fd ps []:=by
 obtain⟨oc,od,kV,doc,pm,an,cdv,ct,osl,rfl,lk,hcd⟩:=F.ex;exact .all (h kV doc pm an cdv ct)
def JR{x qual:Str}{st:Stmt}{f:Addr}{oc:TB}{od an:Option Addr}{osl:Array (Option TB)}{kV doc pm cdv ct:TB}(l:K.lookup f=some ⟨oc,od,.func (fnOf x qual (aV st) (aT st) (ar st) .none kV doc pm an cdv ct),osl⟩)
 (c:codeIn K cdv qual=true) (k:keepIn K (.ref f)=true):MC K x qual st f (fnOf x qual (aV st) (aT st) (ar st) .none kV doc pm an cdv ct):=⟨⟨oc,od,kV,doc,pm,an,cdv,ct,osl,rfl,l,c⟩,k⟩
end
section
def pv(i:Nat){x:Str}{pos:Pos}(hN:autoParam (X.N[i]?=some x) TV)(hv:autoParam (PF X.env.scope x) TH._auto_1)(hd:autoParam (dB x) TQ)
 (hcd:autoParam ((x==("__classdict__" : Str))=false) TQ):PE X (.Name x pos) (sC i):=Ji hN hv hd hcd
end
def vN{A B:Prop}(h:B):if false=true then A else B:=by rw[f7 ur];exact h
def uE{A B:Prop}(h:A):if true=true then A else B:=by rw[dL rfl];exact h
def Same(H H':Hp):Prop:=∀b o,H b=some o->H' b=some o
def Same.refl(H:Hp):Same H H:=λ_ _ h=>h
def Same.trans(a:Same H H1)(b:Same H1 H2):Same H H2:=λc o h=>b c o (a c o h)
def Same.free(e:Same H H')(h:H' l=Option.none):H l=Option.none:=by
 cases q:H l with
 |none=>rfl
 |some o=>rw[e l o q]at h;cases h
def jI(P:Tz)(w:World):FI:=λouter H s E e s'=>
 ∃(x C t:Addr)(B:Heap)(H':Hp),e=.ref x/\s'.os=s.os/\AllBare s'.gens/\Un (jJ outer) [] H H' s.heap s'.heap/\HOk P w H' s'.heap/\
  Heap.FlyingW B outer x (.ref C) (.ref t) s'.heap/\(∀b u,H' b=some u->∃o,B.get? b=some o)/\(∀b o,s.heap.get? b=some o->Qt H b->b∉jJ outer->B.get? b=some o)/\
  (∀b o,s.heap.get? b=some o->b∉jJ outer->∃o',B.get? b=some o')/\H' x=none/\E (.ref C) none H'
def jf{H:Hp}{B h1 h2:Heap}(ok:HOk P w H h1)(sA:∀b u,H b=some u->∃o,B.get? b=some o)(s1:B.StaysIn h1)(s2:B.StaysIn h2):HOk P w H h2:=λa o e=>(ok a o e).stay (λb u hb q=>by have hb':∃v,H b=some v:=hb.elim (λz=>⟨o,by rw[z];exact e⟩) λz=>⟨_,z⟩;obtain⟨v,hv⟩:=hb';obtain⟨o',ho⟩:=sA b v hv;have:=s1 b o' ho;rw[q]at this;cases this;exact s2 b _ ho) (λ_ q=>q) λ_ _ q=>q
def sL:∀{o:HO},ObjOk P w H h a o->∃ob,h.get? a=some ob
 |.lst xs,x=>by obtain⟨_,_,_,_,e⟩:=x;exact⟨_,e⟩
 |.tup xs,x=>by obtain⟨_,_,_,⟨_,e,_⟩⟩:=x;exact⟨_,e⟩
 |.dK kvs,x=>by obtain⟨_,_,_,_,o,_,_,e,_⟩:=x;exact⟨_,e⟩
 |.dT kvs,x=>by obtain⟨_,_,_,_,o,_,_,e,_⟩:=x;exact⟨_,e⟩
 |.set S n,x=>by obtain⟨o,_,_,_,e,_⟩:=x;exact⟨_,e⟩
 |.ins C dx fs,x=>by obtain⟨_,_,_,e,_⟩:=x;exact⟨_,e⟩
 |.own y,x=>x
 |.xd fs,x=>by obtain⟨_,⟨_,_,_,e,_⟩,_⟩:=x;exact⟨_,e⟩
 |.P1 lo hi,x=>by obtain⟨_,_,_,e⟩:=x;exact⟨_,e⟩
 |.dr ob u,x=>by obtain⟨e,_⟩:=x;exact⟨_,e⟩
 |.Ja ps,x=>⟨_,(show h.get? a=some _ from x)⟩
 |.met f y,x=>⟨_,(show h.get? a=some _ from x)⟩
 |.ext φ,x=>x.2.1
section
variable{P:Tz}{w:World}{K:Tw}{mg:Str->Option TB}{base:Heap}{N:List Str}{qual:Str}{scope:Scope}{f:Addr}{cd:TB}{A:TC}{outer:List Env}{s₀:Tv}{H₀:Hp}{E:XK}
abbrev lZ(P:Tz)(w:World)(K:Tw)(mg:Str->Option TB)(base:Heap)(N:List Str)(qual:Str)(scope:Scope)(f:Addr)(cd:TB)(A:TC)(outer:List Env)(s:Tv)(H:Hp)(E:XK):Cx:=A5 (jI P w) P w K mg base N qual scope f cd A outer s H E
def rO(I:Inv (lZ P w K mg base N qual scope f cd A outer s₀ H₀ E) ag σ H s)(e:s₀.heap.get? b=some o)(hb:b∉jJ outer) :
 b∉jJ (lZ P w K mg base N qual scope f cd A outer s₀ H₀ E).stack:=λz=>by
 rcases cJ.mp (I.qU b z)with q|q
 .exact absurd (iB (f6 e) (jQ I.ok.above (Nat.le_of_eq q.symm))) (yI _)
 .exact hb q
def sM(hb:b∈jJ outer):b∈jJ (lZ P w K mg base N qual scope f cd A outer s₀ H₀ E).stack:=by show b∈jJ (envOfC qual scope s₀.heap.objs.size f cd::outer);unfold jJ;rw[Sq];have:(envOfC qual scope s₀.heap.objs.size f cd).frame=some s₀.heap.objs.size:=rfl;rw[this];exact gO _ hb
def aF:nU (jI P w) (lZ P w K mg base N qual scope f cd A outer s₀ H₀ E) E:=by
 intro ag σ H s e s' I h;obtain⟨x,C,t,B,H',rfl,os,bare,un,bP,fly,sA,unt,inB,hx,hE⟩:=h;show wpAny _ _ (leaving _ _) _ _ s';have nx:∀b:Addr,b∉(lZ P w K mg base N qual scope f cd A outer s₀ H₀ E).ex:=λb z=>absurd (show b∈([]:List Addr)from z) (by simp);refine wpAny_leaves_onW I.ok.frames rfl fly λh' fly' up=>?_;have nf:∀b,b∈jJ outer->∀o,s'.heap.get? b=some o->∀vs,o.data≠.fields vs:=λb hb o e=>by obtain⟨_,o',e',d⟩:=fly.2.2.1.mem (sM (P:=P) (w:=w) (K:=K) (mg:=mg) (base:=base) (N:=N) (H₀:=H₀) (E:=E) (A:=A) hb);rw[e]at e';cases e';exact d
 refine⟨x,C,t,B,H',rfl,os.trans I.os,bare,⟨λb o e n hb _=>?_,λb o e n hb _=>?_,λb o e n _=>?_,λb o e _=>?_,λb xs q=>un.j6 b xs (I.base.j6 b xs q),λb o u q=>un.nt b o u (I.base.nt b o u q),λb ps q=>?_⟩,jf bP sA fly.1 fly'.1,fly',sA,λb o e n hb=>?_,λb o e hb=>?_,hx,hE⟩
 .exact fly'.1 b o (unt b o (I.base.keep b o e n hb (nx b)) (n.imp (λn=>I.base.free b o e n (nx b)) λ⟨xs,q⟩=>⟨xs,I.base.j6 b xs q⟩) (rO I e hb))
 .obtain⟨sl,e1⟩:=I.base.slot b o e n hb (nx b);obtain⟨sl',e2⟩:=un.slot b _ e1 (I.base.free b o e n (nx b)) (sM hb) (by simp);obtain⟨sl'',e3⟩:=up b _ e2 (nf b hb _ e2);exact⟨sl'',e3⟩
 .obtain⟨o1,e1⟩:=I.base.there b o e (nx b);exact un.free b o1 e1 (I.base.free b o e n (nx b)) (by simp)
 .obtain⟨o1,e1⟩:=I.base.there b o e (nx b);by_cases hb:b∈jJ outer
  .obtain⟨o2,e2⟩:=un.there b o1 e1 (by simp);obtain⟨sl,e3⟩:=up b _ e2 (nf b hb _ e2);exact⟨_,e3⟩
  .obtain⟨o',q⟩:=inB b o1 e1 (rO I e hb);exact⟨o',fly'.1 b o' q⟩
 .obtain⟨m1,e1⟩:=I.base.pM b ps q;obtain⟨m2,e2⟩:=un.pM b _ e1;exact⟨m1++m2,by rw[e2,Array.append_assoc]⟩
 .exact unt b o (I.base.keep b o e n hb (nx b)) (n.imp (λn=>I.base.free b o e n (nx b)) λ⟨xs,q⟩=>⟨xs,I.base.j6 b xs q⟩) (rO I e hb)
 .obtain⟨o1,e1⟩:=I.base.there b o e (nx b);exact inB b o1 e1 (rO I e hb)
def F9{s:Tv}{h':Heap}{x C:Addr}{args:List TB}(I:Inv (lZ P w K mg base N qual scope f cd A outer s₀ H₀ E) ag σ H s)(hx:Heap.MadeExcOf s.heap h' x (.ref C) args)(hE:E (.ref C) none H) :
 (lZ P w K mg base N qual scope f cd A outer s₀ H₀ E).xe (.ref x) {s with heap:=h'}:=by
 show wpAny _ _ (leaving _ _) _ _ _;have nx:∀b:Addr,b∉(lZ P w K mg base N qual scope f cd A outer s₀ H₀ E).ex:=λb z=>absurd (show b∈([]:List Addr)from z) (by simp);have hin:∀env∈(lZ P w K mg base N qual scope f cd A outer s₀ H₀ E).stack,∀b,env.frame=some b->b∈jJ (lZ P w K mg base N qual scope f cd A outer s₀ H₀ E).stack:=λenv he b hb=>nM.mpr ⟨env,he,hb⟩;have FF:=I.stack;refine wpAny_leaves_madeW (base:=hideAll s.heap (jJ (lZ P w K mg base N qual scope f cd A outer s₀ H₀ E).stack)) I.ok.frames rfl (λb o q=>Sv _ q) (PySem.W.funFrames_hide FF hin) hx λh'' t fly _ _ up=>?_;have inB:∀b o,s.heap.get? b=some o->b∉jJ (lZ P w K mg base N qual scope f cd A outer s₀ H₀ E).stack->(hideAll s.heap (jJ (lZ P w K mg base N qual scope f cd A outer s₀ H₀ E).stack)).get? b=some o:=λb o e hb=>pL _ e hb;have sA:∀b u,H b=some u->∃o,(hideAll s.heap (jJ (lZ P w K mg base N qual scope f cd A outer s₀ H₀ E).stack)).get? b=some o:=λb u e=>by obtain⟨o,ho⟩:=sL (I.bP b u e);exact⟨o,inB b o ho λz=>by rw[I.wU b z]at e;cases e⟩
 have st:(hideAll s.heap (jJ (lZ P w K mg base N qual scope f cd A outer s₀ H₀ E).stack)).StaysIn s.heap:=λb o q=>Sv _ q;have nf:∀b,b∈jJ outer->∀o,s.heap.get? b=some o->∀vs,o.data≠.fields vs:=λb hb o e=>by obtain⟨_,o',e',d⟩:=FF.mem (sM (P:=P) (w:=w) (K:=K) (mg:=mg) (base:=base) (N:=N) (H₀:=H₀) (E:=E) (A:=A) hb);rw[e]at e';cases e';exact d
 have hxn:H x=none:=by
  cases q:H x with
  |none=>rfl
  |some u=>obtain⟨o,ho⟩:=sL (I.bP x u q);rw[hx.new]at ho;cases ho
 refine⟨x,C,t,_,H,rfl,I.os,I.bare,⟨λb o e n hb _=>?_,λb o e n hb _=>?_,λb o e n _=>I.base.free b o e n (nx b),λb o e _=>?_,I.base.j6,I.base.nt,I.base.pM⟩,jf I.bP sA st fly.1,fly,sA,λb o e n hb=>?_,λb o e hb=>?_,hxn,hE⟩
 .exact fly.1 b o (inB b o (I.base.keep b o e n hb (nx b)) (rO I e hb))
 .obtain⟨sl,e1⟩:=I.base.slot b o e n hb (nx b);obtain⟨sl',e2⟩:=up b _ (hx.keeps b _ e1) (nf b hb _ e1);exact⟨sl',e2⟩
 .obtain⟨o1,e1⟩:=I.base.there b o e (nx b);by_cases hb:b∈jJ outer
  .obtain⟨sl,e2⟩:=up b _ (hx.keeps b _ e1) (nf b hb _ e1);exact⟨_,e2⟩
  .exact⟨o1,fly.1 b o1 (inB b o1 e1 (rO I e hb))⟩
 .exact inB b o (I.base.keep b o e n hb (nx b)) (rO I e hb)
 .obtain⟨o1,e1⟩:=I.base.there b o e (nx b);exact⟨o1,inB b o1 e1 (rO I e hb)⟩
def oD:PassesOwn (model P w) (lZ P w K mg base N qual scope f cd A outer s₀ H₀ E).A (lZ P w K mg base N qual scope f cd A outer s₀ H₀ E).env (lZ P w K mg base N qual scope f cd A outer s₀ H₀ E).xe:=by
 show PassesOwn _ _ _ (λe s'=>wpAny _ _ (leaving _ e) _ _ s')
 passes_own
end
abbrev uF:List TB:=[.type "ValueError",.type "Exception",.type "BaseException",.type "object"]
def Cq(h:Heap)(C:Addr)(bm:List TB):Prop:=∃N nm q bs hdct sn sub ab col dd k0 k1 k2 k3 k5 mN,h.get? C=some (excClassObj nm q C N bs bm hdct sn sub ab col dd k0 k1 k2 k3 k5 "ValueError.__new__")/\h.Ns N mN/\mN "__init__"=none/\OwnTail h uF bm
noncomputable def me(K:Tw)(C:Addr):List TB:=match K.lookup C with
 |some ⟨_,_,.cls cd,_⟩=>cd.mro
 |_=>[]
def sN{K:Tw}(X:K.In h)(q:excIn K C uF "ValueError.__new__"=true):∃bm,me K C=.ref C::bm/\Cq h C bm:=by
 have q0:=q;unfold excIn at q;unfold me;cases ho:K.lookup C with
 |none=>rw[ho]at q;cases q
 |some ob=>
  rw[ho]at q;split at q
  .rename_i dd cd sl he;injection he with he;subst he;dsimp only;split at q
   .rename_i D bm k0 k1 k2 k3 n k5 hm hs;rw[hm];simp only[cH,Sa,Tj]at q;obtain⟨⟨⟨⟨⟨hD,hn⟩,hdel⟩,ht⟩,bP⟩,hni⟩:=q;refine⟨bm,by rw[hD],?_⟩;obtain⟨nm,bs,mro,ns,qn,hd,sn,sub,ab,col,del⟩:=cd;dsimp only at hm hdel bP hni;have es:sl=#[k0,k1,k2,k3,some (.builtin n),k5]:=by
     cases sl with
     |mk l=>simp only at hs;rw[hs]
    rw[hn]at es;subst es;have hC:=X _ _ ho;rw[hdel,hm,hD]at hC;exact⟨ns,nm,qn,bs,hd,sn,sub,ab,col,dd,k0,k1,k2,k3,k5,_,hC,.of_isNs (PySem.W.isNs_of_in X bP),PySem.W.nsMap_none_of_in X bP hni,PySem.W.tail_of_in X ht⟩
   .cases q
  .cases q
structure XC(K:Tw) (mg:Str->Option TB) (c:Str) (C:Addr):Prop where
 gl:mg c=some (.ref C)
 ex:excIn K C uF "ValueError.__new__"=true
section
variable{X:Cx}{c:Str}{C:Addr}{np cpos pos:Pos}{e₀:Expr}{bd:List Expr}{t:TA}
noncomputable def JS(t:TA)(EW:Hp->Prop):TS:=λ_ σ H=>t σ H λvs H'=>vs.length<=sizeLine/\EW H'
theorem Cr{EW:Hp->Prop}(hc:XC X.K X.mg c C)(hg:Gl X c)(hcalm:X.calm=true)(ha:PA X (e₀::bd) t)
 (hl:∀(ag:List (Addr×Obj))(σ:St)(H:Hp)(s:Tv)(h':Heap)(x:Addr)(args:List TB),Inv X ag σ H s->Heap.MadeExcOf s.heap h' x (.ref C) args->EW H->X.xe (.ref x) {s with heap:=h'})
 (he:autoParam (starEach (e₀::bd) X.env=(false,eval e₀ X.env)::starEach bd X.env) TV) (hpl:autoParam (bT X cpos bd) TV) (hd:autoParam (dB c) TQ) :
 PS X (.Raise (some (.Call (.Name c np) (e₀::bd) [] cpos)) none pos) (JS t EW):=by
 intro ag s σ H D I h;obtain⟨bm,_,N,nm,q,bs,hdct,sn,sub,ab,col,dd,k0,k1,k2,k3,k5,mN,hC,hN,hni,TL⟩:=sN I.ok.mod.xK hc.ex;have fb:=PySem.F.excBase_ValueError;refine wpAny_Raise_call_subU (C:=C) (nm:=nm) (q:=q) (N:=N) (bs:=bs) (bm:=bm) (hdct:=hdct) (sn:=sn) (sub:=sub) (ab:=ab) (col:=col) (dd:=dd) (k0:=k0) (k1:=k1) (k2:=k2) (k3:=k3) (k5:=k5) (bmB:=uF)
  fb (by decide +kernel) fb (mN:=mN) (TL.hasType fb.hasBase) (I.ok.hd hcalm) ?_ hni (oy I hg hc.gl ⟨rfl,?_⟩ hd)
 .rw[he];show(false ||(backTo cpos (starEach bd X.env)).any (·.1))=false;rw[hpl];rfl
 .have ha':=ha cpos ag s σ H _ I h;rw[he]at ha' ⊢;refine Calls.evalArgs_plain (kU ha' (λus s2 ⟨vs,H2,I2,r,q2⟩=>?_) λ_ _ y=>y);exact⟨rfl,by rw[<- r.length];exact q2.1,I2.bk _ _ hC,hN.keeps I2.bk,TL.keeps I2.bk,λh' e hm=>hl ag σ H2 s2 h' e us I2 hm q2.2⟩
end
section
variable{M:Model}{A:TC}{E:TB->Tv->Prop}
def uG(hC:Cq s.heap C bm)(hC':Cq s.heap C' bm')(he:s.heap.get? e=some oe)(hcls:oe.cls=.ref C)
 (hq:Q ((Value.ref C::bm).contains (.ref C')) s):wpAny M A (excMatches (.ref e) (.ref C')) Q E s:=by
 obtain⟨N,nm,q,bs,hd,sn,sub,ab,col,dd,k0,k1,k2,k3,k5,mN,hC,_,_,_⟩:=hC;obtain⟨N',nm',q',bs',hd',sn',sub',ab',col',dd',k0',k1',k2',k3',k5',mN',hC',_,_,TL'⟩:=hC';obtain⟨h,g,d,t,os⟩:=s;have hcB:(Value.ref C'::bm').contains (.type "BaseException")=true:=by rw[List.contains_cons,TL'.hasType PySem.F.excBase_ValueError.hasBase,Bool.or_true]
 have f:=tc_notTuple;unfold excMatches
 repeat (first|(with_reducible refine wpAny_loadPart_at he ?_;rw[hcls])|with_reducible refine wpAny_loadPart_at hC' ?_|(with_reducible refine wpAny_isSubtype_exc hC' ?_;rw[hcB])|with_reducible refine wpAny_isSubtype_exc hC ?_|wp_step)
 cases hb:(Value.ref C::bm).contains (.ref C')<;>(rw[hb]at hq;wp_walk;exact hq)
end
abbrev TX:=St->Hp->VK->XK->Prop
def Rj(X:Cx)(e:Expr)(t:TX):Prop:=∀(ag:List (Addr×Obj))(s:Tv)(σ:St)(H:Hp)(Q:VK)(EX:XK),Inv X ag σ H s->t σ H Q EX->
 wpAny (model X.prog X.w) X.A (eval e X.env) (EP X ag σ Q) (λev s'=>∃H1 s1,Inv X ag σ H1 s1/\jI X.prog X.w X.stack H1 s1 EX ev s') s
section
variable{X:Cx}{k:Nat}{f:Addr}{fd:FuncData}{ps:List Str}{sp:Sp}{dvs:List V}{ds:List TB}{x:Str}{p pos:Pos}{e:Expr}{es:List Expr}{t:TA}
theorem Cs(F:cw X.prog X.w X.K X.mg X.base (jI X.prog X.w) k f fd ps sp)(hr:j3 k X.A)(hg:Gl X x)(hm:X.mg x=some (.ref f))(hk:keepIn X.K (.ref f)=true)(hb:Binds X.K fd ps ds)(hd:Vals dvs ds)(ha:PA X.Rz (e::es) t)
 (hdb:autoParam (dB x) TQ) (he:autoParam (sE X e es) TV) (hpl:autoParam (bT X pos es) TV) :
 Rj X (.Call (.Name x p) (e::es) [] pos) (λσ H Q EX=>t σ H λvs H1=>sp (vs++dvs) H1 Q EX):=by
 intro ag s σ H Q EX I h;refine Sz (oy I hg hm ?_ hdb);refine PySem.W.callWith_K (h₀:=X.base) I.ok.mod.xK hk (kU (ha pos ag s σ H _ (I.uq _) h) (λus s1 ⟨vs,H1,I1,r,q⟩=>⟨I1.sx,?_⟩) λ_ _ z=>False.elim z) he hpl;have J:Inv X ag σ H1 s1:=I1.ux;have r2:Vals (vs++dvs) (us++ds):=r.append hd;have hl:(us++ds).length=ps.length:=by rw[<- r2.length];exact F.len _ _ _ _ q
 refine wpAny_call (SN (F.run X.A X.stack s1 H1 ⟨us,[]⟩ (us++ds) (vs++dvs) Q EX hr J.PC (hb s1 us J.sx hl) r2 q) λr s' hq=>?_);cases r with
 |error ev=>exact⟨H1,s1,J,hq⟩
 |ok fl=>
  cases fl with
  |ret u=>exact J.after hq
  |next=>exact False.elim hq
  |brk=>exact False.elim hq
  |cont=>exact False.elim hq
end
noncomputable abbrev Cx.caught(X:Cx)(x:Addr):Cx:={X with A:=X.A.mark (some (.ref x)),calm:=false,xe:=λ_ _=>False}
section
variable{X:Cx}{ag:List (Addr×Obj)}{σ:St}{H:Hp}{s:Tv}{x:Addr}
theorem Inv.caught(I:Inv X ag σ H s)(x:Addr):Inv (X.caught x) ag σ H s:=⟨⟨I.ok.mod,I.ok.kind,I.ok.glob,I.ok.blt,I.ok.above,I.ok.inj,I.ok.has,I.ok.Mj,(λz=>by cases z),I.ok.frames,I.ok.MD,I.ok.P2,I.ok.bs,I.ok.FN,I.ok.zN,I.ok.B2,I.ok.qX,I.ok.Jd,I.ok.kt⟩,I.os,I.bare,I.base,I.loc,I.cell,I.free,I.kM,I.pin,I.bP,I.len⟩
def Inv.uncaught(I:Inv (X.caught x) ag σ H s)(ok:X.Ok):Inv X ag σ H s:=⟨ok,I.os,I.bare,I.base,I.loc,I.cell,I.free,I.kM,I.pin,I.bP,I.len⟩
theorem SP.uncaught{D:Ends}{f:Flow}{s':Tv}(h:SP (X.caught x) ag D f s')(ok:X.Ok):SP X ag D f s':=by
 cases f with
 |next=>obtain⟨σ',H',I,q⟩:=h;exact⟨σ',H',I.uncaught ok,q⟩
 |brk=>obtain⟨σ',H',I,q⟩:=h;exact⟨σ',H',I.uncaught ok,q⟩
 |cont=>obtain⟨σ',H',I,q⟩:=h;exact⟨σ',H',I.uncaught ok,q⟩
 |ret u=>obtain⟨v,σ',H',I,r,q⟩:=h;exact⟨v,σ',H',I.uncaught ok,r,q⟩
def Inv.landed{H1:Hp}{s1 s':Tv}{B:Heap}{h6:Heap}{C t:Addr}{g6:Array GenState}{l:List Env}(I:Inv X ag σ H1 s1)(os:s'.os=s1.os)(bare:AllBare s'.gens)(un:Un (jJ X.stack) [] H1 H s1.heap s'.heap)(bP:HOk X.prog X.w H s'.heap)(fly:Heap.FlyingW B X.stack x (.ref C) (.ref t) s'.heap)
 (sA:∀b u,H b=some u->∃o,B.get? b=some o) (unt:∀b o,s1.heap.get? b=some o->Qt H1 b->b∉jJ X.stack->B.get? b=some o) (inB:∀b o,s1.heap.get? b=some o->b∉jJ X.stack->∃o',B.get? b=some o')
 (st:B.StaysIn h6) (up:s'.heap.UpToSlots h6):Inv X ag σ H {s' with heap:=h6}:=by
 have nf:∀b,b∈jJ X.stack->∀o,s'.heap.get? b=some o->∀vs,o.data≠.fields vs:=λb hb o e=>by obtain⟨_,o',e',d⟩:=fly.2.2.1.mem hb;rw[e]at e';cases e';exact d
 refine I.Jb (ch:=[]) os ⟨λb o e n hb _=>st b o (unt b o e n hb),λb o e n hb _=>?_,λb o e n hx=>un.free b o e n hx,λb o e hx=>?_,un.j6,un.nt,un.pM⟩ (jf bP sA fly.1 st) bare λb z=>absurd z (by simp)
 .obtain⟨sl,e1⟩:=un.slot b o e n hb (by simp);obtain⟨sl',e2⟩:=up b _ e1 (nf b hb _ e1);exact⟨sl',e2⟩
 .by_cases hb:b∈jJ X.stack
  .obtain⟨o1,e1⟩:=un.there b o e (by simp);obtain⟨sl',e2⟩:=up b _ e1 (nf b hb _ e1);exact⟨_,e2⟩
  .obtain⟨o',q⟩:=inB b o e hb;exact⟨o',st b o' q⟩
end
end L2
namespace L2
open PySem PySem.Spec PySem.Calls PyProof.Rows
section
variable{prog:Tz}{w:World}
abbrev tK(prog:Tz)(w:World):=tupleKind (bS prog w)
end
section
def Inv.Rc(I:Inv X ag σ H s)(e:H a=some (.dT [])):Inv X ag σ (bQ H a (.dK [])) s:=by
 obtain⟨z,y,xs,r,o,es,ep,h1,h2,h3,h4,h5⟩:=(show ObjOk X.prog X.w H s.heap a (.dT [])from I.bP a _ e);cases r;exact I.write (x:=a) (e:=a) (t':=s.toks) (h':=s.heap) (by rw[e];exact True.intro) (.inl rfl) (λb u _ q=>q) ⟨o,h1⟩ ⟨z,y,[],.nil,o,es,ep,h1,h2,h3,by
  have e:es=#[]:=by simpa using h4
  subst e;intro x hx;simp at hx,by
  have e:es=#[]:=by simpa using h4
  subst e;constructor,SL⟩
def Inv.Q6(I:Inv X ag σ H s)(e:H a=some (.dK [])):Inv X ag σ (bQ H a (.dT [])) s:=by
 obtain⟨z,y,vs,r,o,es,ep,h1,h2,h3,h4,h5⟩:=(show ObjOk X.prog X.w H s.heap a (.dK [])from I.bP a _ e);cases r;exact I.write (x:=a) (e:=a) (t':=s.toks) (h':=s.heap) (by rw[e];exact True.intro) (.inl rfl) (λb u _ q=>q) ⟨o,h1⟩ ⟨z,y,[],.nil,o,es,ep,h1,h2,h3,(by
  generalize es.toList=l at h5;obtain⟨h5,_⟩:=h5;cases l with
  |nil=>rfl
  |cons x r=>cases h5),SL⟩
end
def zY(H:Hp)(a:Addr)(y:V)(r:Option V):Prop:=JO H a y r\/(Rd H a (.dT [])/\(∃k,y=kV k)/\r=none)\/(Rd H a (.dK [])/\(∃(b:Addr)(k:List gQ),y=.ref b/\H b=some (.tup (k.map kV)))/\r=none)
def HR(H:Hp)(a:Addr)(y v:V)(H':Hp):Prop:=DPut H a y v H'\/(H a=some (.dT [])/\∃k,y=kV k/\H'=bQ H a (.dK [(k,v)]))\/(H a=some (.dK [])/\∃(b:Addr)(k:List gQ),y=.ref b/\H b=some (.tup (k.map kV))/\H'=bQ H a (.dT [(k,v)]))
section
def Ct(x:ObjOk P w H h a (.dT [])):(a==sysModules)=false/\h.DictOf (bS P w) a []:=by
 obtain⟨z,y,xs,r,o,es,ep,h1,h2,h3,h4,h5⟩:=x;cases r;have e:es=#[]:=by grind
 subst e;exact⟨y,o,#[],ep,h1,h2,h3,λx hx=>by simp at hx,by constructor,SL⟩
def Cu(x:ObjOk P w H h a (.dK [])):(a==sysModules)=false/\h.DictOfH (tupleKind (bS P w)) a []:=by
 obtain⟨z,y,vs,r,o,es,ep,h1,h2,h3,h4,h5⟩:=x;cases r;refine⟨y,o,es,ep,h1,h2,h3,?_,λx hx=>(nomatch hx),SL⟩;generalize es.toList=l at h5;obtain⟨h5,_⟩:=h5;cases l with
 |nil=>rfl
 |cons x r=>cases h5
def Nh(hu:A.units+1<cLine)(I:Inv X ag σ H s)(g:zY H a y o)(ry:RelV y u)(h:∀s',Inv X ag σ H s'->Q (.bool o.isSome) s') :
 wpAny (model X.prog X.w) A (compareOp .In u (.ref a)) Q E s:=by
 rcases g with g|⟨e,⟨k,rfl⟩,rfl⟩|⟨e,⟨b,k,rfl,eb⟩,rfl⟩
 .exact Qr hu I g ry h
 .obtain⟨y,dd⟩:=Ct (e.ok I.bP);exact wpAny_in_of (oB ry) y dd.mapOf (h _ (I.tok _))
 .obtain rfl:u=Value.ref b:=ry;obtain⟨y,dd⟩:=Cu (e.ok I.bP);exact wpAny_in_heap (Se hu) (p4 I.bP eb) y dd (h _ (I.tok _))
def Cv(hu:A.units+1<cLine)(I:Inv X ag σ H s)(g:zY H a y o)(ry:RelV y u)(h:∀s',Inv X ag σ H s'->Q (.bool (!o.isSome)) s') :
 wpAny (model X.prog X.w) A (compareOp .NotIn u (.ref a)) Q E s:=by
 rcases g with g|⟨e,⟨k,rfl⟩,rfl⟩|⟨e,⟨b,k,rfl,eb⟩,rfl⟩
 .exact F5 hu I g ry h
 .obtain⟨y,dd⟩:=Ct (e.ok I.bP);exact wpAny_notIn_of (oB ry) y dd.mapOf (h _ (I.tok _))
 .obtain rfl:u=Value.ref b:=ry;obtain⟨y,dd⟩:=Cu (e.ok I.bP);exact wpAny_notIn_heap (Se hu) (p4 I.bP eb) y dd (h _ (I.tok _))
def yX(hu:A.units+1<cLine)(I:Inv X ag σ H s)(g:HR H a y v H')(ry:RelV y u)(rv:RelV v r)(h:∀s',Inv X ag σ H' s'->Q () s') :
 wpAny (model X.prog X.w) A (setItem (.ref a) u r) Q E s:=by
 rcases g with g|⟨e,k,rfl,rfl⟩|⟨e,b,k,rfl,eb,rfl⟩
 .exact p6 hu I g ry rv h
 .refine p6 hu (I.Rc e) (DPut.k (kvs:=[]) (k:=k) (v:=v) aP (by decide)) ry rv λs' I'=>?_;rw[zO]at I';exact h s' I'
 .refine p6 hu (I.Q6 e) (DPut.t (kvs:=[]) (k:=k) (v:=v) aP (by rw[aH (HJ eb e (λz=>nomatch z))];exact eb) (by decide)) ry rv λs' I'=>?_;rw[zO]at I';exact h s' I'
end
section
noncomputable def Cw(td ty tv:TE):TS:=λD σ H=>tv σ H λv H1=>td σ H1 λx H2=>ty σ H2 λy H3=>∃a H4,x=.ref a/\HR H3 a y v H4/\D.nx σ H4
def Cy(hu:X.A.units+1<cLine)(ho:PE X o td)(hi:PE X i ty)(hv:PE X value tv)(hs:swapsWith value (some (.Subscript o i pos')) pos.line X.env=pure false) :
 PS X (.Assign [.Subscript o i pos'] value pos) (Cw td ty tv):=by
 intro ag s σ H D I h;refine wpAny_Assign_Subscript (eS (hv ag s σ H _ I h) λr s1 ⟨v,H1,I1,rv,q1⟩=>eS (ho ag s1 σ H1 _ I1 q1) λu s2 ⟨x,H2,I2,rx,q2⟩=>eS (hi ag s2 σ H2 _ I2 q2) λiv s3 ⟨y,H3,I3,ry,a,H4,ex,g,q3⟩=>?_) hs;subst ex;obtain rfl:u=Value.ref a:=rx;exact yX hu I3 g ry rv λs4 I4=>⟨σ,H4,I4,q3⟩
end
end L2
namespace ST
open PySem PySem.SetTable
noncomputable def st(m:Nat)(h:Int):Probe:={j:=bits h%(m+1),more:=runEnd m (bits h%(m+1))-bits h%(m+1),i:=bits h%(m+1),perturb:=bits h,dummy:=none}
noncomputable def RJ(m:Nat)(p:Probe):Probe:=if p.more>0 then {p with j:=p.j+1,more:=p.more-1}else {p with j:=(leap m p.i p.perturb).1,more:=runEnd m (leap m p.i p.perturb).1-(leap m p.i p.perturb).1,i:=(leap m p.i p.perturb).1,perturb:=(leap m p.i p.perturb).2}
def it(m:Nat):Nat->Probe->Probe
 |0,p=>p
 |n+1,p=>it m n (RJ m p)
noncomputable def lp(m:Nat):Nat->Nat×Nat->Nat×Nat
 |0,p=>p
 |n+1,p=>lp m n (leap m p.1 p.2)
def RK(m:Nat):Prop:=m=7\/m=31\/m=127\/m=511\/m=2047
def RL(xs:List Nat):Prop:=xs.Pairwise (·< ·)
structure Tb(t:SetTable):Prop where
 jm:RK t.mask
 R9:t.dummies=#[]
 R8:RL t.place.toList
 le:∀j∈t.place.toList,j<=t.mask
end ST
namespace ST
open PySem PySem.W PyProof.Rows
noncomputable def Rk(p:Array Nat)(i:Nat):Nat:=p.getD i 0
end ST
namespace L2
open PySem PySem.Spec PySem.Calls PyProof.Rows ST
noncomputable abbrev iK(ns:List Int):List gQ:=ns.map Sum.inl
noncomputable def byT(w:World):Bool:=w.params.followText "set-order"
noncomputable abbrev Ni:=List Int×Addr
section
abbrev eT(prog:Tz)(w:World)(x:Ni):Int×TB:=((tK prog w).hash (iK x.1),Value.ref x.2)
end
noncomputable abbrev setNew(led:Bool):Obj:={ cls:=.type "set",dict:=none,data:=.set #[] 0 (.fresh 0 0 led) }
section
def uH(a:TB)(h:Q₁ (.ref s.heap.objs.size) {s with heap:=s.heap.push (setNew (!byT w))}) :
 codeAny (model prog w) A (.call (.builtin "set.__new__") ⟨[.type "set",a],[]⟩) (wants Q₁ E) s:=by
 refine codeAny_of_tree (show wpAny _ A.in1 (do checkBuiltinCall "set.__new__" ⟨[.type "set",a],[]⟩;again (.builtin "set.__new__" ⟨[.type "set",a],[]⟩)) _ _ s from ?_);refine aB (wpAny_of_eq (PySem.F.newCall_set_1 a) (fW ⟨plainId_quiet PySem.F.plain_set_new _,S6 PySem.F.entry_set_new ?_⟩));rw[S0 PySem.F.plain_set_new _];unfold Builtin.«set.__new__» Builtin.Frozenset.newClass;have hsub:=sub_set_self;obtain⟨hp,g,d,tk,os⟩:=s;dsimp only;wp_walk;refine wpAny_askSetting (fW ?_);dsimp only;simp only[newObj];refine aB (wpAny_alloc (fW ?_));exact fW h
end
end L2
namespace L2
open PySem PySem.Spec PyProof.Rows
noncomputable def yJ(a:List Str)(x:Str):List Str:=if a.contains x then a else a++[x]
def nV(xs:List Str):List Str:=xs.foldl yJ []
def xm(xs:List Str)(x:Str):nV (xs++[x])=yJ (nV xs) x:=by unfold nV;rw[Tl];rfl
def rX(a:List Str)(x:Str):(yJ a x).length=if a.contains x then a.length else a.length+1:=by unfold yJ;split<;>simp
def F_(a:List Str)(x k:Str):(yJ a x).contains k=(a.contains k || decide (k=x)):=by
 unfold yJ;by_cases h:a.contains x=true
 .rw[dL h];by_cases e:k=x
  .subst e;rw[h];rfl
  .simp[e]
 .rw[f7 h,List.contains_append,List.contains_cons];by_cases e:k=x
  .subst e;simp
  .have:(k==x)=false:=by simpa using e
   simp[this,e]
def Cz(xs:List Str):(nV xs).length<=xs.length:=by
 have:∀(ys a:List Str),(ys.foldl yJ a).length<=a.length+ys.length:=by
  intro ys;induction ys with
  |nil=>intro a;exact dJ _
  |cons y r ih=>intro a;rw[SA,i8];refine jQ (ih _) ?_;rw[rX];split<;>lia
 have:=this xs [];simpa[nV]using this
section
variable{prog:Tz}{w:World}{A:TC}{R:Result->Tv->Prop}{I:Addr}{fp wr:List Addr}{G:Array GenState->Array GenState->Prop}{n:Nat}{P:Nat->TB->Prop}{St:Nat->Tv->Prop}
def oE(W:WalksS prog w A.in1 I fp wr G n P St)(S:Addr)(hSf:S∉fp)(xs:List Str)(hn:xs.length=n)(hval:∀i v,P i v->∃x t,xs[i]?=some x/\v=.str x t)(hb:n+1<scanBound) :
 ∀(k i:Nat)(s:Tv),n-i=k->i<=n->St i s->s.heap.SetOf (strKind prog w) S (λk'=>(nV (xs.take i)).contains k') (nV (xs.take i)).length->
  (∀s',Moved (S::wr) G s s'->s'.heap.SetOf (strKind prog w) S (λk'=>(nV xs).contains k') (nV xs).length->R (.ok (.ret .none)) s')->
  codeAny (model prog w) A (.builtin "set.update.loop" ⟨[.ref S,.ref I],[]⟩) R s:=by
 have hSw:S∉wr:=λh=>hSf (W.sub _ h);have hsub:∀b∈wr,b∈S::wr:=λb hb=>gO _ hb;have move:∀{i:Nat}{s s':Tv},Moved wr G s s'->s.heap.SetOf (strKind prog w) S (λk'=>(nV (xs.take i)).contains k') (nV (xs.take i)).length->s'.heap.SetOf (strKind prog w) S (λk'=>(nV (xs.take i)).contains k') (nV (xs.take i)).length:=λhm ⟨o,es,ep,t,ho,bd⟩=>⟨o,es,ep,t,hm.heap S _ hSw ho,bd⟩;intro k;induction k with
 |zero=>
  intro i s hk hi hst hS hR;have hin:i=n:=by lia
  subst hin;refine S6 F.entry_set_update_loop ?_;rw[S0 SD _];show wpAny _ A.in1 (pyNext (.ref I) >>= _) _ _ s;refine aB (W.done s _ _ hst λs' hm=>?_);show wpAny _ A.in1 (ret Value.none) _ _ s';have hS2:=move hm hS;rw[<- hn,List.take_length]at hS2;exact fW (hR s' (hm.mono hsub) hS2)
 |succ k ih=>
  intro i s hk hi hst hS hR;have hlt:i<n:=by lia
  refine S6 F.entry_set_update_loop ?_;rw[S0 SD _];show wpAny _ A.in1 (pyNext (.ref I) >>= _) _ _ s;refine aB (W.item i s _ _ hlt hst λv s' hP hst' hm=>?_);obtain⟨x,t,hx,rfl⟩:=hval i v hP;have hS':=move hm hS;show wpAny _ A.in1 (holding [Value.str x t] (setAdd S (.str x t)) >>= _) _ _ s';refine aB (Si ?_);unfold setAdd;refine Si ?_;refine aB ((strKind prog w).pyHash (k:=x) (strKind_is _ _ _ _) ?_);have hroom:(nV (xs.take i)).length+1<scanBound:=by have:=Cz (xs.take i);rw[lC]at this;lia
  refine wpAny_setAddHashed_of (knd:=strKind prog w) (s:={s' with toks:=s'.toks+1}) (strKind_is _ _ _ _) rfl hS' hroom λh' hsb hS2=>?_;have et:xs.take (i+1)=xs.take i++[x]:=by rw[List.take_add_one,hx];rfl
  have hSi:h'.SetOf (strKind prog w) S (λk'=>(nV (xs.take (i+1))).contains k') (nV (xs.take (i+1))).length:=SetOf_congr hS2 (λk'=>by rw[et,xm,F_]) (by rw[et,xm,rX]);refine fW ⟨plainId_quiet SD _,ih (i+1) _ (by lia) hlt (W.frame _ s' _ _ hst' (Nat.le_succ _) λb hb o e=>?_) hSi λs'' hm'' hS''=>?_⟩
  .rw[hsb.2 b (λh:b=S=>hSf (by rw[<- h];exact hb))];exact e
  .refine hR s'' (Moved.trans W.gtrans ((hm.mono hsub).then_heap (Nat.le_succ _) λb o hb e=>?_) hm'') hS'';rw[hsb.2 b (λh:b=S=>hb (by rw[h];exact rM))];exact e
end
section
variable{prog:Tz}{w:World}{A:TC}{E:TB->Tv->Prop}{s:Tv}
theorem A9(hh:A.handled=none)(hl:s.heap.get? l=some { cls:=.type "list",data:=.seq items nl }) (hn:xs.length=items.size) (hz:items.size<=1000)
 (hval:∀(i:Nat)(v:TB),items[i]?=some v->∃x t,xs[i]?=some x/\v=.str x t)
 (h:∀(h':Heap)(tk:Nat),h'.SetOf (strKind prog w) s.heap.objs.size (λk'=>(nV xs).contains k') (nV xs).length->(∀b o,b<s.heap.objs.size->s.heap.get? b=some o->h'.get? b=some o)->Q (.ref s.heap.objs.size) {s with heap:=h',toks:=tk}) :
 wpAny (model prog w) A (call (.type "set") [.ref l]) Q E s:=by
 obtain⟨c,tl,hmro⟩:=PySem.F.called_set.mro;have hmade:=PySem.F.called_set.made;have hsub:=PySem.F.called_set.sub;have sb:items.size+1<scanBound:=by unfold scanBound;lia
 refine wpAny_call (codeAny_of_tree ?_);show wpAny _ _ (callAny (.type "set") _) _ _ _;refine fW ⟨Code.quiet_builtin _ (by decide +kernel),S6 PySem.F.entry_type_call ?_⟩;rw[Around.under_plain (weight_type_call_type "set" [.ref l] []) rfl];have h1:=PySem.F.called_set.notType;have h2:=PySem.F.called_set.canCreate;have hct:=PySem.F.typeCall_set_1 (.ref l)
 repeat (any_goals (first|assumption|wp_step))
 refine SN (uH (.ref l) (E:=E) (Q₁:=λobj s₁=>obj=.ref s.heap.objs.size/\s₁={s with heap:=s.heap.push (setNew (!byT w))}) ⟨rfl,rfl⟩) λr s₁ hr=>?_;rcases r with e|fl
 .exact hr
 cases fl with
 |ret obj=>
  obtain⟨rfl,rfl⟩:=hr;have hS:(s.heap.push (setNew (!byT w))).get? s.heap.objs.size=some (setNew (!byT w)):=gM _ rfl;have hT:Shared.TypeIs {s with heap:=s.heap.push (setNew (!byT w))} (.ref s.heap.objs.size) "set":=⟨_,hS,rfl⟩;have hli:=PySem.F.called_set.init.lookup;have hbi:=PySem.F.called_set.init.bind (.ref s.heap.objs.size)
  repeat (any_goals (first|assumption|wp_step))
  refine SN (codeAny_call_builtin (R:=wants (λr s₂=>r=.none/\∃h' tk,s₂={s with heap:=h',toks:=tk}/\h'.SetOf (strKind prog w) s.heap.objs.size (λk'=>(nV xs).contains k') (nV xs).length/\
   (∀b o,b<s.heap.objs.size->s.heap.get? b=some o->h'.get? b=some o)) E) PySem.F.called_set.init.plain PySem.F.entry_set_init (check_set_init_1 hT ?_)) λr₂ s₂ hr₂=>?_
  .have hol':(s.heap.push (setNew (!byT w))).get? l=some { cls:=.type "list",data:=.seq items nl }:=c6 _ hl;have hsls:=PySem.F.sub_list_set;have hslf:=PySem.F.sub_list_frozenset;have hne:(Value.type "list"==Value.type "dict")=false:=by decide
   have hl1:(s.heap.push (setNew (!byT w))).IsList l items:=⟨_,hol',rfl,nl,rfl⟩;unfold Builtin.«set.__init__» noKeywords Builtin.Frozenset.updateFrom;generalize hPI:pyIter=PI
   wp_walk
   subst hPI;refine rH hl1 (aB (wpAny_runValue ?_));have hlS:l<s.heap.objs.size:=f6 hl;have hh3:A.in1.in1.in1.handled=none:=by simp[hh]
   have hneI:l≠(s.heap.push (setNew (!byT w))).objs.size:=by rw[uw];exact je (Nat.lt_succ_of_lt hlS)
   refine oE ((Walks.list hh3 _ l hneI items).toS) s.heap.objs.size ?hSf xs hn hval sb (items.size-0) 0 _ rfl (lU _) ⟨⟨_,gM _ rfl,rfl,rfl⟩,(hl1.push _)⟩ ?hS0 ?hR
   case hSf=>rw[uw];simp only[cJ,iy,pK,not_or];exact⟨je (Nat.lt_succ_self _),SM hlS⟩
   case hS0=>have hget:=c6 (h:=s.heap.push (setNew (!byT w))) { cls:=.type "list_iterator",data:=.fields #[.ref l,.int 0 0] } hS;exact SetOf_congr ((setObjOf_fresh (knd:=strKind prog w) (!byT w)).setOf hget (by unfold scanBound;lia)) (λ_=>rfl) rfl
   case hR=>intro s' hm hS';obtain⟨h',g',d',tk',os'⟩:=s';have eg:g'=s.gens:=hm.gens;have ed:d'=s.drawn:=hm.drawn;have eo:os'=s.os:=hm.os;subst eg ed eo;refine fW (fW ⟨rfl,h',tk',rfl,hS',λb o hb e=>hm.heap b o ?_ (c6 _ (c6 _ e))⟩);simp only[cJ,iy,pK,not_or];exact⟨je hb,by rw[uw];exact je (Nat.lt_succ_of_lt hb)⟩
  .rcases r₂ with e|fl₂
   .exact hr₂
   cases fl₂ with
   |ret r=>
    obtain⟨rfl,h',tk,rfl,hS',hk'⟩:=hr₂
    repeat (any_goals (first|assumption|wp_step))
    exact h _ _ hS' hk'
   |_=>exact hr₂.elim
 |_=>exact hr.elim
end
section
variable{X:Cx}
def CA(P:Tz)(w:World)(h:Heap)(a:Addr)(xs:List Str):Prop:=h.SetOf (strKind P w) a (λk'=>(nV xs).contains k') (nV xs).length
theorem vc:∀{xs:List Str}{us:List TB},Vals (xs.map V.str) us->us.length=xs.length/\∀(i:Nat)(v:TB),us[i]?=some v->∃x t,xs[i]?=some x/\v=.str x t
 |[],[],_=>⟨rfl,λi v e=>by simp at e⟩
 |x::r,u::us,.cons q h=>by
  obtain⟨a,b⟩:=vc h;refine⟨by simp[a],λi v e=>?_⟩;cases i with
  |zero=>obtain⟨t,hu⟩:=q;simp only[List.getElem?_cons_zero,Option.some.injEq]at e;exact⟨x,t,rfl,by rw[<- e,hu]⟩
  |succ i=>exact b i v (by simpa using e)
def yY(hc:X.calm=true):CallR X (.type "set") (λvs H Q=>∃l xs,vs=[.ref l]/\Rd H l (.lst (xs.map V.str))/\xs.length<=1000/\∀p,H p=none->Q (.ref p) (bQ H p (.ext λh=>CA X.prog X.w h p xs))):=by intro ag s σ H vs us Q I r h;obtain⟨l,xs,rfl,hl,hz,q⟩:=h;obtain⟨u,rfl,ru⟩:=j8 r;obtain rfl:u=Value.ref l:=ru;obtain⟨_,us,n,rv,hg⟩:=(show ObjOk X.prog X.w H s.heap l (.lst (xs.map V.str))from hl.ok I.bP);obtain⟨g1,g2⟩:=vc rv;refine A9 (I.ok.hd hc) hg (xs:=xs) (by rw[eQ,g1]) (by rw[eQ,g1];exact hz) (λi v e=>g2 i v (by simpa using e)) λh' tk hS hk=>?_;have hf:H s.heap.objs.size=none:=I.bP.fresh (dJ _);refine⟨.ref s.heap.objs.size,_,I.laid (a:=s.heap.objs.size) (o:=.ext λh=>CA X.prog X.w h s.heap.objs.size xs) (t':=tk) (λb o e=>hk b o (f6 e) e) (dJ _) ?_,rfl,q _ hf⟩;exact⟨hS,(let ⟨o,_,_,_,e,_⟩:=hS;⟨o,e⟩),λh1 h2 hs k=>let ⟨o,es,ep,t,e,r⟩:=hs;⟨o,es,ep,t,k o e,r⟩⟩
def yZ:CallR X (.builtin "len") (λvs H Q=>∃p xs,vs=[.ref p]/\H p=some (.ext λh=>CA X.prog X.w h p xs)/\xs.length<=1000/\Q (.int (nV xs).length) H):=by intro ag s σ H vs us Q I r h;obtain⟨p,xs,rfl,hp,hz,q⟩:=h;obtain⟨u,rfl,ru⟩:=j8 r;obtain rfl:u=Value.ref p:=ru;obtain⟨⟨o,es,ep,t,ho,hex,hd,_,_,_,hf,hn⟩,_,_⟩:=(show ObjOk X.prog X.w H s.heap p (.ext λh=>CA X.prog X.w h p xs)from I.bP p _ hp);have hl:=Cz xs;refine call_len_set ho hex hd hf (by rw[hn];lia) ⟨.int (nV xs).length,H,I.tok _,⟨_,by rw[hn]⟩,q⟩
end
end L2
namespace TS
open PySem PyProof.Rows
section
variable{rk:Keyed->Nat}
def RN(rk:Keyed->Nat)(l:List Keyed):Prop:=l.Pairwise λx y=>rk x<=rk y
end
noncomputable abbrev ln(a b o:Array Keyed)(i j:Nat):Array Keyed:=o++b.extract j b.size++a.extract i a.size
noncomputable def Ch(rk:Keyed->Nat):List (Nat×Nat)->Nat->List Keyed->Prop
 |[],_,xs=>xs=[]
 |(u,n)::l,c,xs=>∃X Y,xs=X++Y/\u=c/\X.length=n/\0<n/\RN rk X/\Ch rk l (c+n) Y
end TS
namespace L2
open PySem PySem.Spec PySem.Calls PyProof.Rows
noncomputable def xn:List Int->Int
 |[]=>0
 |x::r=>r.foldl (λa b=>if b<a then b else a) x
def A_(h:l≠[])(z:Int):xn (l++[z])=if z<xn l then z else xn l:=by
 cases l with
 |nil=>exact(h rfl).elim
 |cons x r=>show(r++[z]).foldl _ x=_;rw[Tl];rfl
theorem xo(xs:Array (Int×Tok)):∀k,k<xs.size->numAt xs (argBest (λi j=>decide (numAt xs i<numAt xs j)) k)=xn ((xs.toList.map (·.1)).take (k+1))
 |0,h=>by
  have e:xs.toList.map (·.1)≠[]:=λz=>by have:=ly List.length z;simp at this;rw[this]at h;simp at h
  cases q:xs.toList.map (·.1)with
  |nil=>exact(e q).elim
  |cons y r=>
   have:(xs[0]?.map (·.1))=some y:=by rw[<- SR,<- kE,q];rfl
   show numAt xs 0=y;unfold numAt;rw[this];rfl
 |k+1,h=>by
  have ih:=xo xs k (by lia);have ez:(xs.toList.map (·.1))[k+1]?=some (numAt xs (k+1)):=by rw[kE,SR];unfold numAt;rw[Array.getElem?_eq_getElem h];rfl
  have et:(xs.toList.map (·.1)).take (k+1+1)=(xs.toList.map (·.1)).take (k+1)++[numAt xs (k+1)]:=by rw[List.take_succ,ez];rfl
  have ne:(xs.toList.map (·.1)).take (k+1)≠[]:=λz=>by have h9:=ly List.length z;rw[lC,cc,Sr,mW]at h9;lia
  rw[et,A_ ne,<- ih];show numAt xs (if(decide (numAt xs (k+1)<numAt xs (argBest _ k)))=true then k+1 else argBest _ k)=_;by_cases hl:numAt xs (k+1)<numAt xs (argBest (λi j=>decide (numAt xs i<numAt xs j)) k)
  .rw[dL (dM hl),dL hl]
  .rw[f7 (by simpa using hl),f7 hl]
theorem sO:∀{ns:List Int}{its:List TB},Vals (ns.map V.int) its->∃ps:List (Int×Tok),its=ps.map (λp=>.int p.1 p.2)/\ps.map (·.1)=ns
 |[],_,h=>by cases h;exact⟨[],rfl,rfl⟩
 |n::ns,_,h=>by
  cases h with
  |cons r rr=>obtain⟨t,rfl⟩:=r;obtain⟨ps,rfl,e⟩:=sO rr;exact⟨(n,t)::ps,rfl,by rw[c7,e]⟩
def Ba(hc:X.calm=true):CallR X (.builtin "min") (λxs H Q=>∃p ns,xs=[.ref p]/\SqL X.K H p (ns.map V.int)/\ns≠[]/\Q (.int (xn ns)) H):=by
 intro ag s σ H xs us Q I r h;obtain⟨p,ns,rfl,hq,hne,q⟩:=h;obtain⟨u,rfl,rx⟩:=j8 r;cases rx;obtain⟨its,rv,pl,hz⟩:=I.list hq;obtain⟨ps,rfl,e⟩:=sO rv;have hl:s.heap.IsList p (intItems ps.toArray):=by
  have:intItems ps.toArray=(ps.map (λp=>Value.int p.1 p.2)).toArray:=by simp[intItems]
  rw[this];exact pl.isList
 have hpos:0<ps.toArray.size:=by
  cases ps with
  |nil=>exact(hne e.symm).elim
  |cons _ _=>simp
 refine min_intList (I.ok.hd hc) hl hpos λv h' tk ev kp=>?_;obtain⟨t,rfl⟩:=intItems_at ev;rw[xo ps.toArray _ (by lia)];have ef:(ps.toArray.toList.map (·.1)).take (ps.toArray.size-1+1)=ns:=by rw[List.take_of_length_le (by simp;lia)];simpa using e
 rw[ef];exact⟨.int (xn ns),H,I.kept (t':=tk) kp,⟨t,rfl⟩,q⟩
end L2
namespace L2
open PySem PySem.Spec PyProof.Rows
open Sem (wp)
open Builtin
section
variable{prog:Tz}{w:World}{A:TC}{E:TB->Tv->Prop}{s:Tv}
theorem Nj(hj:IsTupIter s.heap j t n)(ht:IsTup s.heap t xs)(hx:xs[n]?=some x)
 (q:∀g,IsTupIter g j t (n+1)->Heap.SameBut j s.heap g->Q x {s with heap:=g}):wpAny (model prog w) A (Builtin.SmallTypes.nextOf (.ref j)) Q E s:=by
 obtain⟨u,hu,cu,du⟩:=id hj;obtain⟨ut,hut,_,m,dut⟩:=ht;unfold Builtin.SmallTypes.nextOf;refine aB (nN (name:=Str.ofString "__next__") hj.typeIs Ss (KE Ss hj.typeIs entry_tupleiter_next ?_ (args_tupleiter_next _)));show wpAny _ _ (field (.ref j) 0 >>= _) _ _ s;refine aB (lR hu du (x:=.ref t) rfl ?_);show wpAny _ _ (if(Value.ref t==Value.none)=true then _ else _) _ _ s;rw[f7 (show ¬((Value.ref t==Value.none)=true)from ur)];show wpAny _ _ (field (.ref j) 1 >>= _) _ _ s;refine aB (lR hu du (x:=.int n 0) rfl ?_);show wpAny _ _ (seqItems? (.ref t) >>= _) _ _ s;refine aB (uy hut dut ?_);simp only[kG,hx];refine aB (Tf hu du (by simp) (fW ⟨x,rfl,fW (q _ ⟨_,SQ _ hu (Obj.isFreed_of_fields (SE du _)),(Obj.cls_mapFields ..).trans cu,by rw[SE du];simp[rawInt]⟩ (Heap.SameBut.update ..))⟩))
theorem Nk(hh:A.handled=none)(hj:IsTupIter s.heap j t n)(ht:IsTup s.heap t xs)(hx:xs[n]?=none)
 (q:∀g e,Heap.ExtBut j s.heap g->(∃u,g.get? e=some u/\u.cls=.type "StopIteration")->E (.ref e) {s with heap:=g}):wpAny (model prog w) A (Builtin.SmallTypes.nextOf (.ref j)) Q E s:=by
 obtain⟨u,hu,cu,du⟩:=id hj;obtain⟨ut,hut,_,m,dut⟩:=ht;unfold Builtin.SmallTypes.nextOf;refine aB (nN (name:=Str.ofString "__next__") hj.typeIs Ss (KE Ss hj.typeIs entry_tupleiter_next ?_ (args_tupleiter_next _)));show wpAny _ _ (field (.ref j) 0 >>= _) _ _ s;refine aB (lR hu du (x:=.ref t) rfl ?_);show wpAny _ _ (if(Value.ref t==Value.none)=true then _ else _) _ _ s;rw[f7 (show ¬((Value.ref t==Value.none)=true)from ur)];show wpAny _ _ (field (.ref j) 1 >>= _) _ _ s;refine aB (lR hu du (x:=.int n 0) rfl ?_);show wpAny _ _ (seqItems? (.ref t) >>= _) _ _ s;refine aB (uy hut dut ?_);simp only[kG,hx];refine aB (wpAny_rule (aB (Tf hu du (by simp) ?_)));show wpAny _ _ (newExc (.type "StopIteration") [] >>= _) _ _ _;refine aB ?_;simp only[newExc,newTuple];refine aB (pO ?_ (by size_fits));refine aB (m:=firstArgMember _ _) (wpAny_of_eq (a:=Value.none) (by first|rfl|(simp only[firstArgMember];rfl)) ?_);refine pO ?_ (by size_fits);simp only[raiseNew];refine aB (wpAny_handled ?_);(first|rw[show A.in1.handled=none from hh]|rw[hh]);refine aB (fW (wpAny_throw (q _ _ (((Heap.SameBut.update ..).extBut.push _).push _) ⟨_,gM _ rfl,rfl⟩)))
end
open Sem (wp)
open Builtin
def SIt(k:Bool)(h:Heap)(j t:Addr)(n:Nat):Prop:=∃o,h.get? j=some o/\o.cls=.type (if k then "tuple_iterator" else "list_iterator")/\o.data=.fields #[.ref t,.int n 0]
def SAt(k:Bool)(h:Heap)(t:Addr)(xs:Array TB):Prop:=∃o,h.get? t=some o/\o.cls=.type (if k then "tuple" else "list")/\∃n,o.data=.seq xs n
def SIt.at(x:SIt k h a t i)(e:∀o,h.get? a=some o->h'.get? a=some o):SIt k h' a t i:=let ⟨o,ho,r⟩:=x;⟨o,e o ho,r⟩
def SIt.extBut(x:SIt k h a t i)(hs:Heap.ExtBut b h h')(hab:a≠b):SIt k h' a t i:=x.at λo e=>hs a o hab e
def SAt.extBut(x:SAt k h a xs)(hs:Heap.ExtBut b h h')(hab:a≠b):SAt k h' a xs:=let ⟨o,ho,r⟩:=x;⟨o,hs a o hab ho,r⟩
section
variable{prog:Tz}{w:World}{A:TC}{E:TB->Tv->Prop}{s:Tv}
theorem CB(hj:SIt k s.heap j t n)(ht:SAt k s.heap t xs)(hx:xs[n]?=some x)
 (q:∀g,SIt k g j t (n+1)->Heap.SameBut j s.heap g->Q x {s with heap:=g}):wpAny (model prog w) A (Builtin.SmallTypes.nextOf (.ref j)) Q E s:=by
 cases k with
 |true=>exact Nj hj ht hx q
 |false=>exact wpAny_nextOf_list_item hj ht hx q
theorem HS(hh:A.handled=none)(hj:SIt k s.heap j t n)(ht:SAt k s.heap t xs)(hx:xs[n]?=none)
 (q:∀g e,Heap.ExtBut j s.heap g->(∃u,g.get? e=some u/\u.cls=.type "StopIteration")->E (.ref e) {s with heap:=g}):wpAny (model prog w) A (Builtin.SmallTypes.nextOf (.ref j)) Q E s:=by
 cases k with
 |true=>exact Nk hh hj ht hx q
 |false=>exact wpAny_nextOf_list_end hh hj ht hx q
theorem Bb(N:ZipApart z P O i j a b)(hz:IsZip s.heap z P O .none)(hP:IsPair s.heap P (.ref i) (.ref j))(hO:IsPair s.heap O c d)
 (hi:SIt ka s.heap i a m) (hj:SIt kb s.heap j b n) (ha:SAt ka s.heap a xs) (hb:SAt kb s.heap b ys) (hx:xs[m]?=some x) (hy:ys[n]?=some y)
 (q:∀g,IsZip g z P O (rawInt s.heap.objs.size)->IsPair g O x y->SIt ka g i a (m+1)->SIt kb g j b (n+1)->IsPair g s.heap.objs.size x y->g.objs.size=s.heap.objs.size+1->
   (∀k o,k≠z->k≠O->k≠i->k≠j->s.heap.get? k=some o->g.get? k=some o)->Q (some (.ref s.heap.objs.size)) {s with heap:=g}):wpAny (model prog w) A (pyNext (.ref z)) Q E s:=by
 have hT:s.TypeIs (.ref z) "zip":=⟨_,hz,rfl⟩;unfold pyNext;refine aB (wpAny_attempt (nN (name:=Str.ofString "__next__") hT S7 (KE S7 hT F.entry_zip_next ?_ (F.args_zip_next_1 _))));show wpAny _ _ (field (.ref z) 2 >>= _) _ _ _;refine aB (lR hz rfl (x:=.bool false) rfl ?_);show wpAny _ _ (field (.ref z) 3 >>= _) _ _ _;refine aB (lR hz rfl (x:=.ref P) rfl ?_);refine aB (uy hP rfl ?_);show wpAny _ _ (Builtin.SmallTypes.ownedTupleIsFree (.ref z) >>= _) _ _ _;refine aB ?_;unfold Builtin.SmallTypes.ownedTupleIsFree;refine aB (lR hz rfl (x:=.none) rfl (fW ?_));simp only[Sd];refine aB (wpAny_rule ?_);refine aB (lR hz rfl (x:=.ref O) rfl ?_);refine aB (uu hz (by simp) λg1 z1 k1=>?_);replace z1:IsZip g1 z P O .ellipsis:=z1;refine aB ?_;simp only[Tq,List.zipIdx_nil,S8,List.forIn_nil];refine aB (aB (wpAny_onRaise ?_));show wpAny _ _ (Builtin.SmallTypes.nextOf (.ref i) >>= _) _ _ _;refine aB (CB (hi.extBut k1.extBut N.i1z) (ha.extBut k1.extBut N.l1z) hx λg2 i2 k2=>fW ?_);have O2:IsPair g2 O c d:=k2.extBut _ _ N.TOi1 (k1.extBut _ _ N.TOz hO);refine aB (uy O2 rfl ?_);refine aB (S1 O2 λg3 O3 k3=>?_);replace O3:IsPair g3 O x d:=O3;refine aB (wpAny_letGo (fW ?_));refine aB (aB (wpAny_onRaise ?_));show wpAny _ _ (Builtin.SmallTypes.nextOf (.ref j) >>= _) _ _ _;refine aB (CB (((hj.extBut k1.extBut N.i2z).extBut k2.extBut N.i12.symm).extBut k3.extBut N.TOi2.symm) (((hb.extBut k1.extBut N.l2z).extBut k2.extBut N.l2i1).extBut k3.extBut N.l2TO) hy λg4 j4 k4=>fW ?_);have O4:IsPair g4 O x d:=k4.extBut _ _ N.TOi2 O3;refine aB (uy O4 rfl ?_);refine aB (S1 O4 λg5 O5 k5=>?_);replace O5:IsPair g5 O x y:=O5;refine aB (wpAny_letGo (fW (fW ?_)));refine aB (uy O5 rfl ?_);refine aB (wpAny_newTuple ?_);have sz:g5.objs.size=s.heap.objs.size:=by rw[k5.1,k4.1,k3.1,k2.1,k1.1]
 have z5:IsZip g5 z P O .ellipsis:=k5.extBut _ _ N.TOz.symm (k4.extBut _ _ N.i2z.symm (k3.extBut _ _ N.TOz.symm (k2.extBut _ _ N.i1z.symm z1)));have kk:∀k o,k≠z->k≠O->k≠i->k≠j->s.heap.get? k=some o->g5.get? k=some o:=λk o n1 n2 n3 n4 e=>k5.extBut _ _ n2 (k4.extBut _ _ n4 (k3.extBut _ _ n2 (k2.extBut _ _ n3 (k1.extBut _ _ n1 e))));have i5:SIt ka g5 i a (m+1):=((i2.extBut k3.extBut N.TOi1.symm).extBut k4.extBut N.i12).extBut k5.extBut N.TOi1.symm;have j5:SIt kb g5 j b (n+1):=j4.extBut k5.extBut N.TOi2.symm;have zlt:z<g5.objs.size:=f6 z5;show wpAny _ _ (Builtin.SmallTypes.ownedTupleHandOut (.ref z) (.ref g5.objs.size) >>= _) _ _ _;refine aB ?_;unfold Builtin.SmallTypes.ownedTupleHandOut;have z6:IsZip (g5.push { cls:=.type "tuple",data:=.seq #[x,y] }) z P O .ellipsis:=c6 _ z5;refine aB (uu z6 (by simp) λg7 z7 k7=>?_);replace z7:IsZip g7 z P O (rawInt g5.objs.size):=z7;refine uu z7 (by simp) λg8 z8 k8=>?_;replace z8:IsZip g8 z P O (rawInt g5.objs.size):=z8;have up:∀k o,k≠z->g5.get? k=some o->g8.get? k=some o:=λk o n1 e=>k8.extBut _ _ n1 (k7.extBut _ _ n1 (c6 _ e));have T8:IsPair g8 g5.objs.size x y:=k8.extBut _ _ (SM zlt) (k7.extBut _ _ (SM zlt) (gM _ rfl));have s8:g8.objs.size=g5.objs.size+1:=by rw[k8.1,k7.1,uw]
 rw[sz]at z8 T8 s8;refine fW ⟨_,rfl,?_⟩;refine fW ?_;show Q (some (.ref g5.objs.size)) _;rw[sz];exact q g8 z8 (up _ _ N.TOz O5) (SIt.at i5 λo e=>up _ o N.i1z e) (SIt.at j5 λo e=>up _ o N.i2z e) T8 s8 λk o n1 n2 n3 n4 e=>up k o n1 (kk k o n1 n2 n3 n4 e)
theorem CC(hh:A.handled=none)(N:ZipApart z P O i j a b)(hz:IsZip s.heap z P O .none)(hP:IsPair s.heap P (.ref i) (.ref j))(hO:IsPair s.heap O c d)
 (hi:SIt ka s.heap i a m) (hj:SIt kb s.heap j b n) (ha:SAt ka s.heap a xs) (hb:SAt kb s.heap b ys) (hx:xs[m]?=none\/ys[n]?=none)
 (q:∀g,(∀k o,k≠z->k≠O->k≠i->k≠j->s.heap.get? k=some o->g.get? k=some o)->Q none {s with heap:=g}):wpAny (model prog w) A (pyNext (.ref z)) Q E s:=by
 have hT:s.TypeIs (.ref z) "zip":=⟨_,hz,rfl⟩;have fin:∀(g:Heap)(e:Addr),(∀k o,k≠z->k≠O->k≠i->k≠j->s.heap.get? k=some o->g.get? k=some o)->(∃u,g.get? e=some u/\u.cls=.type "StopIteration")->wpAny (model prog w) A (do if <- isInstance (.ref e) (.type "StopIteration")then pure none else throw (.ref e):Sem (Option TB)) Q E {s with heap:=g}:=λg e kp ⟨u,hu,cu⟩=>aB (wpAny_isInstance (T:="StopIteration") (b:=true) ⟨u,hu,cu⟩ isSubtype_stop (fW (q g kp)));unfold pyNext;refine aB (wpAny_attempt (nN (name:=Str.ofString "__next__") hT S7 (KE S7 hT F.entry_zip_next ?_ (F.args_zip_next_1 _))));show wpAny _ _ (field (.ref z) 2 >>= _) _ _ _;refine aB (lR hz rfl (x:=.bool false) rfl ?_);show wpAny _ _ (field (.ref z) 3 >>= _) _ _ _;refine aB (lR hz rfl (x:=.ref P) rfl ?_);refine aB (uy hP rfl ?_);show wpAny _ _ (Builtin.SmallTypes.ownedTupleIsFree (.ref z) >>= _) _ _ _;refine aB ?_;unfold Builtin.SmallTypes.ownedTupleIsFree;refine aB (lR hz rfl (x:=.none) rfl (fW ?_));simp only[Sd];refine aB (wpAny_rule ?_);refine aB (lR hz rfl (x:=.ref O) rfl ?_);refine aB (uu hz (by simp) λg1 z1 k1=>?_);replace z1:IsZip g1 z P O .ellipsis:=z1;refine aB ?_;simp only[Tq,List.zipIdx_nil,S8,List.forIn_nil];refine aB (aB (wpAny_onRaise ?_));show wpAny _ _ (Builtin.SmallTypes.nextOf (.ref i) >>= _) _ _ _;cases ex:xs[m]? with
 |none=>
  refine aB (HS hh (hi.extBut k1.extBut N.i1z) (ha.extBut k1.extBut N.l1z) ex λg2 e k2 ⟨u,hu,cu⟩=>?_);have z2:IsZip g2 z P O .ellipsis:=k2 _ _ N.i1z.symm z1;have ez:e≠z:=λw=>by subst w;rw[z2]at hu;cases hu;simp at cu
  refine uu z2 (by simp) λg3 _ k3=>?_;exact fin g3 e (λk o n1 _ n3 _ w=>k3.extBut _ _ n1 (k2 _ _ n3 (k1.extBut _ _ n1 w))) ⟨u,k3.extBut _ _ ez hu,cu⟩
 |some x=>
  have ey:ys[n]?=none:=hx.resolve_left (by rw[ex];simp);refine aB (CB (hi.extBut k1.extBut N.i1z) (ha.extBut k1.extBut N.l1z) ex λg2 i2 k2=>fW ?_);have O2:IsPair g2 O c d:=k2.extBut _ _ N.TOi1 (k1.extBut _ _ N.TOz hO);refine aB (uy O2 rfl ?_);refine aB (S1 O2 λg3 O3 k3=>?_);refine aB (wpAny_letGo (fW ?_));refine aB (aB (wpAny_onRaise ?_));show wpAny _ _ (Builtin.SmallTypes.nextOf (.ref j) >>= _) _ _ _;refine aB (HS hh (((hj.extBut k1.extBut N.i2z).extBut k2.extBut N.i12.symm).extBut k3.extBut N.TOi2.symm) (((hb.extBut k1.extBut N.l2z).extBut k2.extBut N.l2i1).extBut k3.extBut N.l2TO) ey λg4 e k4 ⟨u,hu,cu⟩=>?_);have z4:IsZip g4 z P O .ellipsis:=k4 _ _ N.i2z.symm (k3.extBut _ _ N.TOz.symm (k2.extBut _ _ N.i1z.symm z1));have ez:e≠z:=λw=>by subst w;rw[z4]at hu;cases hu;simp at cu
  refine uu z4 (by simp) λg5 _ k5=>?_;exact fin g5 e (λk o n1 n2 n3 n4 w=>k5.extBut _ _ n1 (k4 _ _ n4 (k3.extBut _ _ n2 (k2.extBut _ _ n3 (k1.extBut _ _ n1 w))))) ⟨u,k5.extBut _ _ ez hu,cu⟩
end
noncomputable abbrev Nl(k:Bool)(h:Heap)(a:Addr):Heap:=h.push { cls:=.type (if k then "tuple_iterator" else "list_iterator"),data:=.fields #[.ref a,.int 0 0] }
abbrev PL(ka kb:Bool)(h:Heap)(a b:Addr):Heap:=Nl kb (Nl ka h a) b
abbrev PM(ka kb:Bool)(h:Heap)(a b:Addr):Heap:=(PL ka kb h a b).push { cls:=.type "tuple",data:=.seq #[.ref h.objs.size,.ref (Nl ka h a).objs.size] }
abbrev PN(ka kb:Bool)(h:Heap)(a b:Addr):Heap:=(PM ka kb h a b).push { cls:=.type "tuple",data:=.seq #[.none,.none] }
abbrev sz5(ka kb:Bool)(h:Heap)(a b:Addr):Heap:=(PN ka kb h a b).push { cls:=.type "zip",data:=.fields #[.none,.bool false,.bool false,.ref (PL ka kb h a b).objs.size,.ref (PM ka kb h a b).objs.size] }
def CD(ka kb:Bool)(a b:Addr)(xs ys:Array TB):Meets (Builtin.«zip.__new__» ⟨[.type "zip",.ref a,.ref b],[]⟩) (λ_ R s=>SAt ka s.heap a xs/\SAt kb s.heap b ys/\R (.ok (.ret (.ref (PN ka kb s.heap a b).objs.size))) {s with heap:=sz5 ka kb s.heap a b}):=
 .of_wp λprog w A R s h=>by
  obtain⟨hp,g,d,tk,os⟩:=s;obtain⟨ha,hb,h⟩:=h;have hsub:=PySem.sub_zip;cases ka<;>cases kb
  .have h1:Heap.IsList (Shared.heap ⟨hp,g,d,tk,os⟩) a xs:=ha;have h2:Heap.IsList (Shared.heap ⟨hp.push { cls:=.type "list_iterator",data:=.fields #[.ref a,.int 0 0] },g,d,tk,os⟩) b ys:=Heap.IsList.push hb _
   wp_walk using rH h1,rH h2
   exact⟨_,rfl,h⟩
  .have h1:Heap.IsList (Shared.heap ⟨hp,g,d,tk,os⟩) a xs:=ha;have h2:IsTup (Shared.heap ⟨hp.push { cls:=.type "list_iterator",data:=.fields #[.ref a,.int 0 0] },g,d,tk,os⟩) b ys:=IsTup.push hb _
   wp_walk using rH h1,iter_tuple h2
   exact⟨_,rfl,h⟩
  .have h1:IsTup (Shared.heap ⟨hp,g,d,tk,os⟩) a xs:=ha;have h2:Heap.IsList (Shared.heap ⟨hp.push { cls:=.type "tuple_iterator",data:=.fields #[.ref a,.int 0 0] },g,d,tk,os⟩) b ys:=Heap.IsList.push hb _
   wp_walk using iter_tuple h1,rH h2
   exact⟨_,rfl,h⟩
  .have h1:IsTup (Shared.heap ⟨hp,g,d,tk,os⟩) a xs:=ha;have h2:IsTup (Shared.heap ⟨hp.push { cls:=.type "tuple_iterator",data:=.fields #[.ref a,.int 0 0] },g,d,tk,os⟩) b ys:=IsTup.push hb _
   wp_walk using iter_tuple h1,iter_tuple h2
   exact⟨_,rfl,h⟩
section
variable{prog:Tz}{w:World}{A:TC}{E:TB->Tv->Prop}{s:Tv}
theorem Bc(ha:SAt ka s.heap a xs)(hb:SAt kb s.heap b ys)
 (q:∀g,IsZip g (s.heap.objs.size+4) (s.heap.objs.size+2) (s.heap.objs.size+3) .none->IsPair g (s.heap.objs.size+2) (.ref s.heap.objs.size) (.ref (s.heap.objs.size+1))->IsPair g (s.heap.objs.size+3) .none .none->
   SIt ka g s.heap.objs.size a 0->SIt kb g (s.heap.objs.size+1) b 0->(∀c o,s.heap.get? c=some o->g.get? c=some o)->Q (.ref (s.heap.objs.size+4)) {s with heap:=g}):wpAny (model prog w) A (call (.type "zip") [.ref a,.ref b]) Q E s:=by
 refine callType_new F.called_zip (by decide) (F.typeCall_zip_2 _ _) (F.newCall_zip_2 _ _) (λobj=>F.args_object_init_3 obj _ _) F.entry_zip_new (CD ka kb a b xs ys) ⟨ha,hb,?_⟩;have z1:(Nl ka s.heap a).objs.size=s.heap.objs.size+1:=uw ..;have z2:(PL ka kb s.heap a b).objs.size=s.heap.objs.size+2:=by rw[uw,z1]
 have z3:(PM ka kb s.heap a b).objs.size=s.heap.objs.size+3:=by rw[uw,z2]
 have z4:(PN ka kb s.heap a b).objs.size=s.heap.objs.size+4:=by rw[uw,z3]
 have pu:∀{h:Heap}{c:Addr}{o:Obj}(x:Obj),h.get? c=some o->(h.push x).get? c=some o:=λx e=>c6 x e;have g5:(sz5 ka kb s.heap a b).get? (PN ka kb s.heap a b).objs.size=some _:=gM _ rfl;have g4:(sz5 ka kb s.heap a b).get? (PM ka kb s.heap a b).objs.size=some _:=pu _ (gM _ rfl);have g3:(sz5 ka kb s.heap a b).get? (PL ka kb s.heap a b).objs.size=some _:=pu _ (pu _ (gM _ rfl));have g2:(sz5 ka kb s.heap a b).get? (Nl ka s.heap a).objs.size=some _:=pu _ (pu _ (pu _ (gM _ rfl)));have g1:(sz5 ka kb s.heap a b).get? s.heap.objs.size=some _:=pu _ (pu _ (pu _ (pu _ (gM _ rfl))));show _/\_;rw[z2,z3,z4]at g5;rw[z1,z2]at g3;rw[z3]at g4;rw[z1]at g2;rw[z4];exact⟨⟨_,g5,rfl⟩,q _ g5 g3 g4 ⟨_,g1,rfl,rfl⟩ ⟨_,g2,rfl,rfl⟩ λc o x=>pu _ (pu _ (pu _ (pu _ (pu _ x))))⟩
end
noncomputable def sP(kts:List (Addr×List V))(a:Addr)(o:Obj)(ns:List Int):Hp:=λb=>match kts.lookup b with
 |some xs=>some (.tup xs)
 |none=>if b=a then some (.dr o (.lst (ns.map V.int)))else none
section
def Ga(e:kts.lookup b=some xs):sP kts a o ns b=some (.tup xs):=by unfold sP;rw[e]
def Gb(e:kts.lookup a=none):sP kts a o ns a=some (.dr o (.lst (ns.map V.int))):=by unfold sP;rw[e];exact dL rfl
def Gc(e:kts.lookup b=none)(n:b≠a):sP kts a o ns b=none:=by unfold sP;rw[e];exact f7 n
end
theorem oF:∀{vs:List TB}{ns:List Int},IntsAre vs ns->Vals (ns.map V.int) vs
 |_,_,.nil=>.nil
 |_,_,.cons n t h=>.cons ⟨t,rfl⟩ (oF h)
def Bd{P:Tz}{w:World}{K:Tw}{mg mb:Str->Option TB}{CX:FI}{k:Nat}{fa a:Addr}{fd:FuncData}{x:Str}{sp:Sp}{s₁:Tv}{vs:List TB}{ns:List Int}{kts:List (Addr×List V)}
 (KX:K.In s₁.heap) (hns:s₁.heap.Ns mainGlobals mg) (hb:s₁.heap.Ns builtinsNs mb) (hbb:∀x:Str,x≠"__name__"->mb x=bootBuiltins x) (hlim:s₁.heap.NoLimit) (hg:s₁.gens=#[])
 (ha:s₁.heap.get? a=some { cls:=.type "list",data:=.seq vs.toArray }) (hi:IntsAre vs ns) (hl:ns.length<=sizeLine) (hr:j3 k callerA)
 (hK:∀o,K.lookup a=some o->o.cls=.type "list"->False)
 (hT:∀b xs,kts.lookup b=some xs->K.lookup b=none/\∃(o:Obj)(its:Array TB)(n:Nat),s₁.heap.get? b=some o/\o.cls=.type "tuple"/\o.data=.seq its n/\its.size<=sizeLine/\Vals xs its.toList)
 (hM:∀p∈K,∀b xs,xc p.2=some (b,xs)->kts.lookup b=some xs)
 (F:∀base:Heap,K.In base->base.Ns mainGlobals mg->cw P w K mg base CX k fa fd [x] sp) (hbind:∀(s:Tv)(u:TB),BindsTo s fd ⟨[u],[]⟩ [(x,u)])
 (hsp:∀H:Hp,(∃o,H a=some (.dr o (.lst (ns.map V.int))))->sp [.ref a] H (λv _=>v=.bl true) λ_ _ _=>False)
 (hCX:∀H e s',CX [] H s₁ (λ_ _ _=>False) e s'->False) :
 codeAny (model P w) callerA (.call (.ref fa) ⟨[.ref a],[]⟩) (λr s'=>r=.ok (.ret (.bool true))/\OldK s₁.heap s'.heap/\s'.os=s₁.os/\AllBare s'.gens) s₁:=by
 have rv:=oF hi;have noK:K.lookup a=none:=by
  cases q:K.lookup a with
  |none=>rfl
  |some o=>have e:=KX a o q;rw[ha]at e;cases e;exact(hK _ q rfl).elim
 have noT:kts.lookup a=none:=by
  cases q:kts.lookup a with
  |none=>rfl
  |some xs=>obtain⟨_,o,its,n,e,c,_⟩:=hT a xs q;rw[ha]at e;cases e;exact absurd c (by simp)
 obtain⟨ob,eob⟩ : ∃ob:Obj,ob={ cls:=.type "list",data:=.seq vs.toArray }:=⟨_,rfl⟩;rw[<- eob]at ha;generalize eH:sP kts a ob ns=H;have Ha:H a=some (.dr ob (.lst (ns.map V.int))):=by rw[<- eH];exact Gb noT
 have Ht:∀b xs,kts.lookup b=some xs->H b=some (.tup xs):=λb xs e=>by rw[<- eH];exact Ga e
 have Hn:∀b,kts.lookup b=none->b≠a->H b=none:=λb e n=>by rw[<- eH];exact Gc e n
 have freeK:∀b o,K.lookup b=some o->H b=none:=λb o e=>by
  refine Hn b ?_ λz=>by rw[z,noK]at e;cases e
  cases q:kts.lookup b with
  |none=>rfl
  |some xs=>rw[(hT b xs q).1]at e;cases e
 have freeD:∀(b:Addr)(o:Obj)(es:Array DictEntry)(ep:Nat),s₁.heap.get? b=some o->o.data=.dict es ep->H b=none:=λb o es ep e d=>by
  refine Hn b ?_ λz=>?_
  .cases q:kts.lookup b with
   |none=>rfl
   |some xs=>obtain⟨_,o',its,n,e',_,d',_⟩:=hT b xs q;rw[e]at e';cases e';rw[d]at d';cases d'
  .rw[z,ha]at e;cases e;rw[eob]at d;cases d
 have nsK:∀{b:Addr}{m:Str->Option TB},s₁.heap.Ns b m->(xa s₁.heap H).Ns b m:=λ{b m} ⟨o,es,ep,e,d,r⟩=>⟨o,es,ep,xb e (freeD b o es ep e d),d,r⟩;have hKb:K.In (xa s₁.heap H):=λb o e=>xb (KX b o e) (freeK b o e);have hMd:Mod K mg (xa s₁.heap H):=⟨hKb,nsK hns,⟨mb,nsK hb,hbb⟩,let ⟨mc,h1,h2⟩:=hlim;⟨mc,nsK h1,h2⟩⟩;have bP:HOk P w H s₁.heap:=λb u e=>by
  cases q:kts.lookup b with
  |some xs=>rw[Ht b xs q]at e;cases e;obtain⟨_,o,its,n,e1,c,d,z,r⟩:=hT b xs q;refine⟨by rw[r.length];simpa using z,its.toList,r,o,e1,c,n,by simpa using d⟩
  |none=>
   by_cases hba:b=a
   .rw[hba,Ha]at e;cases e;rw[hba];exact⟨ha,by rw[cc];exact hl,vs,_,rv,by rw[ha,eob]⟩
   .rw[Hn b q hba]at e;cases e
 have e0:HI P w K mg (xa s₁.heap H) callerA [] s₁ H:=⟨rfl,hMd,λb o e=>FO e,Nat.le_of_eq (AV _ _),trivial,λb hb=>absurd (show b∈([]:List Addr)from hb) (by simp),bP,.of_eq hg,λp hp b xs e=>Ht b xs (hM p hp b xs e)⟩;refine SN ((F _ hKb (nsK hns)).run callerA [] s₁ H ⟨[.ref a],[]⟩ [.ref a] [.ref a] _ _ hr e0 (hbind s₁ (.ref a)) (.cons rfl .nil) (hsp H ⟨ob,Ha⟩)) λr s' h=>?_;cases r with
 |error e=>exact(hCX H e s' h).elim
 |ok fl=>
  cases fl with
  |next=>exact False.elim h
  |brk=>exact False.elim h
  |cont=>exact False.elim h
  |ret u=>
   obtain⟨v,H',os,bare,un,hok',r',q⟩:=h;have q':v=.bl true:=q;subst q';obtain rfl:u=Value.bool true:=r';refine⟨rfl,OldK.of_keep λb o e=>?_,os,bare⟩;by_cases hba:b=a
   .rw[hba]at e ⊢;have z2:=un.nt a ob _ Ha;obtain⟨e2,_⟩:=hok' a _ z2;rw[ha]at e;cases e;exact e2
   .refine un.keep b o e ?_ (by intro z;exact absurd (show b∈([]:List Addr)from z) (by simp)) (by simp);cases q:kts.lookup b with
    |none=>exact .inl (Hn b q hba)
    |some xs=>exact .inr ⟨xs,Ht b xs q⟩
noncomputable def Qs:V->TB
 |.str x=>.str x 0
 |.ref a=>.ref a
 |_=>.none
def sQ(p:Addr×List V):Obj:={ cls:=.type "kt",data:=.seq (Value.ref p.1::p.2.map Qs).toArray }
def B5(K:Tw)(g:Addr)(kts:List (Addr×List V)):Tw:=K.filter (λp=>(kts.lookup p.1).isNone)++kts.map λp=>(g,sQ p)
section
variable{K K':Tw}{g:Addr}{kts:List (Addr×List V)}
theorem iF:∀{K:Tw},(K.filter (λp=>(kts.lookup p.1).isNone)).lookup b=if(kts.lookup b).isNone then K.lookup b else none
 |[]=>by simp
 |(c,o)::r=>by
  rw[Tr];by_cases hbc:b=c
  .subst hbc;by_cases h:(kts.lookup b).isNone=true
   .rw[dL h,dL h,gL,gL];simp
   .rw[f7 h,iF,f7 h,f7 h]
  .have hb':(b==c)=false:=by simpa using hbc
   have e2:List.lookup b ((c,o)::r)=List.lookup b r:=by rw[gL,hb']
   rw[e2];split
   .rw[gL,hb'];exact iF
   .exact iF
theorem nW:∀{l l':Tw},(l++l').lookup b=(l.lookup b).or (l'.lookup b)
 |[],_=>by simp
 |(c,o)::r,l'=>by
  rw[SV,gL,gL];split
  .rfl
  .exact nW
theorem nX:∀{l:List (Addr×List V)},(l.map λp=>(g,sQ p)).lookup b=some o->b=g
 |[],e=>by cases e
 |p::r,e=>by
  rw[c7,gL]at e;split at e
  .rename_i h;simpa using h
  .exact nX e
def CF(hg:(K.lookup g).isSome=true/\kts.lookup g=none)(e:(B5 K g kts).lookup b=some o):kts.lookup b=none/\K.lookup b=some o:=by
 unfold B5 at e;rw[nW,iF]at e;cases q:kts.lookup b with
 |some xs=>rw[q]at e;simp at e;have:=nX e;rw[this,hg.2]at q;cases q
 |none=>
  rw[q]at e;simp only[Option.isNone_none,Sd]at e;cases ek:K.lookup b with
  |some o'=>rw[ek]at e;simp at e;exact⟨rfl,by rw[e]⟩
  |none=>rw[ek]at e;simp at e;have hm:=nX e;subst hm;have:=hg.1;rw[ek]at this;cases this
def CG(n:kts.lookup b=none)(e:K.lookup b=some o):(B5 K g kts).lookup b=some o:=by unfold B5;rw[nW,iF,n,e];rfl
def Be(K:Tw)(kts:List (Addr×List V)):Prop:=∀p∈kts,p.2.map (λv=>P5 (Qs v))=p.2/\∃(o:Obj)(its:Array TB)(n:Nat),K.lookup p.1=some o/\o.cls=.type "tuple"/\o.data=.seq its n/\its.size<=sizeLine/\Vals p.2 its.toList
def Nn(K:Tw):Bool:=K.all λp=>(xc p.2).isNone
theorem mf:∀{l:List (Addr×List V)},l.lookup b=some xs->(b,xs)∈l
 |[],e=>by cases e
 |(c,ys)::r,e=>by
  rw[gL]at e;split at e
  .rename_i h;cases e;obtain rfl:b=c:=by simpa using h
   exact rM
  .exact gO _ (mf e)
def vd(h:p.2.map (λv=>P5 (Qs v))=p.2):xc (sQ p)=some p:=by unfold xc sQ;simp only[RW,Sd];rw[iA];exact ly some (Prod.ext rfl h)
def Bf(hn:Nn K=true)(hk:Be K kts)(hd:(kts.map (·.1)).Nodup):∀p∈B5 K g kts,∀b xs,xc p.2=some (b,xs)->kts.lookup b=some xs:=λp hp b xs e=>by
 unfold B5 at hp;rcases ir.mp hp with hp|hp
 .have h1:=c8.mp hn p (q_.mp hp).1;rw[e]at h1;cases h1
 .obtain⟨q,hq,rfl⟩:=eR.mp hp;rw[vd (hk q hq).1]at e;cases e;clear hp hk hn
  revert hq hd
  generalize kts=ks;intro hd hq;induction ks with
  |nil=>cases hq
  |cons c r ih=>
   obtain⟨c1,c2⟩:=c;rw[c7,S4]at hd;rcases cJ.mp hq with z|z
   .cases z;rw[gL];simp
   .rw[gL];have:(b==c1)=false:=by simp only[jE,ne_eq];intro z';exact hd.1 (by rw[<- z'];exact eR.mpr ⟨_,z,rfl⟩)
    rw[this];exact ih hd.2 z
def dZ(h:(a,xs)∈kts)(hk:Be K kts):∃p∈B5 K g kts,xc p.2=some (a,xs):=⟨(g,sQ (a,xs)),by unfold B5;exact ir.mpr (.inr (eR.mpr ⟨_,h,rfl⟩)),vd (hk _ h).1⟩
structure ot(K K':Tw):Prop where
 look:∀b o,K.lookup b=some o->(∀its n,o.data≠.seq its n)->K'.lookup b=some o
def Ge(hk:Be K kts):ot K (B5 K g kts):=⟨λb o e d=>CG (by
 cases q:kts.lookup b with
 |none=>rfl
 |some xs=>obtain⟨_,o',its,n,e',_,d',_⟩:=hk _ (mf q);have e'':K.lookup b=some o':=e';rw[e]at e'';cases e'';exact(d its n d').elim) e⟩
def ot.code(S:ot K K')(h:codeIn K cd q=true):codeIn K' cd q=true:=by
 unfold codeIn at h ⊢;cases cd with
 |ref c=>
  dsimp only at h ⊢;cases e:K.lookup c with
  |none=>rw[e]at h;cases h
  |some o=>
   obtain⟨o1,o2,o3,o4⟩:=o;cases o3 with
   |fields vs=>rw[S.look c _ e (λ_ _ z=>nomatch z)];rw[e]at h;exact h
   |_=>rw[e]at h;cases h
 |_=>cases h
def ot.keep(S:ot K K')(e:K.lookup f=some ⟨o1,o2,.func fd,o4⟩):keepIn K' (.ref f)=true:=by unfold keepIn;dsimp only;rw[S.look f _ e (λ_ _ z=>nomatch z)]
def ot.ns(S:ot K K')(h:nsIn K n x=some r):nsIn K' n x=some r:=by
 unfold nsIn at h ⊢;cases e:K.lookup n with
 |none=>rw[e]at h;cases h
 |some o=>
  obtain⟨o1,o2,o3,o4⟩:=o;cases o3 with
  |dict es ep=>rw[S.look n _ e (λ_ _ z=>nomatch z)];rw[e]at h;exact h
  |_=>rw[e]at h;cases h
def ot.nsOk(S:ot K K')(h:PySem.W.nsOkIn K n=true):PySem.W.nsOkIn K' n=true:=by
 unfold PySem.W.nsOkIn at h ⊢;cases e:K.lookup n with
 |none=>rw[e]at h;cases h
 |some o=>
  obtain⟨o1,o2,o3,o4⟩:=o;cases o3 with
  |dict es ep=>rw[S.look n _ e (λ_ _ z=>nomatch z)];rw[e]at h;exact h
  |_=>rw[e]at h;cases h
theorem ot.tail(S:ot K K'):∀{l:List TB},PySem.W.tailIn K bm l=true->PySem.W.tailIn K' bm l=true
 |[],h=>h
 |v::r,h=>by
  unfold PySem.W.tailIn at h ⊢;rw[lV]at h ⊢;refine h.imp id λh=>?_;cases v with
  |ref A=>
   dsimp only at h ⊢;cases e:K.lookup A with
   |none=>rw[e]at h;cases h
   |some o=>
    obtain⟨o1,o2,o3,o4⟩:=o;cases o3 with
    |cls cd=>rw[S.look A _ e (λ_ _ z=>nomatch z)];rw[e]at h;dsimp only at h ⊢;simp only[cH,Sa]at h ⊢;exact⟨⟨S.nsOk h.1.1,S.ns h.1.2⟩,S.tail h.2⟩
    |_=>rw[e]at h;cases h
  |_=>cases h
def ot.exc(S:ot K K')(h:excIn K C bm i=true):excIn K' C bm i=true/\me K' C=me K C:=by
 unfold excIn at h ⊢;unfold me;cases e:K.lookup C with
 |none=>rw[e]at h;cases h
 |some o=>
  obtain⟨o1,o2,o3,o4⟩:=o;rw[e]at h;cases o3 with
  |cls cd=>
   rw[S.look C _ e (λ_ _ z=>nomatch z)];refine⟨?_,rfl⟩;split at h
   .rename_i dd cd' sl he;injection he with he;injection he with he1 he2 he3 he4;injection he3 with he3;subst he1 he2 he3 he4
    try dsimp only at h
    try dsimp only
    split at h
    .rename_i hm hs;simp only[cH,Sa]at h ⊢;exact⟨⟨⟨h.1.1.1,S.tail h.1.1.2⟩,S.nsOk h.1.2⟩,S.ns h.2⟩
    .cases h
   .cases h
  |_=>split at h<;>first|cases h|(rename_i he;injection he with he;injection he with _ _ he _;cases he)
end
noncomputable def zZ:TB->Bool
 |.type n=>n=="list"
 |_=>false
def Qu(K:Tw):Bool:=K.all λp=>!zZ p.2.cls
theorem CH:∀{K:Tw},Qu K=true->K.lookup a=some o->o.cls=.type "list"->False
 |[],_,e,_=>by cases e
 |(b,x)::r,h,e,c=>by
  unfold Qu at h;rw[rF,cH]at h;rw[gL]at e;split at e
  .cases e;rw[c]at h;have h1:=h.1;simp[zZ]at h1
  .exact CH (K:=r) h.2 e c
section
variable{l:PySem.W.OpenLaw}{K:Params->Tw}{CX:World->FI}{sp:World->Sp}
def CJ{kts:List (Addr×List V)}(hn:l.most=some n)(hn2:n<=sizeLine)(hdf:d.params.defaults=[])(hr:j3 k callerA)(hY:∀(w:World)(h:Heap),YP w h->(K w.params).In h)
 (hT:∀w:World,Be (K w.params) kts) (hd:decide (kts.map (·.1)).Nodup=true/\(kts.lookup mainGlobals).isNone=true)
 (hL:∀w:World,Qu (K w.params)=true/\Nn (K w.params)=true/\((K w.params).lookup mainGlobals).isSome=true)
 (F:∀(w:World)(mg:Str->Option TB)(fa:Addr)(h:Heap),(K w.params).In h->h.Ns mainGlobals mg->mg d.name=some (.ref fa)->Be (K w.params) kts->
   ∃fd:FuncData,(∀(s:Tv)(u:TB),BindsTo s fd ⟨[u],[]⟩ [(x,u)])/\∀base:Heap,cw l.prog w (B5 (K w.params) mainGlobals kts) mg base (CX w) k fa fd [x] (sp w))
 (hsp:∀(w:World)(H:Hp)(a:Addr)(ns:List Int),ns.length<=n->(∃o,H a=some (.dr o (.lst (ns.map V.int))))->sp w [.ref a] H (λv _=>v=.bl true) λ_ _ _=>False)
 (hCX:∀(w:World)(H:Hp)(s:Tv)(e:TB)(s':Tv),CX w [] H s (λ_ _ _=>False) e s'->False) :
 PySem.W.WalkO q loose XP YP l.row.toRowW d [] (λf vs=>PySem.call f vs):=by
 refine Att.attach_call hn hdf λw s₀ s₁ mg mb fa o pm cd doc a vs ns G Y ho hd' hcd hmg hobj hints cj hg=>?_;have KX:=hY w _ Y;obtain⟨fd,hb,hF⟩:=F w mg fa _ KX G.T.g hmg (hT w);have g0:((K w.params).lookup mainGlobals).isSome=true/\kts.lookup mainGlobals=none:=⟨(hL w).2.2,Option.isNone_iff_eq_none.mp hd.2⟩;have lk:∀b o,(B5 (K w.params) mainGlobals kts).lookup b=some o->kts.lookup b=none/\(K w.params).lookup b=some o:=λb o e=>CF g0 e;refine Bd (kts:=kts) (λb o e=>KX b o (lk b o e).2) G.T.g G.T.b G.T.builtins G.T.nolimit hg hobj hints (jQ cj hn2) hr (λo e c=>CH (hL w).1 (lk _ _ e).2 c) (λb xs e=>⟨?_,?_⟩)
  (Bf (hL w).2.1 (hT w) (wV hd.1)) (λbase _ _=>hF base) hb (λH hS=>hsp w H a ns cj hS) λH e s'=>hCX w H s₁ e s'
 .cases z:(B5 (K w.params) mainGlobals kts).lookup b with
  |none=>rfl
  |some o=>rw[(lk b o z).1]at e;cases e
 .obtain⟨_,o,its,n,e1,r⟩:=hT w _ (mf e);exact⟨o,its,n,KX _ _ e1,r⟩
end
end L2
namespace L2
open PySem PySem.Spec PySem.Calls PyProof.Rows
noncomputable abbrev K0:=Sum Int (List Int)
noncomputable def RO:K0->Int
 |.inl i=>hashInt i
 |.inr l=>reduceHash (Builtin.Tuple.tupleHashOf (l.map hashInt))
def RP(k:List K0):Int:=reduceHash (Builtin.Tuple.tupleHashOf (k.map RO))
abbrev NX:=List (List K0×Addr×TB)
def RQ(a:Addr)(xs:NX)(h:Heap):Prop:=∃o es ep,h.get? a=some o/\o.ExactDict/\o.data=.dict es ep/\es.toList=xs.map (λx=>⟨RP x.1,.ref x.2.1,x.2.2⟩)/\(xs.map (·.1)).Nodup
noncomputable def NVs(H:Hp):List K0->List V->Prop
 |[],vs=>vs=[]
 |.inl i::ks,vs=>∃r,vs=.int i::r/\NVs H ks r
 |.inr l::ks,vs=>∃c r,vs=.ref c::r/\H c=some (.tup (l.map V.int))/\NVs H ks r
def KeyN(H:Hp)(k:List K0)(b:Addr):Prop:=∃vs,H b=some (.tup vs)/\NVs H k vs
def Np(H:Hp)(T:Addr->Prop)(v:V)(ks:List (List K0)):Prop:=∃a xs,v=.ref a/\H a=some (.ext (RQ a xs))/\(∀b,T b↔b=a)/\(a==sysModules)=false/\xs.length<=sizeLine/\ks=xs.map (·.1)/\∀x∈xs,KeyN H x.1 x.2.1
section
theorem NVs.mono(kt:∀b vs,H b=some (.tup vs)->H' b=some (.tup vs)):∀{k:List K0}{vs:List V},NVs H k vs->NVs H' k vs
 |[],_,h=>h
 |.inl i::ks,_,⟨r,e,h⟩=>⟨r,e,NVs.mono kt h⟩
 |.inr l::ks,_,⟨c,r,e,e2,h⟩=>⟨c,r,e,kt _ _ e2,NVs.mono kt h⟩
theorem KeyN.mono(kt:∀b vs,H b=some (.tup vs)->H' b=some (.tup vs))(h:KeyN H k b):KeyN H' k b:=let ⟨vs,e,q⟩:=h;⟨vs,kt _ _ e,q.mono kt⟩
def CK(kT:∀b o,T b->H b=some o->H' b=some o)(kt:∀b vs,H b=some (.tup vs)->H' b=some (.tup vs))(h:Np H T v ks):Np H' T v ks:=by obtain⟨a,xs,e,e1,e2,e3,e4,e5,e6⟩:=h;exact⟨a,xs,e,kT a _ ((e2 a).mpr rfl) e1,e2,e3,e4,e5,λx hx=>(e6 x hx).mono kt⟩
end
end L2
namespace L3
open PySem PySem.Spec PyProof.Rows L2
abbrev DK:=Sum gQ (List gQ)
inductive D where
 |gP|bl (b:Bool)|int (i:Int)|str (x:Str)|tup (ds:List D)|lst (ds:List D)|j7 (ks:List DK) (ds:List D)
mutual
noncomputable def D.flat:D->Bool
 |.lst _=>false
 |.j7 _ _=>false
 |.tup ds=>D.aL ds
 |_=>true
noncomputable def D.aL:List D->Bool
 |[]=>true
 |d::ds=>d.flat&&D.aL ds
end
mutual
noncomputable def D.dep:D->Nat
 |.lst ds=>D.iS ds+1
 |.tup ds=>D.iS ds+1
 |.j7 _ ds=>D.iS ds+1000
 |_=>0
noncomputable def D.iS:List D->Nat
 |[]=>0
 |d::ds=>max d.dep (D.iS ds)
end
mutual
noncomputable def dq:D->D->Bool
 |.gP,e=>match e with|.gP=>true|_=>false
 |.bl a,e=>match e with|.bl b=>a==b|.int b=>(if a then 1 else 0)==b|_=>false
 |.int a,e=>match e with|.int b=>a==b|.bl b=>a==(if b then 1 else 0)|_=>false
 |.str a,e=>match e with|.str b=>a==b|_=>false
 |.tup as,e=>match e with|.tup bs=>eqDs as bs|_=>false
 |.lst as,e=>match e with|.lst bs=>eqDs as bs|_=>false
 |.j7 ks as,e=>match e with|.j7 ls bs=>decide (ks=ls)&&eqDs as bs|_=>false
noncomputable def eqDs:List D->List D->Bool
 |[],bs=>match bs with|[]=>true|_=>false
 |a::as,bs=>match bs with|b::r=>dq a b&&eqDs as r|[]=>false
end
mutual
theorem fm:∀d:D,dq d d=true
 |.gP=>rfl
 |.bl a=>by simp[dq]
 |.int a=>by simp[dq]
 |.str a=>by simp[dq]
 |.tup as=>by simp only[dq];exact eqDs_refl as
 |.lst as=>by simp only[dq];exact eqDs_refl as
 |.j7 ks as=>by simp only[dq,decide_true,pP];exact eqDs_refl as
theorem eqDs_refl:∀ds:List D,eqDs ds ds=true
 |[]=>rfl
 |d::ds=>by simp only[eqDs,fm d,eqDs_refl ds,Bool.and_self]
end
def DAt(H:Hp)(a:Addr)(ks:List DK)(vs:List V):Prop:=(∃kvs:List (gQ×V),Rd H a (.dK kvs)/\ks=kvs.map (λp=>.inl p.1)/\vs=kvs.map Prod.snd)\/∃kvs:List (List gQ×V),Rd H a (.dT kvs)/\ks=kvs.map (λp=>.inr p.1)/\vs=kvs.map Prod.snd
noncomputable def JT:HO->Prop
 |.lst _=>True
 |.dK _=>True
 |.dT _=>True
 |.ext _=>True
 |_=>False
def Mu(H:Hp)(a:Addr):Prop:=∃o,H a=some o/\JT o
theorem Mu.lst(h:H a=some (.lst vs)):Mu H a:=⟨_,h,True.intro⟩
def Mu.same(h:Mu H a)(s:∀o,H a=some o->H' a=some o):Mu H' a:=let ⟨o,e,m⟩:=h;⟨o,s o e,m⟩
def Mu.some(h:Mu H a):H a≠none:=by obtain⟨o,e,_⟩:=h;rw[e];simp
def CL(h:Rd H a u):∃o,H a=some o:=h.elim (λe=>⟨_,e⟩) λ⟨_,e⟩=>⟨_,e⟩
def CM(h:Rd H a u)(s:∀o,H a=some o->H' a=some o):Rd H' a u:=h.imp (s _) λ⟨o,e⟩=>⟨o,s _ e⟩
def DAt.obj(h:DAt H a ks vs):∃o,H a=some o:=h.elim (λ⟨_,e,_⟩=>CL e) λ⟨_,e,_⟩=>CL e
def DAt.mu(h:DAt H a ks vs)(n:∀o u,H a≠some (.dr o u)):Mu H a:=by rcases h with⟨kvs,e|⟨o,e⟩,_⟩|⟨kvs,e|⟨o,e⟩,_⟩<;>first|exact⟨_,e,True.intro⟩|exact(n _ _ e).elim
def DAt.keep(h:DAt H a ks vs)(s:∀o,H a=some o->H' a=some o):DAt H' a ks vs:=h.imp (λ⟨kvs,e,r⟩=>⟨kvs,CM e s,r⟩) λ⟨kvs,e,r⟩=>⟨kvs,CM e s,r⟩
def DAt.inj(h:DAt H a ks vs)(g:DAt H a ls ws):ks=ls/\vs=ws:=by rcases h with⟨k1,e1|⟨o1,e1⟩,r1,r2⟩|⟨k1,e1|⟨o1,e1⟩,r1,r2⟩<;>rcases g with⟨k2,e2|⟨o2,e2⟩,q1,q2⟩|⟨k2,e2|⟨o2,e2⟩,q1,q2⟩<;>(rw[e1]at e2;cases e2;try exact⟨r1.trans q1.symm,r2.trans q2.symm⟩)
noncomputable def Qw:HO->Prop
 |.dK _=>False
 |.dT _=>False
 |.dr _ (.dK _)=>False
 |.dr _ (.dT _)=>False
 |_=>True
def DAt.no(h:DAt H a ks vs)(e:H a=some o)(n:Qw o):False:=by rcases h with⟨k,z|⟨o',z⟩,_⟩|⟨k,z|⟨o',z⟩,_⟩<;>(rw[e]at z;cases z;exact n)
mutual
noncomputable def Is(H:Hp)(m:Addr->Prop):D->V->Prop
 |.gP,v=>v=.gP
 |.bl b,v=>v=.bl b
 |.int i,v=>v=.int i
 |.str x,v=>v=.str x
 |.tup ds,v=>∃a vs,v=.ref a/\H a=some (.tup vs)/\IsAll H m ds vs
 |.lst ds,v=>∃a vs,v=.ref a/\((H a=some (.lst vs)/\m a)\/∃o,H a=some (.dr o (.lst vs))/\m a)/\IsAll H m ds vs
 |.j7 ks ds,v=>∃a vs,v=.ref a/\(DAt H a ks vs/\m a)/\IsAll H m ds vs
noncomputable def IsAll(H:Hp)(m:Addr->Prop):List D->List V->Prop
 |[],vs=>vs=[]
 |d::ds,vs=>∃v r,vs=v::r/\Is H m d v/\IsAll H m ds r
end
noncomputable def gS:HO->Prop
 |.tup _=>True
 |.dr _ _=>True
 |_=>False
section
mutual
theorem Is.mono(kp:∀a o,H a=some o->(m a\/gS o)->H' a=some o)(mm:∀a o,H a=some o->m a->m' a):∀{d:D}{v:V},Is H m d v->Is H' m' d v
 |.gP,_,h=>h
 |.bl _,_,h=>h
 |.int _,_,h=>h
 |.str _,_,h=>h
 |.tup ds,_,h=>by obtain⟨a,vs,e,h1,h2⟩:=h;exact⟨a,vs,e,kp a _ h1 (.inr True.intro),IsAll.mono kp mm h2⟩
 |.lst ds,_,h=>by
  obtain⟨a,vs,e,h1,h2⟩:=h;refine⟨a,vs,e,?_,IsAll.mono kp mm h2⟩;rcases h1 with⟨h1,h3⟩|⟨o,h1,h3⟩
  .exact .inl ⟨kp a _ h1 (.inl h3),mm a _ h1 h3⟩
  .exact .inr ⟨o,kp a _ h1 (.inr True.intro),mm a _ h1 h3⟩
 |.j7 ks ds,_,h=>by obtain⟨a,vs,e,h1,h2⟩:=h;obtain⟨o,eo⟩:=h1.1.obj;exact⟨a,vs,e,⟨h1.1.keep λo e=>kp a o e (.inl h1.2),mm a o eo h1.2⟩,IsAll.mono kp mm h2⟩
theorem IsAll.mono(kp:∀a o,H a=some o->(m a\/gS o)->H' a=some o)(mm:∀a o,H a=some o->m a->m' a):∀{ds:List D}{vs:List V},IsAll H m ds vs->IsAll H' m' ds vs
 |[],_,h=>h
 |d::ds,_,h=>by obtain⟨v,r,e,h1,h2⟩:=h;exact⟨v,r,e,Is.mono kp mm h1,IsAll.mono kp mm h2⟩
end
def Is.weak(mm:∀a,m a->m' a)(h:Is H m d v):Is H m' d v:=h.mono (λ_ _ e _=>e) λa _ _=>mm a
def IsAll.weak(mm:∀a,m a->m' a)(h:IsAll H m ds vs):IsAll H m' ds vs:=h.mono (λ_ _ e _=>e) λa _ _=>mm a
def Is.same(s:Same H H')(h:Is H m d v):Is H' m d v:=h.mono (λa o e _=>s a o e) λ_ _ _ z=>z
def IsAll.same(s:Same H H')(h:IsAll H m ds vs):IsAll H' m ds vs:=h.mono (λa o e _=>s a o e) λ_ _ _ z=>z
mutual
theorem Is.flat:∀{d:D}{v:V},d.flat=true->Is H m d v->Is H m' d v
 |.gP,_,_,h=>h
 |.bl _,_,_,h=>h
 |.int _,_,_,h=>h
 |.str _,_,_,h=>h
 |.tup ds,_,f,h=>by obtain⟨a,vs,e,h1,h2⟩:=h;exact⟨a,vs,e,h1,IsAll.flat (by simpa only[D.flat]using f) h2⟩
 |.lst ds,_,f,_=>by simp[D.flat]at f
 |.j7 ks ds,_,f,_=>by simp[D.flat]at f
theorem IsAll.flat:∀{ds:List D}{vs:List V},D.aL ds=true->IsAll H m ds vs->IsAll H m' ds vs
 |[],_,_,h=>h
 |d::ds,_,f,h=>by obtain⟨v,r,e,h1,h2⟩:=h;simp only[D.aL,cH]at f;exact⟨v,r,e,Is.flat f.1 h1,IsAll.flat f.2 h2⟩
end
mutual
theorem Is.inj:∀{d e:D}{v:V},Is H m d v->Is H m' e v->d=e
 |.gP,e,_,h,g=>by cases e<;>first|rfl|(cases h;first|(obtain⟨_,_,z,_⟩:=g;cases z;done)|cases g)
 |.bl _,e,_,h,g=>by cases e<;>(cases h;first|(obtain⟨_,_,z,_⟩:=g;cases z;done)|(cases g;rfl)|cases g)
 |.int _,e,_,h,g=>by cases e<;>(cases h;first|(obtain⟨_,_,z,_⟩:=g;cases z;done)|(cases g;rfl)|cases g)
 |.str _,e,_,h,g=>by cases e<;>(cases h;first|(obtain⟨_,_,z,_⟩:=g;cases z;done)|(cases g;rfl)|cases g)
 |.tup ds,e,_,h,g=>by
  obtain⟨a,vs,rfl,h1,h2⟩:=h;cases e with
  |tup es=>obtain⟨b,ws,z,g1,g2⟩:=g;cases z;rw[h1]at g1;cases g1;rw[IsAll.inj h2 g2]
  |lst es=>obtain⟨b,ws,z,g1,g2⟩:=g;cases z;rcases g1 with⟨g1,_⟩|⟨o,g1,_⟩<;>(rw[h1]at g1;cases g1)
  |j7 ls es=>obtain⟨b,ws,z,g1,g2⟩:=g;cases z;exact(g1.1.no h1 True.intro).elim
  |_=>cases g
 |.lst ds,e,_,h,g=>by
  obtain⟨a,vs,rfl,h1,h2⟩:=h;cases e with
  |tup es=>obtain⟨b,ws,z,g1,g2⟩:=g;cases z;rcases h1 with⟨h1,_⟩|⟨o,h1,_⟩<;>(rw[h1]at g1;cases g1)
  |lst es=>
   obtain⟨b,ws,z,g1,g2⟩:=g;cases z;have e:vs=ws:=by rcases h1 with⟨h1,_⟩|⟨o,h1,_⟩<;>rcases g1 with⟨g1,_⟩|⟨o',g1,_⟩<;>(rw[h1]at g1;cases g1;try rfl)
   subst e;rw[IsAll.inj h2 g2]
  |j7 ls es=>obtain⟨b,ws,z,g1,g2⟩:=g;cases z;rcases h1 with⟨h1,_⟩|⟨o,h1,_⟩<;>exact(g1.1.no h1 True.intro).elim
  |_=>cases g
 |.j7 ks ds,e,_,h,g=>by
  obtain⟨a,vs,rfl,h1,h2⟩:=h;cases e with
  |tup es=>obtain⟨b,ws,z,g1,g2⟩:=g;cases z;exact(h1.1.no g1 True.intro).elim
  |lst es=>obtain⟨b,ws,z,g1,g2⟩:=g;cases z;rcases g1 with⟨g1,_⟩|⟨o,g1,_⟩<;>exact(h1.1.no g1 True.intro).elim
  |j7 ls es=>obtain⟨b,ws,z,g1,g2⟩:=g;cases z;obtain⟨e1,e2⟩:=h1.1.inj g1.1;subst e1 e2;rw[IsAll.inj h2 g2]
  |_=>cases g
theorem IsAll.inj:∀{ds es:List D}{vs:List V},IsAll H m ds vs->IsAll H m' es vs->ds=es
 |[],es,_,h,g=>by
  cases h;cases es with
  |nil=>rfl
  |cons e es=>obtain⟨_,_,z,_⟩:=g;cases z
 |d::ds,es,_,h,g=>by
  obtain⟨v,r,rfl,h1,h2⟩:=h;cases es with
  |nil=>cases g
  |cons e es=>obtain⟨w,q,z,g1,g2⟩:=g;cases z;rw[Is.inj h1 g1,IsAll.inj h2 g2]
end
theorem IsAll.length:∀{ds:List D}{vs:List V},IsAll H m ds vs->vs.length=ds.length
 |[],_,h=>by cases h;rfl
 |d::ds,_,h=>by obtain⟨v,r,rfl,_,h2⟩:=h;simp[IsAll.length h2]
theorem IsAll.append:∀{ds es:List D}{vs ws:List V},IsAll H m ds vs->IsAll H m es ws->IsAll H m (ds++es) (vs++ws)
 |[],_,_,_,h,g=>by cases h;exact g
 |d::ds,_,_,_,h,g=>by obtain⟨v,r,rfl,h1,h2⟩:=h;exact⟨v,r++_,rfl,h1,IsAll.append h2 g⟩
def IsAll.snoc(h:IsAll H m ds vs)(g:Is H m d v):IsAll H m (ds++[d]) (vs++[v]):=h.append ⟨v,[],rfl,g,rfl⟩
theorem IsAll.get:∀{ds:List D}{vs:List V}{i:Nat}{d:D},IsAll H m ds vs->ds[i]?=some d->∃v,vs[i]?=some v/\Is H m d v
 |[],_,_,_,_,e=>by simp at e
 |d::ds,_,0,_,h,e=>by obtain⟨v,r,rfl,h1,h2⟩:=h;simp at e;subst e;exact⟨v,rfl,h1⟩
 |d::ds,_,i+1,_,h,e=>by obtain⟨v,r,rfl,h1,h2⟩:=h;obtain⟨w,a,b⟩:=IsAll.get (i:=i) h2 (by simpa using e);exact⟨w,by simpa using a,b⟩
theorem IsAll.set:∀{ds:List D}{vs:List V}{d:D}{v:V}(i:Nat),IsAll H m ds vs->Is H m d v->IsAll H m (ds.set i d) (vs.set i v)
 |[],_,_,_,_,h,_=>by cases h;exact rfl
 |x::ds,_,d,v,0,h,g=>by obtain⟨w,r,rfl,h1,h2⟩:=h;exact⟨v,r,rfl,g,h2⟩
 |x::ds,_,d,v,i+1,h,g=>by obtain⟨w,r,rfl,h1,h2⟩:=h;exact⟨w,r.set i v,rfl,h1,IsAll.set i h2 g⟩
theorem IsAll.take:∀{ds:List D}{vs:List V}(n:Nat),IsAll H m ds vs->IsAll H m (ds.take n) (vs.take n)
 |_,_,0,_=>rfl
 |[],_,n+1,h=>by cases h;exact rfl
 |d::ds,_,n+1,h=>by obtain⟨v,r,rfl,h1,h2⟩:=h;exact⟨v,r.take n,rfl,h1,IsAll.take n h2⟩
theorem IsAll.drop:∀{ds:List D}{vs:List V}(n:Nat),IsAll H m ds vs->IsAll H m (ds.drop n) (vs.drop n)
 |_,_,0,h=>h
 |[],_,n+1,h=>by cases h;exact rfl
 |d::ds,_,n+1,h=>by obtain⟨v,r,rfl,h1,h2⟩:=h;exact IsAll.drop n h2
end
section
variable{s:Tv}{m m':Addr->Prop}
def JU(ok:HOk P w H s.heap)(h:(H a=some (.lst vs)/\m a)\/∃o,H a=some (.dr o (.lst vs))/\m a) :
 ∃its:List TB,Vals vs its/\s.heap.IsList a its.toArray:=by
 have key:ObjOk P w H s.heap a (.lst vs)->∃its:List TB,Vals vs its/\s.heap.IsList a its.toArray:=λ⟨_,its,n,r,e⟩=>⟨its,r,⟨_,e,rfl,n,rfl⟩⟩;rcases h with⟨h,_⟩|⟨o,h,_⟩
 .exact key (ok a _ h)
 .exact key (ok a _ h).2
def JV(ok:HOk P w H s.heap)(h:H a=some (.tup vs)):∃its:List TB,Vals vs its/\s.heap.IsTuple a its.toArray:=by obtain⟨_,its,r,e⟩:=ok a _ h;exact⟨its,r,e⟩
def Bg(n:Nat)(e:Nat->Bool):(List.range n).all e=true↔∀j,j<n->e j=true:=by simp[c8,kR]
theorem sR:∀(ds es:List D),eqDs ds es=true↔ds.length=es.length/\∀(j:Nat)(d e:D),ds[j]?=some d->es[j]?=some e->dq d e=true
 |[],[]=>by simp[eqDs]
 |[],e::es=>by simp[eqDs]
 |d::ds,[]=>by simp[eqDs]
 |d::ds,e::es=>by
  simp only[eqDs,cH,sR ds es,i8,Nat.add_right_cancel_iff];constructor
  .rintro⟨h1,h2,h3⟩;refine⟨h2,λj x y ex ey=>?_⟩;cases j with
   |zero=>simp at ex ey;subst ex;subst ey;exact h1
   |succ j=>exact h3 j x y (by simpa using ex) (by simpa using ey)
  .rintro⟨h2,h3⟩;exact⟨h3 0 d e rfl rfl,h2,λj x y ex ey=>h3 (j+1) x y (by simpa using ex) (by simpa using ey)⟩
theorem i9:∀{ds:List D}{j:Nat}{d:D},ds[j]?=some d->d.dep<=D.iS ds
 |[],_,_,e=>by simp at e
 |d::ds,0,_,e=>by simp at e;subst e;simp only[D.iS];lia
 |d::ds,j+1,x,e=>by have:=i9 (ds:=ds) (j:=j) (d:=x) (by simpa using e);simp only[D.iS];lia
def vO(ok:HOk P w H s.heap){A:TC}{ds es:List D}(h1:IsAll H m ds vs)(h2:IsAll H m' es ws)(r1:Vals vs its)(r2:Vals ws its2)
 (rec:∀d∈ds,∀e∈es,∀(v w:V)(u u':TB),Is H m d v->Is H m' e w->RelV v u->RelV w u'->SeqAt.EqAt A.in1 s u u' (dq d e)) :
 ∀j (z1:j<its.toArray.size) (z2:j<its2.toArray.size),SeqAt.EqAt A.in1 s its.toArray[j] its2.toArray[j] (match ds[j]?,es[j]? with|some d,some e=>dq d e|_,_=>true):=by
 intro j z1 z2;have l1:=r1.length;have l2:=r2.length;have l3:=h1.length;have l4:=h2.length;have y1:j<its.length:=by simpa using z1
 have y2:j<its2.length:=by simpa using z2
 have k1:j<ds.length:=by lia
 have k2:j<es.length:=by lia
 obtain⟨v,ev,iv⟩:=h1.get (i:=j) (d:=ds[j]) (by simp[k1]);obtain⟨v',ev',iv'⟩:=h2.get (i:=j) (d:=es[j]) (by simp[k2]);obtain⟨u,eu,ru⟩:=r1.get ev;obtain⟨u',eu',ru'⟩:=r2.get ev'
 grind
theorem y0(hl:ds.length=es.length) :
 ((List.range ds.length).all λj=>match ds[j]?,es[j]? with|some d,some e=>dq d e|_,_=>true)=eqDs ds es:=by
 rw[rJ,Bg,sR];constructor
 .intro h;refine⟨hl,λj d e ed ee=>?_⟩;have:=h j (c5.mp ed).1;rw[ed,ee]at this;exact this
 .rintro⟨_,h⟩ j hj;have e1:ds[j]?=some ds[j]:=by simp[hj]
  have hj':j<es.length:=by lia
  have e2:es[j]?=some es[j]:=by simp[hj']
  rw[e1,e2];exact h j _ _ e1 e2
theorem vP(hl:ds.length≠es.length):eqDs ds es=false:=by grind [eqDs,sR]
end
section
variable{s:Tv}
abbrev rh(H:Hp)(s:Tv)(m m':Addr->Prop)(A:TC)(n:Nat):Prop:=∀(d e:D)(v w:V)(u u':TB),d.dep<n->e.dep<1000->Is H m d v->Is H m' e w->RelV v u->RelV w u'->SeqAt.EqAt A.in1 s u u' (dq d e)
section
def sS(ok:HOk P w H s.heap)(hn:(D.lst l1).dep<=n)(hE:(D.lst l2).dep<1000)(hu:A.units<cLine)(q1:IsAll H m l1 vs1)(q2:IsAll H m' l2 vs2)(y1:Vals vs1 its1)(y2:Vals vs2 its2)(p1:s.heap.IsList a1 its1.toArray)(p2:s.heap.IsList a2 its2.toArray)
 (rec:rh H s m m' A n):SeqAt.RcAt A s (.ref a1) (.ref a2) (dq (.lst l1) (.lst l2)):=by
 have e1:its1.toArray.size=l1.length:=by rw[eQ,<- y1.length,q1.length]
 have e2:its2.toArray.size=l2.length:=by rw[eQ,<- y2.length,q2.length]
 have hd:∀d∈l1,d.dep<n:=λd hd=>by obtain⟨j,hj⟩:=jO.mp hd;have:=i9 hj;simp only[D.dep]at hn;lia
 have he:∀e∈l2,e.dep<1000:=λd hd=>by obtain⟨j,hj⟩:=jO.mp hd;have:=i9 hj;simp only[D.dep]at hE;lia
 by_cases hl:l1.length=l2.length
 .have z:=SeqAt.RcAt.lists p1 p2 (by rw[e1,e2,hl]) hu (vO ok q1 q2 y1 y2 λd hm e hm2 v w u u' i1 i2 r1 r2=>rec d e v w u u' (hd d hm) (he e hm2) i1 i2 r1 r2);rw[e1,y0 hl]at z;exact z
 .have z:=SeqAt.RcAt.lists_lengths p1 p2 (by rw[e1,e2];simpa using hl) hu;rw[show dq (.lst l1) (.lst l2)=eqDs l1 l2 from rfl,vP hl];exact z
def vQ(ok:HOk P w H s.heap)(hn:(D.lst l1).dep<=n)(hE:(D.lst l2).dep<1000)(hu:A.units<cLine)(q1:IsAll H m l1 vs1)(q2:IsAll H m' l2 vs2)(y1:Vals vs1 its1)(y2:Vals vs2 its2)(p1:s.heap.IsList a1 its1.toArray)(p2:s.heap.IsList a2 its2.toArray)
 (rec:rh H s m m' A n):SeqAt.RcNeAt A s (.ref a1) (.ref a2) (!dq (.lst l1) (.lst l2)):=by
 have e1:its1.toArray.size=l1.length:=by rw[eQ,<- y1.length,q1.length]
 have e2:its2.toArray.size=l2.length:=by rw[eQ,<- y2.length,q2.length]
 have hd:∀d∈l1,d.dep<n:=λd hd=>by obtain⟨j,hj⟩:=jO.mp hd;have:=i9 hj;simp only[D.dep]at hn;lia
 have he:∀e∈l2,e.dep<1000:=λd hd=>by obtain⟨j,hj⟩:=jO.mp hd;have:=i9 hj;simp only[D.dep]at hE;lia
 by_cases hl:l1.length=l2.length
 .have z:=SeqAt.RcNeAt.lists p1 p2 (by rw[e1,e2,hl]) hu (vO ok q1 q2 y1 y2 λd hm e hm2 v w u u' i1 i2 r1 r2=>rec d e v w u u' (hd d hm) (he e hm2) i1 i2 r1 r2);rw[e1,y0 hl]at z;exact z
 .have z:=SeqAt.RcNeAt.lists_lengths p1 p2 (by rw[e1,e2];simpa using hl) hu;rw[show dq (.lst l1) (.lst l2)=eqDs l1 l2 from rfl,vP hl];exact z
def z9:((List.range (min l1.length l2.length)).all (λj=>match l1[j]?,l2[j]? with|some d,some e=>dq d e|_,_=>true)&&l1.length==l2.length)=eqDs l1 l2:=by grind [y0,vP]
def ve(ok:HOk P w H s.heap)(hn:(D.tup l1).dep<=n)(hE:(D.tup l2).dep<1000)(hu:A.units<cLine)(q1:IsAll H m l1 vs1)(q2:IsAll H m' l2 vs2)(y1:Vals vs1 its1)(y2:Vals vs2 its2)(p1:s.heap.IsTuple a1 its1.toArray)(p2:s.heap.IsTuple a2 its2.toArray)
 (rec:rh H s m m' A n):SeqAt.RcAt A s (.ref a1) (.ref a2) (dq (.tup l1) (.tup l2)):=by
 have e1:its1.toArray.size=l1.length:=by rw[eQ,<- y1.length,q1.length]
 have e2:its2.toArray.size=l2.length:=by rw[eQ,<- y2.length,q2.length]
 have hd:∀d∈l1,d.dep<n:=λd hd=>by obtain⟨j,hj⟩:=jO.mp hd;have:=i9 hj;simp only[D.dep]at hn;lia
 have he:∀e∈l2,e.dep<1000:=λd hd=>by obtain⟨j,hj⟩:=jO.mp hd;have:=i9 hj;simp only[D.dep]at hE;lia
 have z:=SeqAt.RcAt.tuples p1 p2 hu (vO ok q1 q2 y1 y2 λd hm e hm2 v w u u' i1 i2 r1 r2=>rec d e v w u u' (hd d hm) (he e hm2) i1 i2 r1 r2);rw[e1,e2,z9]at z;exact z
def xp(ok:HOk P w H s.heap)(hn:(D.tup l1).dep<=n)(hE:(D.tup l2).dep<1000)(hu:A.units<cLine)(q1:IsAll H m l1 vs1)(q2:IsAll H m' l2 vs2)(y1:Vals vs1 its1)(y2:Vals vs2 its2)(p1:s.heap.IsTuple a1 its1.toArray)(p2:s.heap.IsTuple a2 its2.toArray)
 (rec:rh H s m m' A n):SeqAt.RcNeAt A s (.ref a1) (.ref a2) (!dq (.tup l1) (.tup l2)):=by
 have e1:its1.toArray.size=l1.length:=by rw[eQ,<- y1.length,q1.length]
 have e2:its2.toArray.size=l2.length:=by rw[eQ,<- y2.length,q2.length]
 have hd:∀d∈l1,d.dep<n:=λd hd=>by obtain⟨j,hj⟩:=jO.mp hd;have:=i9 hj;simp only[D.dep]at hn;lia
 have he:∀e∈l2,e.dep<1000:=λd hd=>by obtain⟨j,hj⟩:=jO.mp hd;have:=i9 hj;simp only[D.dep]at hE;lia
 have z:=SeqAt.RcNeAt.tuples p1 p2 hu (vO ok q1 q2 y1 y2 λd hm e hm2 v w u u' i1 i2 r1 r2=>rec d e v w u u' (hd d hm) (he e hm2) i1 i2 r1 r2);rw[e1,e2,z9]at z;exact z
def xq(h:SeqAt.RcAt A s (.ref a1) (.ref a2) k)(hs:a1=a2->k=true):SeqAt.EqAt A s (.ref a1) (.ref a2) k:=by
 by_cases e:a1=a2
 .subst e;rw[hs rfl];exact SeqAt.EqAt.same _
 .exact SeqAt.EqAt.of_refs e h
end
def Is.shape(ok:HOk P w H s.heap)(hE:d.dep<1000)(h:Is H m d v)(r:RelV v u):(d=.gP/\u=.none)\/(∃b,d=.bl b/\u=.bool b)\/(∃i t,d=.int i/\u=.int i t)\/(∃x t,d=.str x/\u=.str x t)\/
 (∃l a vs its,d=.lst l/\v=.ref a/\u=.ref a/\IsAll H m l vs/\Vals vs its/\s.heap.IsList a its.toArray)\/∃l a vs its,d=.tup l/\v=.ref a/\u=.ref a/\IsAll H m l vs/\Vals vs its/\s.heap.IsTuple a its.toArray:=by
 cases d with
 |gP=>cases h;cases r;exact .inl ⟨rfl,rfl⟩
 |bl b=>cases h;cases r;exact .inr (.inl ⟨b,rfl,rfl⟩)
 |int i=>cases h;obtain⟨t,rfl⟩:=r;exact .inr (.inr (.inl ⟨i,t,rfl,rfl⟩))
 |str x=>cases h;obtain⟨t,rfl⟩:=r;exact .inr (.inr (.inr (.inl ⟨x,t,rfl,rfl⟩)))
 |lst l=>obtain⟨a,vs,rfl,g,q⟩:=h;cases r;obtain⟨its,y,p⟩:=JU ok g;exact .inr (.inr (.inr (.inr (.inl ⟨l,a,vs,its,rfl,rfl,rfl,q,y,p⟩))))
 |tup l=>obtain⟨a,vs,rfl,g,q⟩:=h;cases r;obtain⟨its,y,p⟩:=JV ok g;exact .inr (.inr (.inr (.inr (.inr ⟨l,a,vs,its,rfl,rfl,rfl,q,y,p⟩))))
 |j7 k l=>exact absurd hE (by simp only[D.dep];lia)
def Gf(ok:HOk P w H s.heap)(hu:A.units<cLine)(rec:rh H s m m' A n)(hn:d.dep<=n)(hN:n<1000)(hE:e.dep<1000)(h1:Is H m d v)(h2:Is H m' e w')(r1:RelV v u)(r2:RelV w' u') :
 SeqAt.RcAt A s u u' (dq d e):=by
 rcases h1.shape ok (by lia) r1 with⟨rfl,rfl⟩|⟨b1,rfl,rfl⟩|⟨i1,t1,rfl,rfl⟩|⟨x1,t1,rfl,rfl⟩|⟨l1,a1,vs1,its1,rfl,rfl,rfl,q1,y1,p1⟩|⟨l1,a1,vs1,its1,rfl,rfl,rfl,q1,y1,p1⟩<;>rcases h2.shape ok hE r2 with⟨rfl,rfl⟩|⟨b2,rfl,rfl⟩|⟨i2,t2,rfl,rfl⟩|⟨x2,t2,rfl,rfl⟩|⟨l2,a2,vs2,its2,rfl,rfl,rfl,q2,y2,p2⟩|⟨l2,a2,vs2,its2,rfl,rfl,rfl,q2,y2,p2⟩;exact .none_none;exact .none_bool b2;exact .none_int i2 t2;exact .none_str x2 t2;exact .none_list p2 hu;exact .none_tuple p2 hu;exact .bool_none b1;exact .bool_bool b1 b2;exact .bool_int b1 i2 t2;exact .bool_str b1 x2 t2;exact .bool_list b1 p2 hu;exact .bool_tuple b1 p2 hu;exact .int_none i1 t1;exact .int_bool i1 t1 b2;exact .int_int i1 t1 i2 t2;exact .int_str i1 t1 x2 t2;exact .int_list i1 t1 p2 hu;exact .int_tuple i1 t1 p2 hu;exact .str_none x1 t1;exact .str_bool x1 t1 b2;exact .str_int x1 t1 i2 t2;exact .str_str x1 t1 x2 t2;exact .str_list x1 t1 p2 hu;exact .str_tuple x1 t1 p2 hu;exact .list_none p1 hu;exact .list_bool b2 p1 hu;exact .list_int i2 t2 p1 hu;exact .list_str x2 t2 p1 hu;exact sS ok hn hE hu q1 q2 y1 y2 p1 p2 rec;exact .list_tuple p1 p2 hu;exact .tuple_none p1 hu;exact .tuple_bool b2 p1 hu;exact .tuple_int i2 t2 p1 hu;exact .tuple_str x2 t2 p1 hu;exact .tuple_list p1 p2 hu;exact ve ok hn hE hu q1 q2 y1 y2 p1 p2 rec
def Gg(ok:HOk P w H s.heap)(hu:A.units<cLine)(rec:rh H s m m' A n)(hn:d.dep<=n)(hN:n<1000)(hE:e.dep<1000)(h1:Is H m d v)(h2:Is H m' e w')(r1:RelV v u)(r2:RelV w' u') :
 SeqAt.RcNeAt A s u u' (!dq d e):=by
 rcases h1.shape ok (by lia) r1 with⟨rfl,rfl⟩|⟨b1,rfl,rfl⟩|⟨i1,t1,rfl,rfl⟩|⟨x1,t1,rfl,rfl⟩|⟨l1,a1,vs1,its1,rfl,rfl,rfl,q1,y1,p1⟩|⟨l1,a1,vs1,its1,rfl,rfl,rfl,q1,y1,p1⟩<;>rcases h2.shape ok hE r2 with⟨rfl,rfl⟩|⟨b2,rfl,rfl⟩|⟨i2,t2,rfl,rfl⟩|⟨x2,t2,rfl,rfl⟩|⟨l2,a2,vs2,its2,rfl,rfl,rfl,q2,y2,p2⟩|⟨l2,a2,vs2,its2,rfl,rfl,rfl,q2,y2,p2⟩;exact .none_none;exact .none_bool b2;exact .none_int i2 t2;exact .none_str x2 t2;exact .none_list p2 hu;exact .none_tuple p2 hu;exact .bool_none b1;exact .bool_bool b1 b2;exact .bool_int b1 i2 t2;exact .bool_str b1 x2 t2;exact .bool_list b1 p2 hu;exact .bool_tuple b1 p2 hu;exact .int_none i1 t1;exact .int_bool i1 t1 b2;exact .int_int i1 t1 i2 t2;exact .int_str i1 t1 x2 t2;exact .int_list i1 t1 p2 hu;exact .int_tuple i1 t1 p2 hu;exact .str_none x1 t1;exact .str_bool x1 t1 b2;exact .str_int x1 t1 i2 t2;exact .str_str x1 t1 x2 t2;exact .str_list x1 t1 p2 hu;exact .str_tuple x1 t1 p2 hu;exact .list_none p1 hu;exact .list_bool b2 p1 hu;exact .list_int i2 t2 p1 hu;exact .list_str x2 t2 p1 hu;exact vQ ok hn hE hu q1 q2 y1 y2 p1 p2 rec;exact .list_tuple p1 p2 hu;exact .tuple_none p1 hu;exact .tuple_bool b2 p1 hu;exact .tuple_int i2 t2 p1 hu;exact .tuple_str x2 t2 p1 hu;exact .tuple_list p1 p2 hu;exact xp ok hn hE hu q1 q2 y1 y2 p1 p2 rec
def z_(ok:HOk P w H s.heap)(hu:A.units<cLine)(rec:rh H s m m' A n)(hn:d.dep<=n)(hN:n<1000)(hE:e.dep<1000)(h1:Is H m d v)(h2:Is H m' e w')(r1:RelV v u)(r2:RelV w' u') :
 SeqAt.EqAt A s u u' (dq d e):=by
 rcases h1.shape ok (by lia) r1 with⟨rfl,rfl⟩|⟨b1,rfl,rfl⟩|⟨i1,t1,rfl,rfl⟩|⟨x1,t1,rfl,rfl⟩|⟨l1,a1,vs1,its1,rfl,rfl,rfl,q1,y1,p1⟩|⟨l1,a1,vs1,its1,rfl,rfl,rfl,q1,y1,p1⟩<;>rcases h2.shape ok hE r2 with⟨rfl,rfl⟩|⟨b2,rfl,rfl⟩|⟨i2,t2,rfl,rfl⟩|⟨x2,t2,rfl,rfl⟩|⟨l2,a2,vs2,its2,rfl,rfl,rfl,q2,y2,p2⟩|⟨l2,a2,vs2,its2,rfl,rfl,rfl,q2,y2,p2⟩;exact .same _;exact .none_bool b2;exact .none_int i2 t2;exact .none_str x2 t2;exact .none_list p2 hu;exact .none_tuple p2 hu;exact .bool_none b1;exact .bool_bool b1 b2;exact .bool_int b1 i2 t2;exact .bool_str b1 x2 t2;exact .bool_list b1 p2 hu;exact .bool_tuple b1 p2 hu;exact .int_none i1 t1;exact .int_bool i1 t1 b2;exact .int_int i1 t1 i2 t2;exact .int_str i1 t1 x2 t2;exact .int_list i1 t1 p2 hu;exact .int_tuple i1 t1 p2 hu;exact .str_none x1 t1;exact .str_bool x1 t1 b2;exact .str_int x1 t1 i2 t2;exact .str_str x1 t1 x2 t2;exact .str_list x1 t1 p2 hu;exact .str_tuple x1 t1 p2 hu;exact .list_none p1 hu;exact .list_bool b2 p1 hu;exact .list_int i2 t2 p1 hu;exact .list_str x2 t2 p1 hu;exact xq (sS ok hn hE hu q1 q2 y1 y2 p1 p2 rec) (λz=>by subst z;rw[Is.inj h1 h2];exact fm _);exact .list_tuple p1 p2 hu;exact .tuple_none p1 hu;exact .tuple_bool b2 p1 hu;exact .tuple_int i2 t2 p1 hu;exact .tuple_str x2 t2 p1 hu;exact .tuple_list p1 p2 hu;exact xq (ve ok hn hE hu q1 q2 y1 y2 p1 p2 rec) (λz=>by subst z;rw[Is.inj h1 h2];exact fm _)
theorem CN(ok:HOk P w H s.heap):∀(n:Nat)(A:TC){d e:D}{v w':V}{u u':TB},A.units+n<cLine->n<1000->d.dep<=n->e.dep<1000->Is H m d v->Is H m' e w'->RelV v u->RelV w' u'->SeqAt.EqAt A s u u' (dq d e)
 |0,A,d,e,v,w',u,u',hu,hN,hn,hE,h1,h2,r1,r2=>z_ ok (by lia) (λd e v w u u' hd=>absurd hd (by lia)) hn hN hE h1 h2 r1 r2
 |n+1,A,d,e,v,w',u,u',hu,hN,hn,hE,h1,h2,r1,r2=>z_ ok (by lia) (λd e v w u u' hd he i1 i2 r1 r2=>CN ok n A.in1 (by show A.units+1+n<cLine;lia) (by lia) (by lia) he i1 i2 r1 r2) hn hN hE h1 h2 r1 r2
def CO(ok:HOk P w H s.heap)(hu:A.units+n<cLine)(hN:n<1000):rh H s m m' A n:=λd e v w u u' hd he i1 i2 r1 r2=>CN ok (n-1) A.in1 (by show A.units+1+(n-1)<cLine;lia) (by lia) (by lia) he i1 i2 r1 r2
end
abbrev St:=L2.St
inductive Res(α:Type) where
 |stuck|ok (a:α)|exc (c:Str)
noncomputable def Res.bind{α β:Type}:Res α->(α->Res β)->Res β
 |.stuck,_=>.stuck
 |.exc c,_=>.exc c
 |.ok a,k=>k a
@[simp] theorem Res.fY {α β:Type}(a:α)(k:α->Res β):(Res.ok a).bind k=k a:=rfl
inductive Kd where
 |no|tr (d:D)|ds (d:D)
inductive Sl where
 |val (d:D) (fr:Bool)|own (ds:List D) (fr:Bool)|pW (d:D)|Fz (d:D)|pin (d:D)|lz (d:D)|fix (n:Nat) (k:Kd)|FG (a:Addr)|FC (ks:List (List K0))
noncomputable abbrev En:=List (Option Sl)
inductive R where
 |val (d:D) (fr:Bool) (al:List Nat)|new (ds:List D) (fr:Bool)|sy (d:D)
noncomputable def R.d:R->D
 |.val d _ _=>d
 |.new ds _=>.lst ds
 |.sy d=>d
noncomputable def R.fr:R->Bool
 |.val _ f _=>f
 |.new _ f=>f
 |.sy _=>true
noncomputable def R.al:R->List Nat
 |.val _ _ al=>al
 |.new _ _=>[]
 |.sy _=>[]
@[simp] theorem R.Pw (d:D)(f:Bool)(al:List Nat):(R.val d f al).d=d:=rfl
def l6(d:D)(fr:Bool)(al:List Nat):R:=if d.flat then .val d true []else .val d fr al
structure Gd where
 H₀:Hp
 Ma:Addr->Prop
 Z:Addr->Prop
 root:Option V
 Q5:Option V
noncomputable abbrev Nq(H:Hp)(Ma:Addr->Prop):Gd:=⟨H,Ma,λ_=>False,none,none⟩
def MuZ(g:Gd)(H:Hp)(a:Addr):Prop:=Mu H a\/(g.Z a/\∃o u,H a=some (.dr o u))
theorem MuZ.same(h:MuZ g H a)(s:∀o,H a=some o->H' a=some o):MuZ g H' a:=h.imp (λz=>z.same s) λ⟨z,o,u,e⟩=>⟨z,o,u,s _ e⟩
def jm(g:Gd)(M:Addr->Prop)(fr:Bool)(a:Addr):Prop:=M a/\(fr=true->g.H₀ a=none)
noncomputable abbrev Pr:=Nat->Addr->Prop
def vmsk(g:Gd)(M:Addr->Prop)(fr:Bool)(ρ:Pr)(al:List Nat)(a:Addr):Prop:=jm g M fr a\/∃i,i∈al/\ρ i a
mutual
noncomputable def IsSh(H:Hp)(m:Addr->Prop):D->V->Prop
 |.tup ds,v=>∃a vs,v=.ref a/\H a=some (.tup vs)/\IsShs H m ds vs
 |.lst _,v=>∃a vs,v=.ref a/\H a=some (.lst vs)/\m a
 |_,_=>True
noncomputable def IsShs(H:Hp)(m:Addr->Prop):List D->List V->Prop
 |[],_=>True
 |d::ds,vs=>∃v r,vs=v::r/\IsSh H m d v/\IsShs H m ds r
end
def Dst(H:Hp)(T:Addr->Prop)(v:V):Prop:=∃(a:Addr)(vs:List V),v=.ref a/\T a/\(H a=some (.lst vs)\/(∃kvs,H a=some (.dK kvs)/\vs=kvs.map Prod.snd)\/(H a=some (.dT [])/\vs=[]))/\V.ref a∉vs/\∀(i j:Nat)(b:Addr),vs[i]?=some (V.ref b)->vs[j]?=some (V.ref b)->i=j
def Dst.mono(kp:∀a o,T a->H a=some o->H' a=some o)(mm:∀a,T a->T' a)(h:Dst H T v):Dst H' T' v:=by obtain⟨a,vs,e,ta,h1,h2⟩:=h;exact⟨a,vs,e,mm a ta,h1.imp (kp a _ ta) (.imp (λ⟨kvs,q,z⟩=>⟨kvs,kp a _ ta q,z⟩) λ⟨q,z⟩=>⟨kp a _ ta q,z⟩),h2⟩
def KdOk(H:Hp)(T:Addr->Prop)(v:V):Kd->Prop
 |.no=>True
 |.tr d=>Is H T d v
 |.ds d=>Is H T d v/\Dst H T v
theorem KdOk.mono(kp:∀a o,H a=some o->(T a\/gS o)->H' a=some o)(h:KdOk H T v k):KdOk H' T v k:=by
 cases k with
 |no=>exact h
 |tr d=>exact Is.mono kp (λ_ _ _ z=>z) h
 |ds d=>exact⟨Is.mono kp (λ_ _ _ z=>z) h.1,h.2.mono (λa o z e=>kp a o e (.inl z)) λ_ z=>z⟩
noncomputable def Gd.rt(g:Gd)(n:Nat):Option V:=if n=0 then g.root else g.Q5
def sT(kp:∀a o,H a=some o->(T a\/gS o)->H' a=some o)(h:Np H T v ks):Np H' T v ks:=CK (λb o z e=>kp b o e (.inl z)) (λb vs e=>kp b _ e (.inr True.intro)) h
def SlOk(g:Gd)(M T:Addr->Prop)(H:Hp)(v:V):Sl->Prop
 |.val d fr=>Is H (jm g M fr) d v
 |.own ds fr=>∃a vs,v=.ref a/\H a=some (.lst vs)/\(∀b,T b↔b=a)/\IsAll H (jm g M fr) ds vs
 |.pW d=>Is H T d v
 |.Fz d=>IsSh H T d v
 |.pin d=>Is H T d v/\g.root=some v
 |.lz d=>Is H T d v/\Dst H T v
 |.fix n k=>g.rt n=some v/\KdOk H T v k
 |.FG a=>v=.ref a
 |.FC ks=>Np H T v ks
noncomputable def Sl.Pz:Sl->Bool
 |.val _ _=>false
 |.FG _=>false
 |.fix _ .no=>false
 |_=>true
def fq(env:En)(j:Nat):Bool:=match env[j]? with
 |some (some sl)=>sl.Pz
 |_=>false
structure Rep(g:Gd) (M:Addr->Prop) (ρ:Pr) (env:En) (σ:St) (H:Hp):Prop where
 same:Same g.H₀ H
 lA:∀a,M a->H a≠none
 w8:∀a,M a->g.H₀ a=none\/g.Ma a
 fl:∀a,M a->g.H₀ a=none->MuZ g H a
 slot:∀(i:Nat)(sl:Sl),env[i]?=some (some sl)->∃v,σ[i]?=some (some v)/\SlOk g M (ρ i) H v sl
 ck:∀(i:Nat)(a:Addr),ρ i a->¬M a/\g.H₀ a=none/\Mu H a
 apart:∀(i j:Nat)(a:Addr),ρ i a->ρ j a->i=j
 ow:∀(i:Nat)(a:Addr),ρ i a->fq env i=true
 len:env.length=σ.length
 zz:∀a,g.Z a->H a≠none
def ROk(g:Gd)(M:Addr->Prop)(ρ:Pr)(H0 H:Hp)(v:V):R->Prop
 |.val d fr al=>Is H (vmsk g M fr ρ al) d v
 |.new ds fr=>∃a vs,v=.ref a/\H a=some (.lst vs)/\¬M a/\H0 a=none/\(∀i,¬ρ i a)/\IsAll H (jm g M fr) ds vs
 |.sy d=>∃T:Addr->Prop,(∀a,T a->¬M a/\H0 a=none/\Mu H a/\∀i,¬ρ i a)/\Is H T d v
structure Ext(M:Addr->Prop) (H:Hp) (M':Addr->Prop) (H':Hp):Prop where
 m:∀a,M a->M' a
 h:Same H H'
 n:∀a,M' a->M a\/H a=none
theorem Ext.refl(M:Addr->Prop)(H:Hp):Ext M H M H:=⟨λ_ z=>z,Same.refl H,λ_ z=>.inl z⟩
theorem Ext.trans{M M1 M2:Addr->Prop}(a:Ext M H M1 H1)(b:Ext M1 H1 M2 H2):Ext M H M2 H2:=⟨λx z=>b.m x (a.m x z),a.h.trans b.h,λx z=>(b.n x z).elim (a.n x) λw=>.inr (a.h.free w)⟩
section
mutual
theorem IsSh.mono(kp:∀a o,H a=some o->gS o->H' a=some o)(kl:∀a vs,m a->H a=some (.lst vs)->∃vs',H' a=some (.lst vs'))(mm:∀a,m a->m' a):∀{d:D}{v:V},IsSh H m d v->IsSh H' m' d v
 |.gP,_,h=>h
 |.bl _,_,h=>h
 |.int _,_,h=>h
 |.str _,_,h=>h
 |.tup ds,_,h=>by obtain⟨a,vs,e,h1,h2⟩:=h;exact⟨a,vs,e,kp a _ h1 True.intro,IsShs.mono kp kl mm h2⟩
 |.lst ds,_,h=>by obtain⟨a,vs,e,h1,h2⟩:=h;obtain⟨vs',h3⟩:=kl a vs h2 h1;exact⟨a,vs',e,h3,mm a h2⟩
 |.j7 _ _,_,h=>h
theorem IsShs.mono(kp:∀a o,H a=some o->gS o->H' a=some o)(kl:∀a vs,m a->H a=some (.lst vs)->∃vs',H' a=some (.lst vs'))(mm:∀a,m a->m' a):∀{ds:List D}{vs:List V},IsShs H m ds vs->IsShs H' m' ds vs
 |[],_,h=>h
 |d::ds,_,h=>by obtain⟨v,r,e,h1,h2⟩:=h;exact⟨v,r,e,IsSh.mono kp kl mm h1,IsShs.mono kp kl mm h2⟩
end
def jm.mono(mm:∀a,M a->M' a)(h:jm g M fr a):jm g M' fr a:=⟨mm a h.1,h.2⟩
theorem vmsk.mono(mm:∀a,M a->M' a)(h:vmsk g M fr ρ al a):vmsk g M' fr ρ al a:=h.imp (jm.mono mm) id
def Is.ext(e:Ext M H M' H')(h:Is H (vmsk g M fr ρ al) d v):Is H' (vmsk g M' fr ρ al) d v:=h.mono (λa o q _=>e.h a o q) λ_ _ _ z=>z.mono e.m
def IsAll.ext(e:Ext M H M' H')(h:IsAll H (vmsk g M fr ρ al) ds vs):IsAll H' (vmsk g M' fr ρ al) ds vs:=h.mono (λa o q _=>e.h a o q) λ_ _ _ z=>z.mono e.m
theorem SlOk.weak(mm:∀a,M a->M' a)(h:SlOk g M T H v sl):SlOk g M' T H v sl:=by
 cases sl with
 |val d fr=>exact Is.weak (λb z=>jm.mono mm z) h
 |own ds fr=>obtain⟨b,vs,rfl,h1,h2,h4⟩:=h;exact⟨b,vs,rfl,h1,h2,IsAll.weak (λb z=>jm.mono mm z) h4⟩
 |pW d=>exact h
 |Fz d=>exact h
 |pin d=>exact h
 |lz d=>exact h
 |fix n k=>exact h
 |FG a=>exact h
 |FC ks=>exact h
theorem SlOk.same(s:Same H H')(h:SlOk g M T H v sl):SlOk g M T H' v sl:=by
 cases sl with
 |val d fr=>exact Is.same s h
 |own ds fr=>obtain⟨b,vs,rfl,h1,h2,h4⟩:=h;exact⟨b,vs,rfl,s _ _ h1,h2,IsAll.same s h4⟩
 |pW d=>exact Is.same s h
 |Fz d=>exact IsSh.mono (λa o e _=>s a o e) (λa vs _ e=>⟨vs,s _ _ e⟩) (λ_ z=>z) h
 |pin d=>exact⟨Is.same s h.1,h.2⟩
 |lz d=>exact⟨Is.same s h.1,h.2.mono (λa o _ e=>s a o e) λ_ z=>z⟩
 |fix n k=>exact⟨h.1,h.2.mono λa o e _=>s a o e⟩
 |FG a=>exact h
 |FC ks=>exact sT (λa o e _=>s a o e) h
def Rep.FA{T:Addr->Prop}(r:Rep g M ρ env σ H)(ht:∀a,T a->Mu H a/\g.H₀ a=none/\∀i,¬ρ i a):Rep g (λb=>M b\/T b) ρ env σ H where
 same:=r.same
 lA:=λb hb=>hb.elim (r.lA b) λe=>(ht b e).1.some
 w8:=λb hb=>hb.elim (r.w8 b) λe=>.inl (ht b e).2.1
 fl:=λb hb h0=>hb.elim (λz=>r.fl b z h0) λe=>.inl (ht b e).1
 slot:=λi sl e=>by obtain⟨v,ev,s⟩:=r.slot i sl e;exact⟨v,ev,SlOk.weak (λ_=>.inl) s⟩
 ck:=λi a h=>⟨λz=>z.elim (r.ck i a h).1 λz=>(ht a z).2.2 i h,(r.ck i a h).2⟩
 apart:=r.apart
 ow:=r.ow
 len:=r.len
 zz:=r.zz
def Rep.more{a:Addr}(r:Rep g M ρ env σ H)(ha:H a=some (.lst ws))(h0:g.H₀ a=none)(no:∀i,¬ρ i a):Rep g (λb=>M b\/b=a) ρ env σ H:=r.FA λb e=>by subst e;exact⟨Mu.lst ha,h0,no⟩
def Rep.grow(r:Rep g M ρ env σ H)(s:Same H H'):Rep g M ρ env σ H' where
 same:=r.same.trans s
 lA:=λa ha e=>by
  cases q:H a with
  |none=>exact r.lA a ha q
  |some o=>rw[s a o q]at e;cases e
 w8:=r.w8
 fl:=λa ha h0=>(r.fl a ha h0).same λo e=>s a o e
 slot:=λi sl e=>by obtain⟨v,ev,k⟩:=r.slot i sl e;exact⟨v,ev,SlOk.same s k⟩
 ck:=λi a h=>let ⟨a1,a2,a3⟩:=r.ck i a h;⟨a1,a2,a3.same λo e=>s a o e⟩
 apart:=r.apart
 ow:=r.ow
 len:=r.len
 zz:=λa z e=>by
  cases q:H a with
  |none=>exact r.zz a z q
  |some o=>rw[s a o q]at e;cases e
theorem Rep.free(r:Rep g M ρ env σ H)(h:H a=none):g.H₀ a=none/\¬M a/\∀i,¬ρ i a:=by refine⟨r.same.free h,λz=>r.lA a z h,λi o=>?_⟩;exact(r.ck i a o).2.2.some h
def bJ(h:H a=none):Same H (bQ H a o):=λb u e=>by rw[aH (aD e h)];exact e
theorem ROk.is(rep:Rep g M ρ env σ H)(x:Ext M0 H0 M H)(h0:Same g.H₀ H0)(h:ROk g M ρ H0 H v r):∃M',Ext M0 H0 M' H/\(∀a,M a->M' a)/\Rep g M' ρ env σ H/\Is H (vmsk g M' r.fr ρ r.al) r.d v:=by
 cases r with
 |val d fr al=>exact⟨M,x,λ_ z=>z,rep,h⟩
 |new ds fr=>obtain⟨a,vs,rfl,h1,h2,h3,h4,h5⟩:=h;have z0:g.H₀ a=none:=h0.free h3;exact⟨λb=>M b\/b=a,⟨λb z=>.inl (x.m b z),x.h,λb z=>z.elim (x.n b) λe=>.inr (e▸h3)⟩,λ_=>.inl,rep.more h1 z0 h4,a,vs,rfl,.inl ⟨h1,.inl ⟨.inr rfl,λ_=>z0⟩⟩,IsAll.weak (λb z=>.inl (jm.mono (λ_=>.inl) z)) h5⟩
 |sy d=>obtain⟨T,ht,is⟩:=h;exact⟨λb=>M b\/T b,⟨λb z=>.inl (x.m b z),x.h,λb z=>z.elim (x.n b) λe=>.inr (ht b e).2.1⟩,λ_=>.inl,rep.FA λa z=>let ⟨a1,a2,a3,a4⟩:=ht a z;⟨a3,h0.free a2,a4⟩,Is.weak (λb z=>.inl ⟨.inr z,λ_=>h0.free (ht b z).2.1⟩) is⟩
theorem ROk.l6(h:Is H (vmsk g M fr ρ al) d v):ROk g M ρ H0 H v (l6 d fr al):=by
 unfold L3.l6;split
 .exact Is.flat (by assumption) h
 .exact h
def ROk.back(s:Same H1 H0)(h:ROk g M ρ H0 H v r):ROk g M ρ H1 H v r:=by
 cases r with
 |val d fr al=>exact h
 |new ds fr=>obtain⟨a,vs,rfl,h1,h2,h3,h4,h5⟩:=h;exact⟨a,vs,rfl,h1,h2,s.free h3,h4,h5⟩
 |sy d=>obtain⟨T,ht,is⟩:=h;exact⟨T,λa z=>let ⟨a1,a2,a3⟩:=ht a z;⟨a1,s.free a2,a3⟩,is⟩
end
def FJ(mg:Str->Option TB)(E:XK)(g:Gd)(c:Str):Prop:=∀cls dx H',mg c=some cls->Same g.H₀ H'->E cls dx H'
section
variable(mg:Str->Option TB)(E:XK)(g:Gd)(M:Addr->Prop)(ρ:Pr)(env:En)(σ:St)(H:Hp)
def PostE(Q:VK):Res R->Prop
 |.stuck=>False
 |.exc c=>FJ mg E g c
 |.ok r=>∀v M' H',Ext M H M' H'->Rep g M' ρ env σ H'->ROk g M' ρ H H' v r->Q v H'
def bF(rs:List R):Bool:=rs.all R.fr
def cT(rs:List R):List Nat:=rs.flatMap R.al
def PostA(Q:List V->Hp->Prop):Res (List R)->Prop
 |.stuck=>False
 |.exc c=>FJ mg E g c
 |.ok rs=>∀vs M' H',Ext M H M' H'->Rep g M' ρ env σ H'->IsAll H' (vmsk g M' (bF rs) ρ (cT rs)) (rs.map R.d) vs->Q vs H'
noncomputable def PostT(Q:Bool->Hp->Prop):Res Bool->Prop
 |.stuck=>False
 |.exc c=>FJ mg E g c
 |.ok b=>∀M' H',Ext M H M' H'->Rep g M' ρ env σ H'->Q b H'
end
def Snd(mg:Str->Option TB)(E:XK)(t:TE)(f:En->Res R):Prop:=∀g M ρ env σ H Q,Rep g M ρ env σ H->PostE mg E g M ρ env σ H Q (f env)->t σ H Q
def SndA(mg:Str->Option TB)(E:XK)(t:TA)(f:En->Res (List R)):Prop:=∀g M ρ env σ H Q,Rep g M ρ env σ H->PostA mg E g M ρ env σ H Q (f env)->t σ H Q
def SndT(mg:Str->Option TB)(E:XK)(t:TT)(f:En->Res Bool):Prop:=∀g M ρ env σ H Q,Rep g M ρ env σ H->PostT mg E g M ρ env σ H Q (f env)->t σ H Q
def PD(X:Cx)(E:XK)(e:Expr)(f:En->Res R):Prop:=∃t,PE X e t/\Snd X.mg E t f
def y3(X:Cx)(E:XK)(es:List Expr)(f:En->Res (List R)):Prop:=∃t,PA X es t/\SndA X.mg E t f
def Bh(X:Cx)(E:XK)(e:Expr)(f:En->Res Bool):Prop:=∃t,PT X e t/\SndT X.mg E t f
def PWD(X:Cx)(E:XK)(e:Expr)(f:En->Res Bool):Prop:=∃t,PW X e t/\SndT X.mg E t f
theorem PWD.pt(h:PWD X E e f):Bh X E e f:=let ⟨t,a,b⟩:=h;⟨t,a.pt,b⟩
section
def PostE.ext(e:Ext M H M' H')(p:PostE mg E g M ρ env σ H Q r):PostE mg E g M' ρ env σ H' Q r:=by
 cases r with
 |stuck=>exact p
 |exc c=>exact p
 |ok r=>exact λv M2 H2 e2 rep2 ro=>p v M2 H2 (e.trans e2) rep2 (ro.back e.h)
def PostA.ext(e:Ext M H M' H')(p:PostA mg E g M ρ env σ H Q r):PostA mg E g M' ρ env σ H' Q r:=by
 cases r with
 |stuck=>exact p
 |exc c=>exact p
 |ok r=>exact λv M2 H2 e2=>p v M2 H2 (e.trans e2)
def PostT.ext(e:Ext M H M' H')(p:PostT mg E g M ρ env σ H Q r):PostT mg E g M' ρ env σ H' Q r:=by
 cases r with
 |stuck=>exact p
 |exc c=>exact p
 |ok r=>exact λM2 H2 e2=>p M2 H2 (e.trans e2)
def PostE.val(p:PostE mg E g M ρ env σ H Q (.ok (l6 d fr al)))(rep:Rep g M ρ env σ H)(h:Is H (vmsk g M fr ρ al) d v):Q v H:=p v M H (Ext.refl M H) rep (ROk.l6 h)
theorem PostE.new(p:PostE mg E g M ρ env σ H Q (.ok (.new ds fr)))(rep:Rep g M ρ env σ H)(ha:H a=none)(h:IsAll H (jm g M fr) ds vs):Q (.ref a) (bQ H a (.lst vs)):=by have s:Same H (bQ H a (.lst vs)):=bJ ha;obtain⟨h0,hm,ho⟩:=rep.free ha;exact p _ M _ ⟨λ_ z=>z,s,λ_ z=>.inl z⟩ (rep.grow s) ⟨a,vs,rfl,aP,hm,ha,ho,IsAll.same s h⟩
theorem PostE.tup(p:PostE mg E g M ρ env σ H Q (.ok (l6 (.tup ds) fr al)))(rep:Rep g M ρ env σ H)(ha:H a=none)(h:IsAll H (vmsk g M fr ρ al) ds vs):Q (.ref a) (bQ H a (.tup vs)):=by have s:Same H (bQ H a (.tup vs)):=bJ ha;exact p _ M _ ⟨λ_ z=>z,s,λ_ z=>.inl z⟩ (rep.grow s) (ROk.l6 ⟨a,vs,rfl,aP,IsAll.same s h⟩)
def Snd.one{t:TE}{f:En->Res R}(h:Snd mg E t f)(rep:Rep g M ρ env σ H){α:Type}{K:R->Res α}{P:(M:Addr->Prop)->(H:Hp)->Res α->Prop}{Q:VK}
 (hp:P M H ((f env).bind K)) (hs:∀M H,P M H .stuck->False) (hx:∀M H c,P M H (.exc c)->FJ mg E g c) (he:∀M H M' H' r,Ext M H M' H'->P M H r->P M' H' r)
 (k:∀r v M' H',Ext M H M' H'->Rep g M' ρ env σ H'->Is H' (vmsk g M' r.fr ρ r.al) r.d v->P M' H' (K r)->Q v H'):t σ H Q:=by
 refine h g M ρ env σ H Q rep ?_;cases e:f env with
 |stuck=>rw[e]at hp;exact hs _ _ hp
 |exc c=>rw[e]at hp;exact hx _ _ c hp
 |ok r=>rw[e]at hp;intro v M1 H1 e1 rep1 ro;obtain⟨M2,e2,_,rep2,is⟩:=ro.is rep1 e1 rep.same;exact k r v M2 H1 e2 rep2 is (he _ _ _ _ _ e2 hp)
def Snd.iT{f:En->Res R}(h:Snd mg E t f)(rep:Rep g M ρ env σ H){K:R->Res R}(hp:PostE mg E g M ρ env σ H Q' ((f env).bind K))
 (k:∀r v M' H',Ext M H M' H'->Rep g M' ρ env σ H'->Is H' (vmsk g M' r.fr ρ r.al) r.d v->PostE mg E g M' ρ env σ H' Q' (K r)->Q v H'):t σ H Q:=
 h.one rep (P:=λM H r=>PostE mg E g M ρ env σ H Q' r) hp (λ_ _ z=>z) (λ_ _ _ z=>z) (λ_ _ _ _ _ e p=>p.ext e) k
def Snd.Mo{f:En->Res R}(h:Snd mg E t f)(rep:Rep g M ρ env σ H){K:R->Res (List R)}{Q':List V->Hp->Prop}(hp:PostA mg E g M ρ env σ H Q' ((f env).bind K))
 (k:∀r v M' H',Ext M H M' H'->Rep g M' ρ env σ H'->Is H' (vmsk g M' r.fr ρ r.al) r.d v->PostA mg E g M' ρ env σ H' Q' (K r)->Q v H'):t σ H Q:=
 h.one rep (P:=λM H r=>PostA mg E g M ρ env σ H Q' r) hp (λ_ _ z=>z) (λ_ _ _ z=>z) (λ_ _ _ _ _ e p=>p.ext e) k
def Snd.zK{f:En->Res R}(h:Snd mg E t f)(rep:Rep g M ρ env σ H){K:R->Res Bool}{Q':Bool->Hp->Prop}(hp:PostT mg E g M ρ env σ H Q' ((f env).bind K))
 (k:∀r v M' H',Ext M H M' H'->Rep g M' ρ env σ H'->Is H' (vmsk g M' r.fr ρ r.al) r.d v->PostT mg E g M' ρ env σ H' Q' (K r)->Q v H'):t σ H Q:=
 h.one rep (P:=λM H r=>PostT mg E g M ρ env σ H Q' r) hp (λ_ _ z=>z) (λ_ _ _ z=>z) (λ_ _ _ _ _ e p=>p.ext e) k
def Snd.B1{fa fb:En->Res R}(ha:Snd mg E ta fa)(hb:Snd mg E tb fb)(rep:Rep g M ρ env σ H){K:R->R->Res R}{S:V->V->Hp->Prop}
 (hp:PostE mg E g M ρ env σ H Q' ((fa env).bind λra=>(fb env).bind λrb=>K ra rb))
 (k:∀ra rb x y M' H',Rep g M' ρ env σ H'->Is H' (vmsk g M' ra.fr ρ ra.al) ra.d x->Is H' (vmsk g M' rb.fr ρ rb.al) rb.d y->PostE mg E g M' ρ env σ H' Q' (K ra rb)->S x y H') :
 ta σ H λx H1=>tb σ H1 λy H2=>S x y H2:=
 ha.iT rep hp λra x M1 H1 e1 rep1 i1 p1=>hb.iT rep1 p1 λrb y M2 H2 e2 rep2 i2 p2=>k ra rb x y M2 H2 rep2 (i1.ext e2) i2 p2
end
noncomputable def lim:Nat:=1000000
def jR(h:n<=lim):n<=sizeLine:=by rw[SH];unfold lim at h;lia
def nY(h:n<lim):n<sizeLine:=by rw[SH];unfold lim at h;lia
def pU(ds:List D)(fr:Bool)(al:List Nat):R:=if D.aL ds then .new ds true else if al.isEmpty then .new ds fr else .val (.lst ds) fr al
section
def vmsk.nil(h:vmsk g M fr ρ [] a):jm g M fr a:=h.elim id λ⟨_,z,_⟩=>absurd z (by simp)
theorem PostE.lst(p:PostE mg E g M ρ env σ H Q (.ok (pU ds fr al)))(rep:Rep g M ρ env σ H)(ha:H a=none)(h:IsAll H (vmsk g M fr ρ al) ds vs):Q (.ref a) (bQ H a (.lst vs)):=by
 unfold pU at p;by_cases hf:D.aL ds=true
 .rw[dL hf]at p;exact p.new rep ha (IsAll.flat hf h)
 .rw[f7 hf]at p;cases al with
  |nil=>exact PostE.new (p:=p) rep ha (IsAll.weak (λ_ z=>z.nil) h)
  |cons i al=>have p:PostE mg E g M ρ env σ H Q (.ok (.val (.lst ds) fr (i::al))):=p;have s:Same H (bQ H a (.lst vs)):=bJ ha;obtain⟨h0,hm,ho⟩:=rep.free ha;refine p _ (λb=>M b\/b=a) _ ⟨λ_=>.inl,s,λb z=>z.imp id λ(e:b=a)=>by grind⟩ ((rep.grow s).more aP h0 ho) ⟨a,vs,rfl,.inl ⟨aP,.inl ⟨.inr rfl,λ_=>h0⟩⟩,?_⟩;exact(IsAll.same s h).weak λb z=>z.mono λ_=>.inl
def Is.rd(h:Is H m (.lst ds) v):∃a vs,v=.ref a/\Rd H a (.lst vs)/\IsAll H m ds vs:=by obtain⟨a,vs,e,h1,h2⟩:=h;exact⟨a,vs,e,h1.imp (·.1) λ⟨o,z,_⟩=>⟨o,z⟩,h2⟩
end
section
def ak(i:Nat):En->Res R:=λenv=>match env[i]? with
 |some (some (.val d fr))=>.ok (l6 d fr [])
 |some (some (.own ds fr))=>.ok (.val (.lst ds) fr [i])
 |some (some (.pW d))=>.ok (.val d true [i])
 |some (some (.pin d))=>.ok (.val d true [i])
 |some (some (.lz d))=>.ok (.val d true [i])
 |some (some (.fix _ (.tr d)))=>.ok (.val d true [i])
 |some (some (.fix _ (.ds d)))=>.ok (.val d true [i])
 |_=>.stuck
def Aa:Snd mg E (sC i) (ak i):=by
 intro g M ρ env σ H Q rep p;unfold ak at p;cases e1:env[i]? with
 |none=>rw[e1]at p;exact p.elim
 |some o=>
  cases o with
  |none=>rw[e1]at p;exact p.elim
  |some sl=>
   obtain⟨v,ev,k⟩:=rep.slot i sl e1;rw[e1]at p;refine⟨v,ev,?_⟩;cases sl with
   |val d fr=>exact PostE.val p rep (Is.weak (λ_ z=>.inl z) k)
   |own ds fr=>obtain⟨a,vs,rfl,h1,h2,h4⟩:=k;exact p _ M H (Ext.refl M H) rep ⟨a,vs,rfl,.inl ⟨h1,.inr ⟨i,by simp,(h2 a).mpr rfl⟩⟩,IsAll.weak (λ_ z=>.inl z) h4⟩
   |pW d=>exact p _ M H (Ext.refl M H) rep (Is.weak (λa z=>.inr ⟨i,by simp,z⟩) k)
   |Fz d=>exact p.elim
   |pin d=>exact p _ M H (Ext.refl M H) rep (Is.weak (λa z=>.inr ⟨i,by simp,z⟩) k.1)
   |lz d=>exact p _ M H (Ext.refl M H) rep (Is.weak (λa z=>.inr ⟨i,by simp,z⟩) k.1)
   |fix n q0=>
    cases q0 with
    |no=>exact p.elim
    |tr d=>exact p _ M H (Ext.refl M H) rep (Is.weak (λa z=>.inr ⟨i,by simp,z⟩) k.2)
    |ds d=>exact p _ M H (Ext.refl M H) rep (Is.weak (λa z=>.inr ⟨i,by simp,z⟩) k.2.1)
   |FG a=>exact p.elim
   |FC ks=>exact p.elim
def JW(h:PE X e (sC i)):PD X E e (ak i):=⟨_,h,Aa⟩
def vC(d:D):En->Res R:=λ_=>.ok (.val d true [])
def Ab(h:∀H m,Is H m d v):Snd mg E (tC v) (vC d):=λg M ρ env σ H Q rep p=>p v M H (Ext.refl M H) rep (h H _)
def aj{i j pos}:PD X E (.Constant (.int i) j pos) (vC (.int i)):=⟨_,Jj,Ab λ_ _=>rfl⟩
def mh{b j pos}:PD X E (.Constant (.bool b) j pos) (vC (.bl b)):=⟨_,MH,Ab λ_ _=>rfl⟩
def ao{x j pos}:PD X E (.Constant (.str x) j pos) (vC (.str x)):=⟨_,B8,Ab λ_ _=>rfl⟩
def CP{j pos}:PD X E (.Constant .none j pos) (vC .gP):=⟨_,Jk,Ab λ_ _=>rfl⟩
def v2(op:R->R->Res R)(fa fb:En->Res R):En->Res R:=λenv=>(fa env).bind λra=>(fb env).bind λrb=>op ra rb
def oG(X:Cx)(E:XK)(f:TB->TB->Sem TB)(op:R->R->Res R):Prop:=∃r:R2,OpR X f r/\
 ∀g M ρ env σ H Q ra rb x y,Rep g M ρ env σ H->Is H (vmsk g M ra.fr ρ ra.al) ra.d x->Is H (vmsk g M rb.fr ρ rb.al) rb.d y->PostE X.mg E g M ρ env σ H Q (op ra rb)->r x y H Q
def aS(ho:oG X E (binaryOp op) k)(ha:PD X E a fa)(hb:PD X E b fb):PD X E (.BinOp a op b pos) (v2 k fa fb):=by obtain⟨r,h1,h2⟩:=ho;obtain⟨ta,pa,sa⟩:=ha;obtain⟨tb,pb,sb⟩:=hb;exact⟨_,HM h1 pa pb,λg M ρ env σ H Q rep p=>sa.B1 sb rep p λra rb x y M' H' rep' i1 i2 p'=>h2 g M' ρ env σ H' Q ra rb x y rep' i1 i2 p'⟩
def k9(ho:oG X E (compareOp op) k)(ha:PD X E a fa)(hb:PD X E b fb)(hm:behindInMarks op b=false):PD X E (.Compare a [op] [b] pos) (v2 k fa fb):=by obtain⟨r,h1,h2⟩:=ho;obtain⟨ta,pa,sa⟩:=ha;obtain⟨tb,pb,sb⟩:=hb;exact⟨_,zS h1 pa pb hm,λg M ρ env σ H Q rep p=>sa.B1 sb rep p λra rb x y M' H' rep' i1 i2 p'=>h2 g M' ρ env σ H' Q ra rb x y rep' i1 i2 p'⟩
def oI(C:Int->Int->Bool)(k:Int->Int->D)(a b:R):Res R:=match a.d,b.d with
 |.int i,.int j=>if C i j then .ok (.val (k i j) true [])else .stuck
 |_,_=>.stuck
def xr{f:TB->TB->Sem TB}{C:Int->Int->Prop}{kV:Int->Int->V}(c:Int->Int->Bool)(k:Int->Int->D)(ho:OpR X f (rI C kV))(hc:∀i j,c i j=true->C i j)(hk:∀H m i j,Is H m (k i j) (kV i j)):oG X E f (oI c k):=by
 refine⟨_,ho,λg M ρ env σ H Q ra rb x y rep i1 i2 p=>?_⟩;unfold oI at p;cases e1:ra.d with
 |int i=>
  rw[e1]at p i1;cases e2:rb.d with
  |int j=>
   rw[e2]at p i2;cases i1;cases i2;by_cases h:c i j=true
   .simp only[h,Sd]at p;exact⟨i,j,rfl,rfl,hc i j h,p _ M H (Ext.refl M H) rep (hk H _ i j)⟩
   .simp only[h]at p;exact p.elim
  |_=>rw[e2]at p;exact p.elim
 |_=>rw[e1]at p;exact p.elim
def vR{f:TB->TB->Sem TB}{kV:Int->Int->V}(k:Int->Int->D)(ho:OpR X f (HL kV))(hk:∀H m i j,Is H m (k i j) (kV i j)):oG X E f (oI (λ_ _=>true) k):=by refine xr (C:=λ_ _=>True) (kV:=kV) _ k (λag s σ H x y v u Q I rx ry h=>?_) (λ_ _ _=>True.intro) hk;obtain⟨i,j,a,b,_,q⟩:=h;exact ho ag s σ H x y v u Q I rx ry ⟨i,j,a,b,q⟩
def sU:R->R->Res R:=oI (λ_ _=>true) λi j=>.int (i-j)
noncomputable def CQ(i j:Int):Bool:=(decide (-(2^64)<i)&&decide (i<2^64)) ||(decide (-(2^64)<j)&&decide (j<2^64))
def xt:R->R->Res R:=oI CQ λi j=>.int (i*j)
def JX:R->R->Res R:=oI (λ_ j=>decide (0<j)&&decide (j<1073741824)) λi j=>.int (i/j)
def xu:R->R->Res R:=oI (λ_ j=>decide (0<j)) λi j=>.int (i%j)
def nZ:oG X E (binaryOp .Sub) sU:=vR _ Jz λ_ _ _ _=>rfl
def p8:oG X E (binaryOp .Mult) xt:=xr _ _ JA (λi j h=>by simp only[CQ,lV,cH,cI]at h;exact h) λ_ _ _ _=>rfl
def JY:oG X E (binaryOp .FloorDiv) JX:=xr _ _ FW (λi j h=>by simp only[cH,cI]at h;exact h) λ_ _ _ _=>rfl
def p_:oG X E (binaryOp .Mod) xu:=xr _ _ JB (λi j h=>by simpa using h) λ_ _ _ _=>rfl
def PP:R->R->Res R:=oI (λ_ _=>true) λi j=>.bl (decide (i<j))
def uI:R->R->Res R:=oI (λ_ _=>true) λi j=>.bl (decide (i<=j))
def Bi:R->R->Res R:=oI (λ_ _=>true) λi j=>.bl (decide (j<=i))
def HU:oG X E (compareOp .Lt) PP:=vR _ MW λ_ _ _ _=>rfl
def sV:oG X E (compareOp .LtE) uI:=vR _ MX λ_ _ _ _=>rfl
def sW:oG X E (compareOp .GtE) Bi:=vR _ MY λ_ _ _ _=>rfl
def Inv.RA(I:L2.Inv X ag σ H s)(h:Rd H l (.lst xs)) :
 xs.length<=sizeLine/\∃(its:List TB)(n:Nat),Vals xs its/\xs.length=its.length/\s.heap.get? l=some { cls:=.type "list",data:=.seq its.toArray n }:=by
 obtain⟨z,its,n,r,e⟩:=(h.ok I.bP:ObjOk X.prog X.w H s.heap l (.lst xs));exact⟨z,its,n,r,r.length,e⟩
def Nr:R2:=λx y H Q=>∃l b xs zs,x=.ref l/\y=.ref b/\Rd H l (.lst xs)/\Rd H b (.lst zs)/\xs.length+zs.length<=sizeLine/\∀p,H p=none->Q (.ref p) (bQ H p (.lst (xs++zs)))
def op_catS:OpR X (binaryOp .Add) Nr:=by
 intro ag s σ H x y v u Q I rx ry h;obtain⟨l,b,xs,zs,rfl,rfl,hH,hB,hz,q⟩:=h;cases rx;cases ry;obtain⟨z,its,n,r,hl,e⟩:=Inv.RA I hH;obtain⟨z2,its2,n2,r2,hl2,e2⟩:=Inv.RA I hB;refine PySem.P.add_list e e2 ?_ (by grind);have ea:its.toArray++its2.toArray=(its++its2).toArray:=by simp
 rw[ea];exact⟨.ref _,_,I.Mn (t':=s.toks) (r.append r2) (by grind),rfl,q _ I.fresh⟩
def bU(a b:R):Res R:=match a.d,b.d with
 |.int i,.int j=>.ok (.val (.int (i+j)) true [])
 |.lst xs,.lst ys=>if xs.length+ys.length<=lim then .ok (pU (xs++ys) (a.fr&&b.fr) (a.al++b.al))else .stuck
 |.tup xs,.tup ys=>if xs.length+ys.length<=lim/\xs≠[]then .ok (l6 (.tup (xs++ys)) (a.fr&&b.fr) (a.al++b.al))else .stuck
 |.str x,.str y=>if x.length+y.length<=lim then .ok (.val (.str (x++y)) true [])else .stuck
 |_,_=>.stuck
section
def vmsk.l(h:vmsk g M f1 ρ l1 a):vmsk g M (f1&&f2) ρ (l1++l2) a:=h.imp (λz=>⟨z.1,λe=>z.2 (by grind)⟩) λ⟨i,hi,o⟩=>⟨i,by simp[hi],o⟩
def vmsk.r(h:vmsk g M f2 ρ l2 a):vmsk g M (f1&&f2) ρ (l1++l2) a:=h.imp (λz=>⟨z.1,λe=>z.2 (by grind)⟩) λ⟨i,hi,o⟩=>⟨i,by simp[hi],o⟩
end
def aW:oG X E (binaryOp .Add) bU:=by
 refine⟨_,op_add.or (op_catS.or (op_catT.or yR)),λg M ρ env σ H Q ra rb x y rep i1 i2 p=>?_⟩;unfold bU at p;cases e1:ra.d with
 |int i=>
  rw[e1]at p i1;cases e2:rb.d with
  |int j=>rw[e2]at p i2;cases i1;cases i2;exact .inl ⟨i,j,rfl,rfl,p _ M H (Ext.refl M H) rep rfl⟩
  |_=>rw[e2]at p;exact p.elim
 |lst xs=>
  rw[e1]at p i1;cases e2:rb.d with
  |lst ys=>
   rw[e2]at p i2;obtain⟨a,vs,rfl,h1,h2⟩:=i1.rd;obtain⟨b,ws,rfl,h3,h4⟩:=i2.rd;by_cases hz:xs.length+ys.length<=lim
   .simp only[hz,Sd]at p;refine .inr (.inl ⟨a,b,vs,ws,rfl,rfl,h1,h3,by rw[h2.length,h4.length];exact jR hz,λq hq=>?_⟩);exact p.lst rep hq ((h2.weak λ_ z=>z.l).append (h4.weak λ_ z=>z.r))
   .simp only[hz,Sj]at p;exact p.elim
  |_=>rw[e2]at p;exact p.elim
 |tup xs=>
  rw[e1]at p i1;cases e2:rb.d with
  |tup ys=>
   rw[e2]at p i2;obtain⟨a,vs,rfl,h1,h2⟩:=i1;obtain⟨b,ws,rfl,h3,h4⟩:=i2;dsimp only at p;by_cases hz:xs.length+ys.length<=lim/\xs≠[]
   .rw[dL hz]at p;have n1:vs≠[]:=λz=>hz.2 (by have:=h2.length;rw[z]at this;exact SW this.symm);refine .inr (.inr (.inl ⟨a,b,vs,ws,rfl,rfl,SqT.of h1,SqT.of h3,n1,by rw[h2.length,h4.length];exact jR hz.1,λz=>?_,λ_ q hq=>?_⟩))
    .have ey:ys=[]:=by have:=h4.length;rw[z]at this;exact SW this.symm
     rw[ey,lT]at p;exact p.val rep (Is.weak (d:=.tup xs) (λ_ z=>z.l) ⟨a,vs,rfl,h1,h2⟩)
    .exact p.tup rep hq ((h2.weak λ_ z=>z.l).append (h4.weak λ_ z=>z.r))
   .rw[f7 hz]at p;exact p.elim
  |_=>rw[e2]at p;exact p.elim
 |str xs=>
  rw[e1]at p i1;cases e2:rb.d with
  |str ys=>
   rw[e2]at p i2;cases i1;cases i2;by_cases hz:xs.length+ys.length<=lim
   .simp only[hz,Sd]at p;exact .inr (.inr (.inr ⟨xs,ys,rfl,rfl,jR hz,p _ M H (Ext.refl M H) rep rfl⟩))
   .simp only[hz,Sj]at p;exact p.elim
  |_=>rw[e2]at p;exact p.elim
 |_=>rw[e1]at p;exact p.elim
def ga(a b:R):Res R:=if a.d.dep<=50/\b.d.dep<=50 then .ok (.val (.bl (dq a.d b.d)) true [])else .stuck
def rY(a b:R):Res R:=if a.d.dep<=50/\b.d.dep<=50 then .ok (.val (.bl (!dq a.d b.d)) true [])else .stuck
def Qx:R2:=λx y H Q=>∃d e m m',Is H m d x/\Is H m' e y/\(d.dep<=50/\e.dep<=50)/\Q (.bl (dq d e)) H
def Qy:R2:=λx y H Q=>∃d e m m',Is H m d x/\Is H m' e y/\(d.dep<=50/\e.dep<=50)/\Q (.bl (!dq d e)) H
def JZ(hu:X.A.units+64<cLine):OpR X (compareOp .Eq) Qx:=by intro ag s σ H x y v u Q I rx ry h;obtain⟨d,e,m,m',h1,h2,hd,q⟩:=h;exact Gf I.bP (by lia) (CO I.bP (A:=X.A) (n:=50) (by lia) (by lia)) hd.1 (by lia) (by lia) h1 h2 rx ry X.prog X.w X.xe _ ⟨.bl _,H,I,rfl,q⟩
def J0(hu:X.A.units+64<cLine):OpR X (compareOp .NotEq) Qy:=by intro ag s σ H x y v u Q I rx ry h;obtain⟨d,e,m,m',h1,h2,hd,q⟩:=h;exact Gg I.bP (by lia) (CO I.bP (A:=X.A) (n:=50) (by lia) (by lia)) hd.1 (by lia) (by lia) h1 h2 rx ry X.prog X.w X.xe _ ⟨.bl _,H,I,rfl,q⟩
def bz(hu:X.A.units+64<cLine):oG X E (compareOp .Eq) ga:=by
 refine⟨_,JZ hu,λg M ρ env σ H Q ra rb x y rep i1 i2 p=>?_⟩;unfold ga at p;by_cases h:ra.d.dep<=50/\rb.d.dep<=50
 .rw[dL h]at p;exact⟨_,_,_,_,i1,i2,h,p _ M H (Ext.refl M H) rep rfl⟩
 .rw[f7 h]at p;exact p.elim
def iG(hu:X.A.units+64<cLine):oG X E (compareOp .NotEq) rY:=by
 refine⟨_,J0 hu,λg M ρ env σ H Q ra rb x y rep i1 i2 p=>?_⟩;unfold rY at p;by_cases h:ra.d.dep<=50/\rb.d.dep<=50
 .rw[dL h]at p;exact⟨_,_,_,_,i1,i2,h,p _ M H (Ext.refl M H) rep rfl⟩
 .rw[f7 h]at p;exact p.elim
end
section
variable{X:Cx}
def J1(fa:En->Res R):En->Res R:=λenv=>(fa env).bind λra=>match ra.d with
 |.bl b=>.ok (.val (.bl (!b)) true [])
 |_=>.stuck
def CS(fa fb:En->Res R):En->Res R:=λenv=>(fa env).bind λra=>match ra.d with
 |.bl true=>fb env
 |.bl false=>.ok (.val (.bl false) true [])
 |_=>.stuck
def Qz(fa fb:En->Res R):En->Res R:=λenv=>(fa env).bind λra=>match ra.d with
 |.bl true=>.ok (.val (.bl true) true [])
 |.bl false=>fb env
 |_=>.stuck
def J2(ha:PD X E a fa):PD X E (.UnaryOp .Not a pos) (J1 fa):=by
 obtain⟨ta,pa,sa⟩:=ha;refine⟨_,Jq pa,λg M ρ env σ H Q rep p=>sa.iT rep p λr v M' H' e rep' i p'=>?_⟩;cases q:r.d with
 |bl b=>rw[q]at i;simp only[q]at p';cases i;exact⟨b,rfl,p' _ M' H' (Ext.refl _ _) rep' rfl⟩
 |_=>simp only[q]at p';exact p'.elim
def vS(ha:PD X E a fa):PD X E (.BoolOp op [a] pos) fa:=let ⟨t,pa,sa⟩:=ha;⟨t,Jo pa,sa⟩
def y6{bd:List Expr}{fa fb:En->Res R}{pos:Pos}(ha:PD X E a fa)(hb:PD X E (.BoolOp .And (b::bd) pos) fb):PD X E (.BoolOp .And (a::b::bd) pos) (CS fa fb):=by
 obtain⟨ta,pa,sa⟩:=ha;obtain⟨tb,pb,sb⟩:=hb;refine⟨_,Jp pa pb,λg M ρ env σ H Q rep p=>sa.iT rep p λr v M' H' e rep' i p'=>?_⟩;cases q:r.d with
 |bl b=>
  rw[q]at i;simp only[q]at p';cases i;refine⟨b,rfl,?_⟩;cases b with
  |true=>exact uE (sb g M' ρ env σ H' Q rep' p')
  |false=>exact vN (p' _ M' H' (Ext.refl _ _) rep' rfl)
 |_=>simp only[q]at p';exact p'.elim
def Nt{bd:List Expr}{fa fb:En->Res R}{pos:Pos}(ha:PD X E a fa)(hb:PD X E (.BoolOp .Or (b::bd) pos) fb):PD X E (.BoolOp .Or (a::b::bd) pos) (Qz fa fb):=by
 obtain⟨ta,pa,sa⟩:=ha;obtain⟨tb,pb,sb⟩:=hb;refine⟨_,ML pa pb,λg M ρ env σ H Q rep p=>sa.iT rep p λr v M' H' e rep' i p'=>?_⟩;cases q:r.d with
 |bl b=>
  rw[q]at i;simp only[q]at p';cases i;refine⟨b,rfl,?_⟩;cases b with
  |true=>exact uE (p' _ M' H' (Ext.refl _ _) rep' rfl)
  |false=>exact vN (sb g M' ρ env σ H' Q rep' p')
 |_=>simp only[q]at p';exact p'.elim
def HV:D->Res Bool
 |.gP=>.ok false
 |.bl b=>.ok b
 |.int i=>.ok (i != 0)
 |.str y=>if y.length<=lim then .ok ((y.length:Int) != 0)else .stuck
 |.tup ds=>.ok (!ds.isEmpty)
 |.lst ds=>.ok (!ds.isEmpty)
 |.j7 _ _=>.stuck
theorem Is.HV(h:Is H m d v)(e:HV d=.ok k):JE X.K v H k:=by
 cases d with
 |gP=>cases h;cases e;rfl
 |bl b=>cases h;cases e;rfl
 |int b=>cases h;cases e;rfl
 |str b=>
  cases h;unfold L3.HV at e;dsimp only at e;by_cases hl:b.length<=lim
  .rw[dL hl]at e;cases e;exact⟨jR hl,rfl⟩
  .rw[f7 hl]at e;cases e
 |tup ds=>obtain⟨a,vs,rfl,h1,h2⟩:=h;cases e;refine .inr (.inl ⟨vs,SqT.of h1,?_⟩);have:=h2.length;cases ds<;>cases vs<;>simp_all
 |lst ds=>obtain⟨a,vs,rfl,h1,h2⟩:=h.rd;cases e;refine .inl ⟨vs,.inl h1,?_⟩;have:=h2.length;cases ds<;>cases vs<;>simp_all
 |j7 ks ds=>cases e
def k_(fa:En->Res R):En->Res Bool:=λenv=>(fa env).bind λra=>HV ra.d
def fw(ha:PD X E a fa)(he:autoParam (∀whole,isTrue a X.env whole=(do let v <- whole;standAt a.pos;holding [v] (truthy v))) TU):Bh X E a (k_ fa):=by
 obtain⟨ta,pa,sa⟩:=ha;refine⟨_,Cd pa he,λg M ρ env σ H Q rep p=>sa.zK rep p λr v M' H' e rep' i p'=>?_⟩;cases q:HV r.d with
 |stuck=>rw[q]at p';exact p'.elim
 |exc c=>
  exfalso;unfold HV at q
  grind
 |ok k=>rw[q]at p';exact⟨k,i.HV q,p' M' H' (Ext.refl _ _) rep'⟩
def vB(fa:En->Res R):En->Res Bool:=λenv=>(fa env).bind λra=>match ra.d with
 |.bl b=>.ok b
 |_=>.stuck
def ax(ho:oG X E (compareOp op) k)(ha:PD X E a fa)(hb:PD X E b fb)(hm:behindInMarks op b=false):Bh X E (.Compare a [op] [b] pos) (vB (v2 k fa fb)):=by
 obtain⟨r,h1,h2⟩:=ho;obtain⟨ta,pa,sa⟩:=ha;obtain⟨tb,pb,sb⟩:=hb;have S:Snd X.mg E (Mt r ta tb) (v2 k fa fb):=λg M ρ env σ H Q rep p=>sa.B1 sb rep p λra rb x y M' H' rep' i1 i2 p'=>h2 g M' ρ env σ H' Q ra rb x y rep' i1 i2 p';refine⟨_,FX h1 pa pb hm,λg M ρ env σ H Q rep p=>S.zK rep p λr v M' H' e rep' i p'=>?_⟩;cases q:r.d with
 |bl b=>rw[q]at i;simp only[q]at p';cases i;exact⟨b,rfl,p' M' H' (Ext.refl _ _) rep'⟩
 |_=>simp only[q]at p';exact p'.elim
def nk(fa:En->Res Bool):En->Res Bool:=λenv=>(fa env).bind λb=>.ok (!b)
def h_(fa fb:En->Res Bool):En->Res Bool:=λenv=>(fa env).bind λb=>if b then fb env else .ok false
def rZ(fa fb:En->Res Bool):En->Res Bool:=λenv=>(fa env).bind λb=>if b then .ok true else fb env
section
def SndT.zK{f:En->Res Bool}(h:SndT mg E t f)(rep:Rep g M ρ env σ H){K:Bool->Res Bool}{Q':Bool->Hp->Prop}{Q:Bool->Hp->Prop}(hp:PostT mg E g M ρ env σ H Q' ((f env).bind K))
 (k:∀b M' H',Ext M H M' H'->Rep g M' ρ env σ H'->PostT mg E g M' ρ env σ H' Q' (K b)->Q b H'):t σ H Q:=by
 refine h g M ρ env σ H Q rep ?_;cases e:f env with
 |stuck=>rw[e]at hp;exact hp
 |exc c=>rw[e]at hp;exact hp
 |ok b=>rw[e]at hp;exact λM1 H1 e1 rep1=>k b M1 H1 e1 rep1 (PostT.ext e1 hp)
def SndT.iT{f:En->Res Bool}(h:SndT mg E t f)(rep:Rep g M ρ env σ H){K:Bool->Res R}{Q:Bool->Hp->Prop}(hp:PostE mg E g M ρ env σ H Q' ((f env).bind K))
 (k:∀b M' H',Ext M H M' H'->Rep g M' ρ env σ H'->PostE mg E g M' ρ env σ H' Q' (K b)->Q b H'):t σ H Q:=by
 refine h g M ρ env σ H Q rep ?_;cases e:f env with
 |stuck=>rw[e]at hp;exact hp
 |exc c=>rw[e]at hp;exact hp
 |ok b=>rw[e]at hp;exact λM1 H1 e1 rep1=>k b M1 H1 e1 rep1 (PostE.ext e1 hp)
end
def eV(ha:Bh X E a fa):Bh X E (.UnaryOp .Not a pos) (nk fa):=by obtain⟨ta,pa,sa⟩:=ha;exact⟨_,Jn pa,λg M ρ env σ H Q rep p=>sa.zK rep p λb M' H' e rep' p'=>p' M' H' (Ext.refl _ _) rep'⟩
def d4(ha:Bh X E a fa):PWD X E (.BoolOp .And [a] pos) fa:=let ⟨t,pa,sa⟩:=ha;⟨t,FS pa,sa⟩
def dP(ha:Bh X E a fa):PWD X E (.BoolOp .Or [a] pos) fa:=let ⟨t,pa,sa⟩:=ha;⟨t,Jl pa,sa⟩
def eY{bd:List Expr}{fa fb:En->Res Bool}{pos:Pos}(ha:Bh X E a fa)(hb:PWD X E (.BoolOp .And (b::bd) pos) fb):PWD X E (.BoolOp .And (a::b::bd) pos) (h_ fa fb):=by
 obtain⟨ta,pa,sa⟩:=ha;obtain⟨tb,pb,sb⟩:=hb;refine⟨_,Jm pa pb,λg M ρ env σ H Q rep p=>sa.zK rep p λb M' H' e rep' p'=>?_⟩;cases b with
 |true=>exact uE (sb g M' ρ env σ H' Q rep' p')
 |false=>exact vN (p' M' H' (Ext.refl _ _) rep')
def dQ{bd:List Expr}{fa fb:En->Res Bool}{pos:Pos}(ha:Bh X E a fa)(hb:PWD X E (.BoolOp .Or (b::bd) pos) fb):PWD X E (.BoolOp .Or (a::b::bd) pos) (rZ fa fb):=by
 obtain⟨ta,pa,sa⟩:=ha;obtain⟨tb,pb,sb⟩:=hb;refine⟨_,MI pa pb,λg M ρ env σ H Q rep p=>sa.zK rep p λb M' H' e rep' p'=>?_⟩;cases b with
 |true=>exact uE (p' M' H' (Ext.refl _ _) rep')
 |false=>exact vN (sb g M' ρ env σ H' Q rep' p')
def PQ(fc:En->Res Bool)(fa fb:En->Res R):En->Res R:=λenv=>(fc env).bind λb=>if b then fa env else fb env
def Nu(hc:Bh X E c fc)(ha:PD X E a fa)(hb:PD X E b fb):PD X E (.IfExp c a b pos) (PQ fc fa fb):=by
 obtain⟨tc,pc,sc⟩:=hc;obtain⟨ta,pa,sa⟩:=ha;obtain⟨tb,pb,sb⟩:=hb;refine⟨_,B9 pc pa pb,λg M ρ env σ H Q rep p=>sc.iT rep p λb M' H' e rep' p'=>?_⟩;cases b with
 |true=>exact uE (sa g M' ρ env σ H' Q rep' p')
 |false=>exact vN (sb g M' ρ env σ H' Q rep' p')
def l7(a b:R):Res R:=match a.d,b.d with
 |.lst xs,.int i=>match bI xs i with
  |some d=>.ok (l6 d a.fr a.al)
  |none=>.stuck
 |.tup xs,.int i=>match bI xs i with
  |some d=>.ok (l6 d a.fr a.al)
  |none=>.stuck
 |.str z,.int i=>if z.length<=lim then(match bI z.cps.toList i with
  |some c=>.ok (.val (.str ⟨#[c]⟩) true [])
  |none=>.stuck)else .stuck
 |_,_=>.stuck
theorem IsAll.bI(h:IsAll H m ds vs)(e:L2.bI ds i=some d):∃v,L2.bI vs i=some v/\Is H m d v:=by
 unfold L2.bI at e ⊢;rw[h.length];cases q:pZ ds.length i with
 |none=>rw[q]at e;cases e
 |some j=>rw[q]at e;exact h.get e
def HW:∃r:R2,IxR X r/\∀g M ρ env σ H Q ra rb x y,Rep g M ρ env σ H->Is H (vmsk g M ra.fr ρ ra.al) ra.d x->Is H (vmsk g M rb.fr ρ rb.al) rb.d y->PostE X.mg E g M ρ env σ H Q (l7 ra rb)->r x y H Q:=by
 refine⟨_,JL,λg M ρ env σ H Q ra rb x y rep i1 i2 p=>?_⟩;unfold l7 at p;cases e1:ra.d with
 |lst xs=>
  rw[e1]at p i1;cases e2:rb.d with
  |int i=>
   rw[e2]at p i2;cases i2;obtain⟨a,vs,rfl,h1,h2⟩:=i1.rd;cases q:bI xs i with
   |none=>simp only[q]at p;exact p.elim
   |some d=>simp only[q]at p;obtain⟨v,ev,iv⟩:=h2.bI q;exact .inl ⟨a,vs,i,v,rfl,rfl,.inl h1,ev,p.val rep iv⟩
  |_=>rw[e2]at p;exact p.elim
 |tup xs=>
  rw[e1]at p i1;cases e2:rb.d with
  |int i=>
   rw[e2]at p i2;cases i2;obtain⟨a,vs,rfl,h1,h2⟩:=i1;cases q:bI xs i with
   |none=>simp only[q]at p;exact p.elim
   |some d=>simp only[q]at p;obtain⟨v,ev,iv⟩:=h2.bI q;exact .inr (.inl ⟨a,vs,i,v,rfl,rfl,SqT.of h1,ev,p.val rep iv⟩)
  |_=>rw[e2]at p;exact p.elim
 |str z=>
  rw[e1]at p i1;cases e2:rb.d with
  |int i=>
   rw[e2]at p i2;cases i1;cases i2;by_cases hz:z.length<=lim
   .simp only[hz,Sd]at p;cases q:bI z.cps.toList i with
    |none=>simp only[q]at p;exact p.elim
    |some c=>simp only[q]at p;exact .inr (.inr ⟨z,i,c,rfl,rfl,jR hz,q,p _ M H (Ext.refl _ _) rep rfl⟩)
   .simp only[hz,Sj]at p;exact p.elim
  |_=>rw[e2]at p;exact p.elim
 |_=>rw[e1]at p;exact p.elim
def gE(ha:PD X E a fa)(hb:PD X E b fb)(hs:rW b):PD X E (.Subscript a b pos) (v2 l7 fa fb):=by obtain⟨r,h1,h2⟩:=HW (X:=X) (E:=E);obtain⟨ta,pa,sa⟩:=ha;obtain⟨tb,pb,sb⟩:=hb;exact⟨_,Ci h1 pa pb hs,λg M ρ env σ H Q rep p=>sa.B1 sb rep p λra rb x y M' H' rep' i1 i2 p'=>h2 g M' ρ env σ H' Q ra rb x y rep' i1 i2 p'⟩
def aR(i:Nat)(fb:En->Res R):En->Res R:=λenv=>match env[i]? with
 |some (some (.own ds fr))=>(fb env).bind λrb=>match rb.d with
  |.int k=>match bI ds k with
   |some d=>.ok (l6 d fr [])
   |none=>.stuck
  |_=>.stuck
 |_=>v2 l7 (ak i) fb env
def aE(ha:PE X a (sC i))(hb:PD X E b fb)(hs:rW b):PD X E (.Subscript a b pos) (aR i fb):=by
 obtain⟨r,h1,h2⟩:=HW (X:=X) (E:=E);obtain⟨tb,pb,sb⟩:=hb;refine⟨_,Ci (ix_list.or h1) ha pb hs,λg M ρ env σ H Q rep p=>?_⟩;have gen:PostE X.mg E g M ρ env σ H Q (v2 l7 (ak i) fb env)->Mt (λx y H Q=>JJ X.K x y H Q\/r x y H Q) (sC i) tb σ H Q:=λp=>Snd.B1 Aa sb rep p λra rb x y M' H' rep' i1 i2 p'=>.inr (h2 g M' ρ env σ H' Q ra rb x y rep' i1 i2 p');unfold aR at p;cases e1:env[i]? with
 |none=>rw[e1]at p;exact gen p
 |some o=>
  cases o with
  |none=>rw[e1]at p;exact gen p
  |some sl=>
   cases sl with
   |val d fr=>rw[e1]at p;exact gen p
   |pW d=>rw[e1]at p;exact gen p
   |Fz d=>rw[e1]at p;exact gen p
   |pin d=>rw[e1]at p;exact gen p
   |lz d=>rw[e1]at p;exact gen p
   |fix n q0=>rw[e1]at p;exact gen p
   |FG a=>rw[e1]at p;exact gen p
   |FC ks=>rw[e1]at p;exact gen p
   |own ds fr=>
    rw[e1]at p;obtain⟨v,ev,a,vs,rfl,k1,k2,k4⟩:=rep.slot i _ e1;refine⟨_,ev,sb.iT rep p λrb y M' H' e rep' i2 p'=>?_⟩;cases q:rb.d with
    |int k=>
     rw[q]at i2;simp only[q]at p';cases i2;cases q2:bI ds k with
     |none=>simp only[q2]at p';exact p'.elim
     |some d=>simp only[q2]at p';have k5:IsAll H' (vmsk g M' fr ρ []) ds vs:=(IsAll.weak (λ_ z=>.inl z) k4:IsAll H (vmsk g M fr ρ []) ds vs).ext e;obtain⟨w,ew,iw⟩:=k5.bI q2;exact .inl ⟨a,vs,k,w,rfl,rfl,.inl (.inl (e.h _ _ k1)),ew,p'.val rep' iw⟩
    |_=>simp only[q]at p';exact p'.elim
end
section
def SndA.one{t:TA}{f:En->Res (List R)}(h:SndA mg E t f)(rep:Rep g M ρ env σ H){α:Type}{K:List R->Res α}{P:(M:Addr->Prop)->(H:Hp)->Res α->Prop}{Q:List V->Hp->Prop}
 (hp:P M H ((f env).bind K)) (hs:∀M H,P M H .stuck->False) (hx:∀M H c,P M H (.exc c)->FJ mg E g c) (he:∀M H M' H' r,Ext M H M' H'->P M H r->P M' H' r)
 (k:∀rs vs M' H',Ext M H M' H'->Rep g M' ρ env σ H'->IsAll H' (vmsk g M' (bF rs) ρ (cT rs)) (rs.map R.d) vs->P M' H' (K rs)->Q vs H'):t σ H Q:=by
 refine h g M ρ env σ H Q rep ?_;cases e:f env with
 |stuck=>rw[e]at hp;exact hs _ _ hp
 |exc c=>rw[e]at hp;exact hx _ _ c hp
 |ok r=>rw[e]at hp;exact λvs M1 H1 e1 rep1 is=>k r vs M1 H1 e1 rep1 is (he _ _ _ _ _ e1 hp)
def SndA.iT{f:En->Res (List R)}(h:SndA mg E t f)(rep:Rep g M ρ env σ H){K:List R->Res R}{Q:List V->Hp->Prop}(hp:PostE mg E g M ρ env σ H Q' ((f env).bind K))
 (k:∀rs vs M' H',Ext M H M' H'->Rep g M' ρ env σ H'->IsAll H' (vmsk g M' (bF rs) ρ (cT rs)) (rs.map R.d) vs->PostE mg E g M' ρ env σ H' Q' (K rs)->Q vs H'):t σ H Q:=
 h.one rep (P:=λM H r=>PostE mg E g M ρ env σ H Q' r) hp (λ_ _ z=>z) (λ_ _ _ z=>z) (λ_ _ _ _ _ e p=>p.ext e) k
def SndA.Mo{f:En->Res (List R)}(h:SndA mg E t f)(rep:Rep g M ρ env σ H){K:List R->Res (List R)}{Q':List V->Hp->Prop}{Q:List V->Hp->Prop}(hp:PostA mg E g M ρ env σ H Q' ((f env).bind K))
 (k:∀rs vs M' H',Ext M H M' H'->Rep g M' ρ env σ H'->IsAll H' (vmsk g M' (bF rs) ρ (cT rs)) (rs.map R.d) vs->PostA mg E g M' ρ env σ H' Q' (K rs)->Q vs H'):t σ H Q:=
 h.one rep (P:=λM H r=>PostA mg E g M ρ env σ H Q' r) hp (λ_ _ z=>z) (λ_ _ _ z=>z) (λ_ _ _ _ _ e p=>p.ext e) k
def IsAll.args(h1:Is H (vmsk g M r.fr ρ r.al) r.d v)(h2:IsAll H (vmsk g M (bF rs) ρ (cT rs)) (rs.map R.d) vs) :
 IsAll H (vmsk g M (bF (r::rs)) ρ (cT (r::rs))) ((r::rs).map R.d) (v::vs):=by
 refine⟨v,vs,rfl,h1.weak λa z=>?_,h2.weak λa z=>?_⟩
 .exact(z.l:vmsk g M (r.fr&&bF rs) ρ (r.al++cT rs) a)
 .exact(z.r:vmsk g M (r.fr&&bF rs) ρ (r.al++cT rs) a)
end
section
noncomputable def au:En->Res (List R):=λ_=>.ok []
def ac(f:En->Res R)(fs:En->Res (List R)):En->Res (List R):=λenv=>(f env).bind λr=>(fs env).bind λrs=>.ok (r::rs)
def ah:y3 X E [] au:=⟨_,jl,λg M ρ env σ H Q rep p=>p [] M H (Ext.refl _ _) rep rfl⟩
def aa(he:PD X E e f)(hr:y3 X E es fs)(hs:autoParam (starEach (e::es) X.env=(false,eval e X.env)::starEach es X.env) TV):y3 X E (e::es) (ac f fs):=by obtain⟨t,p1,s1⟩:=he;obtain⟨u,p2,s2⟩:=hr;refine⟨_,gR p1 p2 hs,λg M ρ env σ H Q rep p=>s1.Mo rep p λr v M1 H1 e1 rep1 i1 q1=>s2.Mo rep1 q1 λrs vs M2 H2 e2 rep2 i2 q2=>?_⟩;exact q2 (v::vs) M2 H2 (Ext.refl _ _) rep2 (IsAll.args (i1.ext e2) i2)
def gg(fs:En->Res (List R)):En->Res R:=λenv=>(fs env).bind λrs=>if rs.length<=lim then .ok (l6 (.tup (rs.map R.d)) (bF rs) (cT rs))else .stuck
def cq(h:y3 X E es fs):PD X E (.Tuple es k pos) (gg fs):=by
 obtain⟨t,p1,s1⟩:=h;refine⟨_,JG p1,λg M ρ env σ H Q rep p=>s1.iT rep p λrs vs M1 H1 e1 rep1 i1 q1=>?_⟩;by_cases hl:rs.length<=lim
 .rw[dL hl]at q1;exact⟨by rw[i1.length,cc];exact jR hl,λa ha=>q1.tup rep1 ha i1⟩
 .rw[f7 hl]at q1;exact q1.elim
def dt(fs:En->Res (List R)):En->Res R:=λenv=>(fs env).bind λrs=>if rs.length<=lim then .ok (pU (rs.map R.d) (bF rs) (cT rs))else .stuck
def bx(h:y3 X E es fs):PD X E (.List es pos) (dt fs):=by
 obtain⟨t,p1,s1⟩:=h;refine⟨_,yS p1,λg M ρ env σ H Q rep p=>s1.iT rep p λrs vs M1 H1 e1 rep1 i1 q1=>?_⟩;by_cases hl:rs.length<=lim
 .rw[dL hl]at q1;exact⟨by rw[i1.length,cc];exact jR hl,λa ha=>q1.lst rep1 ha i1⟩
 .rw[f7 hl]at q1;exact q1.elim
end
def nl(H0 H':Hp)(a:Addr):Prop:=H0 a=none/\Mu H' a
def RetOk(g:Gd)(H':Hp)(v:V):R->Prop
 |.val d fr _=>Is H' (λa=>nl g.H₀ H' a\/(fr=false/\g.Ma a)) d v
 |.new ds fr=>∃a vs,v=.ref a/\H' a=some (.lst vs)/\g.H₀ a=none/\IsAll H' (λb=>b≠a/\(nl g.H₀ H' b\/(fr=false/\g.Ma b))) ds vs
 |.sy d=>Is H' (nl g.H₀ H') d v
def Nv(mg:Str->Option TB)(E:XK)(g:Gd)(Q:VK):Res R->Prop
 |.stuck=>False
 |.exc c=>FJ mg E g c
 |.ok r=>∀v H',Same g.H₀ H'->RetOk g H' v r->Q v H'
def lE(mg:Str->Option TB)(n:Nat)(F:List D->Res R):Sp:=λvs H Q E=>vs.length=n/\∃ds Ma,IsAll H Ma ds vs/\Nv mg E (Nq H Ma) Q (F ds)
def HX(d:D)(fr:Bool)(rs:List R):R:=if d.flat then .val d true []else if fr then .sy d else .val d (bF rs) (cT rs)
def j9(rs:List R):R->R
 |.val d fr _=>HX d fr rs
 |.new ds fr=>if D.aL ds then .new ds true else if fr then .sy (.lst ds)else if(cT rs).isEmpty then .new ds (bF rs)else .val (.lst ds) (bF rs) (cT rs)
 |.sy d=>HX d true rs
section
def Rep.came(rep:Rep g M ρ env σ H)(s:Same H H')(p:Addr->Prop):Rep g (λa=>M a\/(nl H H' a/\p a)) ρ env σ H':=(rep.grow s).FA λa z=>⟨z.1.2,rep.same.free z.1.1,(rep.free z.1.1).2.2⟩
def CT(rs:List R)(rep:Rep g M ρ env σ H)(s:Same H H')(h:Is H' (λa=>nl H H' a\/(fr=false/\vmsk g M (bF rs) ρ (cT rs) a)) d v) :
 ∃M',Ext M H M' H'/\Rep g M' ρ env σ H'/\ROk g M' ρ H H' v (HX d fr rs):=by
 unfold HX;by_cases hf:d.flat=true
 .rw[dL hf];exact⟨M,⟨λ_ z=>z,s,λ_ z=>.inl z⟩,rep.grow s,Is.flat hf h⟩
 .rw[f7 hf];cases fr with
  |true=>
   refine⟨M,⟨λ_ z=>z,s,λ_ z=>.inl z⟩,rep.grow s,nl H H',λa z=>?_,?_⟩
   .exact⟨λw=>rep.lA a w z.1,z.1,z.2,(rep.free z.1).2.2⟩
   .exact Is.weak (λa z=>z.elim id λw=>by cases w.1) h
  |false=>
   refine⟨_,⟨λ_=>.inl,s,λ_ z=>z.imp id (·.1.1)⟩,rep.came s λ_=>True,?_⟩;refine Is.weak (λa z=>?_) h;rcases z with z|⟨_,z⟩
   .exact .inl ⟨.inr ⟨z,True.intro⟩,λ_=>rep.same.free z.1⟩
   .exact z.mono λ_=>.inl
def RetOk.caller(rs:List R)(rep:Rep g M ρ env σ H)(s:Same H H')(h:RetOk (Nq H (vmsk g M (bF rs) ρ (cT rs))) H' v r) :
 ∃M',Ext M H M' H'/\Rep g M' ρ env σ H'/\ROk g M' ρ H H' v (j9 rs r):=by
 cases r with
 |val d fr al=>exact CT rs rep s h
 |sy d=>exact CT rs rep s (Is.weak (λa z=>.inl z) h)
 |new ds fr=>
  obtain⟨a,vs,rfl,h1,h2,h3⟩:=h;have h2:H a=none:=h2;obtain⟨f0,f1,f2⟩:=rep.free h2;have R1:Rep g (λb=>M b\/(nl H H' b/\b≠a)) ρ env σ H':=rep.came s λb=>b≠a;have nm:¬(M a\/(nl H H' a/\a≠a)):=λz=>z.elim f1 λz=>z.2 rfl;have X1:Ext M H (λb=>M b\/(nl H H' b/\b≠a)) H':=⟨λ_=>.inl,s,λ_ z=>z.imp id (·.1.1)⟩;unfold j9;dsimp only;by_cases hfl:D.aL ds=true
  .rw[dL hfl];exact⟨_,X1,R1,a,vs,rfl,h1,nm,h2,f2,IsAll.flat hfl h3⟩
  .rw[f7 hfl];cases fr with
   |true=>
    refine⟨M,⟨λ_ z=>z,s,λ_ z=>.inl z⟩,rep.grow s,nl H H',λa z=>?_,?_⟩
    .exact⟨λw=>rep.lA a w z.1,z.1,z.2,(rep.free z.1).2.2⟩
    .exact⟨a,vs,rfl,.inl ⟨h1,h2,Mu.lst h1⟩,IsAll.weak (λb z=>z.2.elim id λw=>by cases w.1) h3⟩
   |false=>
    simp only[mU,Sj];by_cases hc:(cT rs).isEmpty=true
    .rw[dL hc];refine⟨_,X1,R1,a,vs,rfl,h1,nm,h2,f2,?_⟩;refine IsAll.weak (λb z=>?_) h3;rcases z with⟨nb,z|⟨hf,z⟩⟩
     .exact⟨.inr ⟨z,nb⟩,λ_=>rep.same.free z.1⟩
     .have hl:cT rs=[]:=by simpa using hc
      have z:vmsk g M (bF rs) ρ (cT rs) b:=z;rw[hl]at z;exact⟨.inl z.nil.1,z.nil.2⟩
    .rw[f7 hc];refine⟨λb=>(M b\/(nl H H' b/\b≠a))\/b=a,⟨λ_ z=>.inl (.inl z),s,λb z=>z.elim (X1.n b) λe=>.inr (e▸h2)⟩,R1.more h1 f0 f2,a,vs,rfl,.inl ⟨h1,.inl ⟨.inr rfl,λ_=>f0⟩⟩,?_⟩;refine IsAll.weak (λb z=>?_) h3;rcases z with⟨nb,z|⟨hf,z⟩⟩
     .exact .inl ⟨.inl (.inr ⟨z,nb⟩),λ_=>rep.same.free z.1⟩
     .exact vmsk.mono (λ_ w=>.inl (.inl w)) z
end
section
variable{X:Cx}{ps:List Str}
def aQ(F:List D->Res R)(fs:En->Res (List R)):En->Res R:=λenv=>(fs env).bind λrs=>(F (rs.map R.d)).bind λr=>.ok (j9 rs r)
def CU(hl:∀env rs,fs env=.ok rs->rs.length=ps.length)(s:SndA X.mg E t fs):Snd X.mg E (HP (lE X.mg ps.length F) [] E t) (aQ F fs):=by
 intro g M ρ env σ H Q rep p;refine s g M ρ env σ H _ rep ?_;unfold aQ at p;cases e:fs env with
 |stuck=>rw[e]at p;exact p
 |exc c=>rw[e]at p;exact p
 |ok rs=>
  rw[e]at p;intro vs M1 H1 e1 rep1 is;have p1:PostE X.mg E g M1 ρ env σ H1 Q ((F (rs.map R.d)).bind λr=>.ok (j9 rs r)):=PostE.ext e1 p;rw[lT];refine⟨by rw[is.length,cc];exact hl env rs e,rs.map R.d,_,is,?_⟩;cases q:F (rs.map R.d)with
  |stuck=>rw[q]at p1;exact p1
  |exc c=>rw[q]at p1;exact λcls dx H' h1 h2=>p1 cls dx H' h1 (rep1.same.trans h2)
  |ok r=>rw[q]at p1;intro v H2 s2 ro;obtain⟨M3,e3,rep3,ro3⟩:=RetOk.caller rs rep1 s2 ro;exact p1 v M3 H2 e3 rep3 ro3
def Gh(G:cw X.prog X.w X.K X.mg X.base CX k f fd ps (lE X.mg ps.length F))(hr:j3 k X.A)(hg:Gl X x)(hm:X.mg x=some (.ref f))(hk:keepIn X.K (.ref f)=true)(hb:Binds X.K fd ps [])(hx:nU CX X E)
 (ha:y3 X E (e::es) fs) (hl:∀env rs,fs env=.ok rs->rs.length=ps.length) (hdb:autoParam (dB x) TQ) (he:autoParam (sE X e es) TV) (hpl:autoParam (bT X pos es) TV) :
 PD X E (.Call (.Name x p) (e::es) [] pos) (aQ F fs):=by
 obtain⟨t,p1,s1⟩:=ha;exact⟨_,FZ G hr hg hm hk hb .nil hx p1 hdb he hpl,CU hl s1⟩
def av:∀env rs,au env=.ok rs->rs.length=0:=λ_ _ e=>by cases e;rfl
def ae{f:En->Res R}{fs:En->Res (List R)}(h:∀env rs,fs env=.ok rs->rs.length=n):∀env rs,ac f fs env=.ok rs->rs.length=n+1:=λenv rs e=>by
 unfold ac at e;cases q:f env with
 |stuck=>rw[q]at e;cases e
 |exc c=>rw[q]at e;cases e
 |ok r=>
  rw[q]at e;cases q2:fs env with
  |stuck=>simp only[Res.fY,q2]at e;cases e
  |exc c=>simp only[Res.fY,q2]at e;cases e
  |ok rs'=>simp only[Res.fY,q2]at e;cases e;simp[h env rs' q2]
def mj(X:Cx)(E:XK)(f:TB)(k:List R->Res R):Prop:=∃r,CallR X f r/\
 ∀g M ρ env σ H Q rs vs,Rep g M ρ env σ H->IsAll H (vmsk g M (bF rs) ρ (cT rs)) (rs.map R.d) vs->PostE X.mg E g M ρ env σ H Q (k rs)->r vs H Q
def gy(k:List R->Res R)(fs:En->Res (List R)):En->Res R:=λenv=>(fs env).bind k
def aK{id:String}{k:List R->Res R}(hc:mj X E (.builtin id) k) (hg:Gl X x) (hm:X.mg x=none) (hv:bootBuiltins x=some (.builtin id)) (ha:y3 X E (e::es) fs) (hn:autoParam (x≠"__name__") TQ) (hdb:autoParam (dB x) TQ)
 (he:autoParam (starEach (e::es) X.env=(false,eval e X.env)::starEach es X.env) TV) (hpl:autoParam (bT X pos es) TV):PD X E (.Call (.Name x p) (e::es) [] pos) (gy k fs):=by
 obtain⟨r,h1,h2⟩:=hc;obtain⟨t,p1,s1⟩:=ha;exact⟨_,sG h1 hg hm hv p1 hn hdb he hpl,λg M ρ env σ H Q rep p=>s1.iT rep p λrs vs M1 H1 e1 rep1 i1 q1=>h2 g M1 ρ env σ H1 Q rs vs rep1 i1 q1⟩
def ic{k:List R->Res R}(hc:mj X E (.type T) k) (hg:Gl X x) (hm:X.mg x=none) (hv:bootBuiltins x=some (.type T)) (ha:y3 X E (e::es) fs) (hn:autoParam (x≠"__name__") TQ) (hdb:autoParam (dB x) TQ)
 (he:autoParam (starEach (e::es) X.env=(false,eval e X.env)::starEach es X.env) TV) (hpl:autoParam (bT X pos es) TV):PD X E (.Call (.Name x p) (e::es) [] pos) (gy k fs):=by
 obtain⟨r,h1,h2⟩:=hc;obtain⟨t,p1,s1⟩:=ha;exact⟨_,u9 h1 hg hm hv p1 hn hdb he hpl,λg M ρ env σ H Q rep p=>s1.iT rep p λrs vs M1 H1 e1 rep1 i1 q1=>h2 g M1 ρ env σ H1 Q rs vs rep1 i1 q1⟩
def cr:List R->Res R
 |[r]=>match r.d with
  |.lst ds=>.ok (.val (.int ds.length) true [])
  |.tup ds=>.ok (.val (.int ds.length) true [])
  |.str z=>if z.length<=lim then .ok (.val (.int z.length) true [])else .stuck
  |_=>.stuck
 |_=>.stuck
def bh:mj X E (.builtin "len") cr:=by
 refine⟨_,call_len_seq.or vL,λg M ρ env σ H Q rs vs rep i p=>?_⟩;rcases rs with _|⟨r,_|_⟩
 .exact p.elim
 rotate_left
 .exact p.elim
 obtain⟨v,w,rfl,i1,i2⟩:=i;cases i2;have i1:Is H (vmsk g M (bF [r]) ρ (cT [r])) r.d v:=i1;unfold cr at p;dsimp only at p;cases q:r.d with
 |lst ds=>rw[q]at p i1;obtain⟨a,ws,rfl,h1,h2⟩:=i1.rd;exact .inl ⟨a,ws,rfl,.inl (.inl h1),by rw[h2.length];exact p _ M H (Ext.refl _ _) rep rfl⟩
 |tup ds=>rw[q]at p i1;obtain⟨a,ws,rfl,h1,h2⟩:=i1;exact .inl ⟨a,ws,rfl,.inr (SqT.of h1),by rw[h2.length];exact p _ M H (Ext.refl _ _) rep rfl⟩
 |str z=>
  rw[q]at p i1;cases i1;by_cases hz:z.length<=lim
  .simp only[hz,Sd]at p;exact .inr ⟨z,rfl,jR hz,p _ M H (Ext.refl _ _) rep rfl⟩
  .simp only[hz,Sj]at p;exact p.elim
 |_=>rw[q]at p;exact p.elim
def Ac(h:vmsk g M (bF [r]) ρ (cT [r]) a):vmsk g M r.fr ρ r.al a:=by
 have e1:bF [r]=r.fr:=by simp[bF]
 have e2:cT [r]=r.al:=by simp[cT]
 rw[e1,e2]at h;exact h
end
inductive Fl where
 |nx (env:En)|rt (r:R)|bk (env:En)|ct (env:En)|rm (r:R) (env:En)
structure ox(M:Addr->Prop) (H:Hp) (M':Addr->Prop) (H':Hp):Prop where
 m:∀a,M a->M' a
 h:∀a o,H a=some o->(M a\/gS o)->H' a=some o
def ox.refl(M:Addr->Prop)(H:Hp):ox M H M H:=⟨λ_ z=>z,λ_ _ e _=>e⟩
def ox.trans{M M1 M2:Addr->Prop}(a:ox M H M1 H1)(b:ox M1 H1 M2 H2):ox M H M2 H2:=⟨λx z=>b.m x (a.m x z),λx o e z=>b.h x o (a.h x o e z) (z.imp (a.m x) id)⟩
def Ext.dr(e:Ext M H M' H'):ox M H M' H':=⟨e.m,λa o q _=>e.h a o q⟩
section
variable(mg:Str->Option TB)(E:XK)(g:Gd)(M:Addr->Prop)(H:Hp)(D:Ends)
def PostS:Res Fl->Prop
 |.stuck=>False
 |.exc c=>FJ mg E g c
 |.ok (.nx env)=>∀σ M' ρ H',ox M H M' H'->Rep g M' ρ env σ H'->D.nx σ H'
 |.ok (.bk env)=>∀σ M' ρ H',ox M H M' H'->Rep g M' ρ env σ H'->D.bk σ H'
 |.ok (.ct env)=>∀σ M' ρ H',ox M H M' H'->Rep g M' ρ env σ H'->D.ct σ H'
 |.ok (.rt r)=>∀v M' H',ox M H M' H'->Same g.H₀ H'->((∀a,¬g.Z a)->RetOk g H' v r)->(r.d.flat=true->Is H' (λ_=>False) r.d v)->D.rt v H'
 |.ok (.rm r env)=>∀v σ M' ρ H0 H',ox M H M' H'->Rep g M' ρ env σ H'->Same g.H₀ H0->ROk g M' ρ H0 H' v r->D.rt v H'
end
def Gi(mg:Str->Option TB)(E:XK)(t:TS)(f:En->Res Fl):Prop:=∀g M ρ env σ H D,Rep g M ρ env σ H->PostS mg E g M H D (f env)->t D σ H
def vT(X:Cx)(E:XK)(st:Stmt)(f:En->Res Fl):Prop:=∃t,PS X st t/\Gi X.mg E t f
def xw(X:Cx)(E:XK)(st:List Stmt)(f:En->Res Fl):Prop:=∃t,FQ X st t/\Gi X.mg E t f
section
variable{D:Ends}
def PostS.dr(e:ox M H M' H')(p:PostS mg E g M H D r):PostS mg E g M' H' D r:=by
 cases r with
 |stuck=>exact p
 |exc c=>exact p
 |ok r=>cases r with
  |nx env=>exact λσ M2 ρ2 H2 e2=>p σ M2 ρ2 H2 (e.trans e2)
  |bk env=>exact λσ M2 ρ2 H2 e2=>p σ M2 ρ2 H2 (e.trans e2)
  |ct env=>exact λσ M2 ρ2 H2 e2=>p σ M2 ρ2 H2 (e.trans e2)
  |rt r=>exact λv M2 H2 e2=>p v M2 H2 (e.trans e2)
  |rm r env=>exact λv σ M2 ρ2 H0 H2 e2=>p v σ M2 ρ2 H0 H2 (e.trans e2)
def Snd.qZ{f:En->Res R}(h:Snd mg E t f)(rep:Rep g M ρ env σ H){K:R->Res Fl}(hp:PostS mg E g M H D ((f env).bind K))
 (k:∀r v M' H',Ext M H M' H'->Rep g M' ρ env σ H'->ROk g M' ρ H H' v r->PostS mg E g M' H' D (K r)->Q v H'):t σ H Q:=by
 refine h g M ρ env σ H Q rep ?_;cases e:f env with
 |stuck=>rw[e]at hp;exact hp
 |exc c=>rw[e]at hp;exact hp
 |ok r=>rw[e]at hp;exact λv M1 H1 e1 rep1 ro=>k r v M1 H1 e1 rep1 ro (PostS.dr e1.dr hp)
def SndT.qZ{f:En->Res Bool}(h:SndT mg E t f)(rep:Rep g M ρ env σ H){K:Bool->Res Fl}{Q:Bool->Hp->Prop}(hp:PostS mg E g M H D ((f env).bind K))
 (k:∀b M' H',ox M H M' H'->Rep g M' ρ env σ H'->PostS mg E g M' H' D (K b)->Q b H'):t σ H Q:=by
 refine h g M ρ env σ H Q rep ?_;cases e:f env with
 |stuck=>rw[e]at hp;exact hp
 |exc c=>rw[e]at hp;exact hp
 |ok r=>rw[e]at hp;exact λM1 H1 e1 rep1=>k r M1 H1 e1.dr rep1 (PostS.dr e1.dr hp)
noncomputable def Nw(ρ:Pr)(i:Nat):Pr:=λj a=>if j=i then False else ρ j a
def y9(h:j≠i):Nw ρ i j=ρ j:=by funext a;unfold Nw;rw[f7 h]
def sX(h:Nw ρ i j a):j≠i/\ρ j a:=by grind [Nw]
noncomputable def vU(ρ:Pr)(i:Nat)(T:Addr->Prop):Pr:=λj a=>if j=i then T a else ρ j a
def iC(h:j≠i):vU ρ i T j=ρ j:=by funext a;unfold vU;rw[f7 h]
def jL:vU ρ i T i=T:=by funext a;unfold vU;rw[dL rfl]
def fg(env:En)(i:Nat):En:=match env[i]? with
 |some (some (.own ds fr))=>env.set i (some (.val (.lst ds) fr))
 |some (some (.pW d))=>env.set i (some (.val d true))
 |some (some (.Fz _))=>env.set i none
 |some (some (.FC _))=>env.set i none
 |some (some (.pin d))=>env.set i (some (.val d true))
 |some (some (.lz d))=>env.set i (some (.val d true))
 |some (some (.fix _ (.tr d)))=>env.set i (some (.val d true))
 |some (some (.fix _ (.ds d)))=>env.set i (some (.val d true))
 |_=>env
def dr(env:En)(al:List Nat):En:=al.foldl fg env
def vV(h:j≠i):(fg env i)[j]?=env[j]?:=by unfold fg;split<;>first|rfl|exact jF (lX h)
def xx(i:Nat):(fg env i).length=env.length:=by unfold fg;split<;>simp
theorem y_:∀(al:List Nat){env:En}{j:Nat},¬j∈al->(dr env al)[j]?=env[j]?
 |[],_,_,_=>rfl
 |i::al,env,j,h=>by show(dr (fg env i) al)[j]?=_;rw[y_ al λz=>h (by simp[z]),vV λz=>h (by simp[z])]
theorem vW:∀(al:List Nat)(env:En),(dr env al).length=env.length
 |[],_=>rfl
 |i::al,env=>by show(dr (fg env i) al).length=_;rw[vW al,xx]
theorem Rep.fg(rep:Rep g M ρ env σ H)(i:Nat):Rep g (λa=>M a\/ρ i a) (Nw ρ i) (fg env i) σ H where
 same:=rep.same
 lA:=λb hb=>hb.elim (rep.lA b) λz=>(rep.ck i b z).2.2.some
 w8:=λb hb=>hb.elim (rep.w8 b) λz=>.inl (rep.ck i b z).2.1
 fl:=λb hb h0=>hb.elim (λz=>rep.fl b z h0) λz=>.inl (rep.ck i b z).2.2
 slot:=λj sl ej=>by
  by_cases hj:j=i
  .subst hj;cases e:env[j]? with
   |none=>
    have:L3.fg env j=env:=by unfold L3.fg;rw[e]
    rw[this,e]at ej;cases ej
   |some o=>
    have hi:j<env.length:=(c5.mp e).1;cases o with
    |none=>
     have:L3.fg env j=env:=by unfold L3.fg;rw[e]
     rw[this,e]at ej;cases ej
    |some s0=>
     obtain⟨v,ev,k⟩:=rep.slot j s0 e;cases s0 with
     |val d fr=>
      have:L3.fg env j=env:=by unfold L3.fg;rw[e]
      rw[this,e]at ej;cases ej;exact⟨v,ev,Is.weak (λb z=>jm.mono (λ_=>.inl) z) k⟩
     |own ds fr=>
      have:L3.fg env j=env.set j (some (.val (.lst ds) fr)):=by unfold L3.fg;rw[e]
      rw[this,f9 hi]at ej;cases ej;obtain⟨a,vs,rfl,h1,h2,h4⟩:=k;have ha:=(h2 a).mpr rfl;exact⟨_,ev,a,vs,rfl,.inl ⟨h1,.inr ha,λ_=>(rep.ck j a ha).2.1⟩,IsAll.weak (λb z=>jm.mono (λ_=>.inl) z) h4⟩
     |pW d=>
      have:L3.fg env j=env.set j (some (.val d true)):=by unfold L3.fg;rw[e]
      rw[this,f9 hi]at ej;cases ej;exact⟨v,ev,Is.weak (λb z=>⟨.inr z,λ_=>(rep.ck j b z).2.1⟩) k⟩
     |Fz d=>
      have:L3.fg env j=env.set j none:=by unfold L3.fg;rw[e]
      rw[this,f9 hi]at ej;cases ej
     |pin d=>
      have:L3.fg env j=env.set j (some (.val d true)):=by unfold L3.fg;rw[e]
      rw[this,f9 hi]at ej;cases ej;exact⟨v,ev,Is.weak (λb z=>⟨.inr z,λ_=>(rep.ck j b z).2.1⟩) k.1⟩
     |lz d=>
      have:L3.fg env j=env.set j (some (.val d true)):=by unfold L3.fg;rw[e]
      rw[this,f9 hi]at ej;cases ej;exact⟨v,ev,Is.weak (λb z=>⟨.inr z,λ_=>(rep.ck j b z).2.1⟩) k.1⟩
     |fix n q0=>
      cases q0 with
      |no=>
       have:L3.fg env j=env:=by unfold L3.fg;rw[e]
       rw[this,e]at ej;cases ej;exact⟨v,ev,k.1,True.intro⟩
      |tr d=>
       have:L3.fg env j=env.set j (some (.val d true)):=by unfold L3.fg;rw[e]
       rw[this,f9 hi]at ej;cases ej;exact⟨v,ev,Is.weak (λb z=>⟨.inr z,λ_=>(rep.ck j b z).2.1⟩) k.2⟩
      |ds d=>
       have:L3.fg env j=env.set j (some (.val d true)):=by unfold L3.fg;rw[e]
       rw[this,f9 hi]at ej;cases ej;exact⟨v,ev,Is.weak (λb z=>⟨.inr z,λ_=>(rep.ck j b z).2.1⟩) k.2.1⟩
     |FC ks=>
      have:L3.fg env j=env.set j none:=by unfold L3.fg;rw[e]
      rw[this,f9 hi]at ej;cases ej
     |FG a=>
      have:L3.fg env j=env:=by unfold L3.fg;rw[e]
      rw[this,e]at ej;cases ej;exact⟨v,ev,k⟩
  .rw[vV hj]at ej;obtain⟨v,ev,k⟩:=rep.slot j sl ej;exact⟨v,ev,by rw[y9 hj];exact SlOk.weak (λ_=>.inl) k⟩
 ck:=λj a h=>by obtain⟨hj,h⟩:=sX h;exact⟨λz=>z.elim (rep.ck j a h).1 λz=>hj (rep.apart j i a h z),(rep.ck j a h).2⟩
 apart:=λj k a h1 h2=>rep.apart j k a (sX h1).2 (sX h2).2
 ow:=λj a h=>by obtain⟨hj,h⟩:=sX h;have:=rep.ow j a h;unfold fq at this ⊢;rw[vV hj];exact this
 len:=by rw[xx];exact rep.len
 zz:=rep.zz
theorem Rep.dr:∀(al:List Nat){env:En}{M:Addr->Prop}{ρ:Pr},Rep g M ρ env σ H->∃(M':Addr->Prop)(ρ':Pr),(∀a,M a->M' a)/\Rep g M' ρ' (L3.dr env al) σ H/\(∀i,i∈al->∀a,ρ i a->M' a)/\(∀j a,ρ' j a->ρ j a)/\(∀j,¬j∈al->ρ' j=ρ j)
 |[],env,M,ρ,rep=>⟨M,ρ,λ_ z=>z,rep,λ_ z=>absurd z (by simp),λ_ _ o=>o,λ_ _=>rfl⟩
 |i::al,env,M,ρ,rep=>by
  obtain⟨M2,ρ2,e2,rep2,o2,k2,l2⟩:=Rep.dr al (rep.fg i);refine⟨M2,ρ2,λa z=>e2 a (.inl z),rep2,λj hj a o=>?_,λj a o=>(sX (k2 j a o)).2,λj hj=>?_⟩
  .by_cases hji:j=i
   .exact e2 a (.inr (hji▸o))
   .exact o2 j ((cJ.mp hj).resolve_left hji) a (by rw[y9 hji];exact o)
  .rw[l2 j λz=>hj (by simp[z]),y9 λz=>hj (by simp[z])]
def Is.frozen(rep:Rep g M ρ env σ H)(e:∀a,M a->M' a)(hm:∀i,i∈al->∀a,ρ i a->M' a)(h:Is H (vmsk g M fr ρ al) d v):Is H (jm g M' fr) d v:=h.weak λa z=>z.elim (jm.mono e) λ⟨i,hi,o⟩=>⟨hm i hi a o,λ_=>(rep.ck i a o).2.1⟩
def Rep.put(rep:Rep g M ρ env σ H)(hi:i<env.length)(ok:SlOk g M T H v sl)(ht:∀a,T a->¬M a/\g.H₀ a=none/\Mu H a/\∀j,j≠i->¬ρ j a)(hO:autoParam (∀a,T a->sl.Pz=true) TK._auto_1) :
 Rep g M (vU ρ i T) (env.set i (some sl)) (σ.set i (some v)) H:=by
 have hi2:i<σ.length:=by rw[<- rep.len];exact hi
 refine⟨rep.same,rep.lA,rep.w8,rep.fl,λj s ej=>?_,λj a h=>?_,λj k a h1 h2=>?_,λj a h=>?_,by rw[vG,vG];exact rep.len,rep.zz⟩
 .by_cases hj:j=i
  .subst hj;rw[f9 hi]at ej;cases ej;exact⟨v,f9 hi2,by rw[jL];exact ok⟩
  .rw[jF (lX hj)]at ej;obtain⟨w,ew,k⟩:=rep.slot j s ej;exact⟨w,by rw[jF (lX hj)];exact ew,by rw[iC hj];exact k⟩
 .by_cases hj:j=i
  .subst hj;rw[jL]at h;exact⟨(ht a h).1,(ht a h).2.1,(ht a h).2.2.1⟩
  .rw[iC hj]at h;exact rep.ck j a h
 .by_cases hj:j=i
  .by_cases hk:k=i
   .rw[hj,hk]
   .subst hj;rw[jL]at h1;rw[iC hk]at h2;exact absurd h2 ((ht a h1).2.2.2 k hk)
  .by_cases hk:k=i
   .subst hk;rw[jL]at h2;rw[iC hj]at h1;exact absurd h1 ((ht a h2).2.2.2 j hj)
   .rw[iC hj]at h1;rw[iC hk]at h2;exact rep.apart j k a h1 h2
 .unfold fq;by_cases hj:j=i
  .subst hj;rw[jL]at h;rw[f9 hi];exact hO a h
  .rw[iC hj]at h;rw[jF (lX hj)];exact rep.ow j a h
def put(env:En)(i:Nat):R->En
 |.new ds fr=>env.set i (some (.own ds fr))
 |.val d fr al=>(dr env al).set i (some (.val d fr))
 |.sy d=>env.set i (some (.pW d))
def Rep.store(rep:Rep g M ρ env σ H)(h0:Same g.H₀ H0)(hi:i<env.length)(h:ROk g M ρ H0 H v r):∃M' ρ',ox M H M' H/\Rep g M' ρ' (L3.put env i r) (σ.set i (some v)) H:=by
 cases r with
 |new ds fr=>obtain⟨a,vs,rfl,h1,h2,h3,h4,h5⟩:=h;exact⟨M,_,ox.refl _ _,rep.put (sl:=.own ds fr) (T:=λb=>b=a) hi ⟨a,vs,rfl,h1,λ_=>Iff.rfl,h5⟩ λb e=>by subst e;exact⟨h2,h0.free h3,Mu.lst h1,λj _=>h4 j⟩⟩
 |val d fr al=>obtain⟨M1,ρ1,e1,rep1,o1,k1,_⟩:=Rep.dr al rep;exact⟨M1,_,⟨e1,λ_ _ e _=>e⟩,rep1.put (sl:=.val d fr) (T:=λ_=>False) (by rw[vW];exact hi) (Is.frozen rep e1 o1 h) (λ_ z=>z.elim) λ_ z=>z.elim⟩
 |sy d=>obtain⟨T,ht,is⟩:=h;exact⟨M,_,ox.refl _ _,rep.put (sl:=.pW d) (T:=T) hi is λb z=>let ⟨a1,a2,a3,a4⟩:=ht b z;⟨a1,h0.free a2,a3,λj _=>a4 j⟩⟩
def Rep.Fy(hu:JT u')(rep:Rep g M ρ env σ H)(o:ρ i a)(hi:i<env.length)(ev:σ[i]?=some (some v))(ok:SlOk g M (ρ i) (bQ H a u') v sl)(hO:autoParam (sl.Pz=true) TV) :
 ox M H M (bQ H a u')/\Rep g M ρ (env.set i (some sl)) σ (bQ H a u'):=by
 obtain⟨nm,n0,uo,ha,hmu⟩:=rep.ck i a o;have nfx:∀u,H a=some u->¬gS u:=λu e z=>by rw[ha]at e;cases e;cases uo<;>first|exact z|exact hmu
 have kp:∀b u,H b=some u->(M b\/gS u)->bQ H a u' b=some u:=λb u q z=>by grind [aH]
 have km:∀(fr:Bool) b u,H b=some u->(jm g M fr b\/gS u)->bQ H a u' b=some u:=λfr b u q z=>kp b u q (z.imp (·.1) id);refine⟨⟨λ_ z=>z,kp⟩,λb u q=>?_,λb hb=>?_,rep.w8,λb hb h0=>?_,λj s ej=>?_,λj b h=>?_,rep.apart,λj b h=>?_,by rw[vG];exact rep.len,λc z e=>by
  by_cases hc:c=a
  .subst hc;rw[aP]at e;cases e
  .rw[aH hc]at e;exact rep.zz c z e⟩
 .rw[aH (λz=>by rw[z,n0]at q;cases q)];exact rep.same b u q
 .have nb:b≠a:=λz=>nm (by rw[<- z];exact hb);rw[aH nb];exact rep.lA b hb
 .have nb:b≠a:=λz=>nm (by rw[<- z];exact hb);exact(rep.fl b hb h0).same λo e=>by rw[aH nb];exact e
 .by_cases hj:j=i
  .grind
  .rw[jF (lX hj)]at ej;obtain⟨w,ew,k⟩:=rep.slot j s ej;refine⟨w,ew,?_⟩;have nj:∀b,ρ j b->b≠a:=λb hb e=>hj (rep.apart j i a (e▸hb) o);cases s with
   |val d fr=>exact Is.mono (km fr) (λ_ _ _ z=>z) k
   |own ds' fr'=>obtain⟨b,ws,rfl,h1,h2,h4⟩:=k;exact⟨b,ws,rfl,by rw[aH (nj b ((h2 b).mpr rfl))];exact h1,h2,IsAll.mono (km fr') (λ_ _ _ z=>z) h4⟩
   |pW d=>
    refine Is.mono (λb u q z=>?_) (λ_ _ _ z=>z) k
    grind [aH]
   |Fz d=>refine IsSh.mono (λb u q z=>kp b u q (.inr z)) (λb ws z q=>⟨ws,by rw[aH (nj b z)];exact q⟩) (λ_ z=>z) k
   |pin d=>
    refine⟨Is.mono (λb u q z=>?_) (λ_ _ _ z=>z) k.1,k.2⟩
    grind [aH]
   |lz d=>
    refine⟨Is.mono (λb u q z=>?_) (λ_ _ _ z=>z) k.1,k.2.mono (λb u z q=>by rw[aH (nj b z)];exact q) λ_ z=>z⟩
    grind [aH]
   |fix n q0=>
    refine⟨k.1,k.2.mono λb u q z=>?_⟩
    grind [aH]
   |FG a=>exact k
   |FC ks=>
    refine sT (λb u q z=>?_) k
    grind [aH]
 .obtain⟨b1,b2,b3⟩:=rep.ck j b h;refine⟨b1,b2,?_⟩;by_cases e:b=a
  .exact⟨u',by rw[e,aP],hu⟩
  .exact b3.same λo z=>by rw[aH e];exact z
 .unfold fq;by_cases hj:j=i
  .subst hj;rw[f9 hi];exact hO
  .rw[jF (lX hj)];exact rep.ow j b h
def Rep.write(rep:Rep g M ρ env σ H)(o:ρ i a)(hi:i<env.length)(ev:σ[i]?=some (some v))(ok:SlOk g M (ρ i) (bQ H a (.lst vs')) v sl)(hO:autoParam (sl.Pz=true) TV) :
 ox M H M (bQ H a (.lst vs'))/\Rep g M ρ (env.set i (some sl)) σ (bQ H a (.lst vs')):=rep.Fy (u':=.lst vs') True.intro o hi ev ok hO
end
section
noncomputable def bw:En->Res Fl:=λenv=>.ok (.nx env)
def aI(f k:En->Res Fl):En->Res Fl:=λenv=>(f env).bind λr=>match r with
 |.nx bn=>k bn
 |r=>.ok r
def aA:xw X E [] bw:=⟨_,FT,λg M ρ env σ H D rep p=>p σ M ρ H (ox.refl _ _) rep⟩
def aq{st:Stmt}{f:En->Res Fl}(h:vT X E st f):xw X E [st] f:=let ⟨t,a,b⟩:=h;⟨t,zP a,b⟩
def ai{st:Stmt}{bd:List Stmt}{f k:En->Res Fl}(h1:vT X E st f)(h2:xw X E bd k):xw X E (st::bd) (aI f k):=by
 obtain⟨t,a,b⟩:=h1;obtain⟨u,c,d⟩:=h2;refine⟨_,B_ a c,λg M ρ env σ H D rep p=>b g M ρ env σ H _ rep ?_⟩;unfold aI at p;cases q:f env with
 |stuck=>rw[q]at p;exact p
 |exc c=>rw[q]at p;exact p
 |ok r=>
  rw[q]at p;cases r with
  |nx bn=>exact λσ' M' ρ' H' e rep'=>d g M' ρ' bn σ' H' D rep' (PostS.dr e p)
  |bk bn=>exact p
  |ct bn=>exact p
  |rt r=>exact p
  |rm r bn=>exact p
def fj(c:En->Res Bool)(a b:En->Res Fl):En->Res Fl:=λenv=>(c env).bind λk=>if k then a env else b env
def aM(hc:Bh X E c fc)(ha:xw X E a fa)(hb:xw X E b fb):vT X E (.If c a b pos) (fj fc fa fb):=by
 obtain⟨tc,p1,s1⟩:=hc;obtain⟨ta,p2,s2⟩:=ha;obtain⟨tb,p3,s3⟩:=hb;refine⟨_,MO p1 p2 p3,λg M ρ env σ H D rep p=>s1.qZ rep p λb M' H' e rep' p'=>?_⟩;cases b with
 |true=>exact uE (s2 g M' ρ env σ H' D rep' p')
 |false=>exact vN (s3 g M' ρ env σ H' D rep' p')
def br(f:En->Res R):En->Res Fl:=λenv=>(f env).bind λr=>.ok (.rt r)
def ROk.ret(rep:Rep g M ρ env σ H)(h0:Same g.H₀ H0)(h:ROk g M ρ H0 H v r)(hz:∀a,¬g.Z a):RetOk g H v r:=by
 have mu:∀a,M a->g.H₀ a=none->Mu H a:=λa h1 h2=>(rep.fl a h1 h2).elim id λz=>(hz a z.1).elim;have key:∀{fr:Bool}{a:Addr},jm g M fr a->nl g.H₀ H a\/(fr=false/\g.Ma a):=λ{fr a} z=>by
  cases fr with
  |true=>exact .inl ⟨z.2 rfl,mu a z.1 (z.2 rfl)⟩
  |false=>exact(rep.w8 a z.1).imp (λw=>⟨w,mu a z.1 w⟩) λw=>⟨rfl,w⟩
 cases r with
 |val d fr al=>exact Is.weak (λa z=>z.elim key λ⟨i,_,o⟩=>.inl (rep.ck i a o).2) h
 |new ds fr=>obtain⟨a,vs,rfl,h1,h2,h3,h4,h5⟩:=h;exact⟨a,vs,rfl,h1,h0.free h3,IsAll.weak (λb z=>⟨λe=>h2 (e▸z.1),key z⟩) h5⟩
 |sy d=>obtain⟨T,ht,is⟩:=h;exact Is.weak (λa z=>let ⟨_,a2,a3,_⟩:=ht a z;⟨h0.free a2,a3⟩) is
def ROk.flatIs(h:ROk g M ρ H0 H v r)(hf:r.d.flat=true):Is H (λ_=>False) r.d v:=by
 cases r with
 |val d fr al=>exact Is.flat hf h
 |new ds fr=>simp[D.flat,R.d]at hf
 |sy d=>obtain⟨T,_,is⟩:=h;exact Is.flat hf is
def aC(h:PD X E e f):vT X E (.Return (some e) pos) (br f):=by obtain⟨t,p1,s1⟩:=h;exact⟨_,Jr p1,λg M ρ env σ H D rep p=>s1.qZ rep p λr v M' H' e rep' ro p'=>p' v M' H' (ox.refl _ _) rep'.same (λhz=>ro.ret rep' rep.same hz) λhf=>ro.flatIs hf⟩
def bN(i:Nat)(f:En->Res R):En->Res Fl:=λenv=>(f env).bind λr=>if i<env.length then .ok (.nx (put env i r))else .stuck
def Ad(s:Snd mg E t f):Gi mg E (FV t (sD i)) (bN i f):=by
 intro g M ρ env σ H D rep p;refine s.qZ rep p λr v M' H' e rep' ro p'=>?_;by_cases hi:i<env.length
 .rw[dL hi]at p';obtain⟨M2,ρ2,e2,rep2⟩:=rep'.store rep.same hi ro;exact p' _ M2 ρ2 H' e2 rep2
 .rw[f7 hi]at p';exact p'.elim
def aO(hN:X.N.Nodup)(hi:X.N[i]?=some x)(hx:B4 X.env.scope x)(h:PD X E e f)(hs:autoParam (swapsWith e (some (.Name x pos')) pos.line X.env=pure false) TV)
 (hf:autoParam (X.fn x=true\/X.env.scope.names.lookup x=some .local) TR):vT X E (.Assign [.Name x pos'] e pos) (bN i f):=by
 obtain⟨t,p1,s1⟩:=h;exact⟨_,yM hN hi hx p1 hs hf,Ad s1⟩
def lF(env:En)(i:Nat):Option (List D×Bool):=match env[i]? with
 |some (some (.own ds fr))=>some (ds,fr)
 |some (some (.pW (.lst ds)))=>some (ds,true)
 |_=>none
mutual
noncomputable def D.sz:D->Nat
 |.tup ds=>D.MF ds+1
 |.lst ds=>D.MF ds+1
 |.j7 _ ds=>D.MF ds+1
 |_=>0
noncomputable def D.MF:List D->Nat
 |[]=>0
 |d::ds=>d.sz+D.MF ds+1
end
section
mutual
theorem Is.avoid(ha:Is H m' e (.ref a)):∀{d:D}{v:V},d.sz<e.sz->Is H m d v->Is H (λb=>m b/\b≠a) d v
 |.gP,_,_,h=>h
 |.bl _,_,_,h=>h
 |.int _,_,_,h=>h
 |.str _,_,_,h=>h
 |.tup ds,_,hs,h=>by obtain⟨b,vs,rfl,h1,h2⟩:=h;simp only[D.sz]at hs;exact⟨b,vs,rfl,h1,IsAll.avoid ha (by lia) h2⟩
 |.lst ds,_,hs,h=>by
  have h':=h;obtain⟨b,vs,rfl,h1,h2⟩:=h;have nb:b≠a:=λz=>by subst z;have q:=Is.inj h' ha;rw[q]at hs;lia
  simp only[D.sz]at hs;refine⟨b,vs,rfl,?_,IsAll.avoid ha (by lia) h2⟩;rcases h1 with⟨h1,h3⟩|⟨o,h1,h3⟩
  .exact .inl ⟨h1,h3,nb⟩
  .exact .inr ⟨o,h1,h3,nb⟩
 |.j7 ks ds,_,hs,h=>by
  have h':=h;obtain⟨b,kvs,rfl,h1,h2⟩:=h;have nb:b≠a:=λz=>by subst z;have q:=Is.inj h' ha;rw[q]at hs;lia
  simp only[D.sz]at hs;exact⟨b,kvs,rfl,⟨h1.1,h1.2,nb⟩,IsAll.avoid ha (by lia) h2⟩
theorem IsAll.avoid(ha:Is H m' e (.ref a)):∀{ds:List D}{vs:List V},D.MF ds<e.sz->IsAll H m ds vs->IsAll H (λb=>m b/\b≠a) ds vs
 |[],_,_,h=>h
 |d::ds,_,hs,h=>by obtain⟨v,r,rfl,h1,h2⟩:=h;simp only[D.MF]at hs;exact⟨v,r,rfl,Is.avoid ha (by lia) h1,IsAll.avoid ha (by lia) h2⟩
end
end
def Rep.AR(rep:Rep g M ρ env σ H)(e:lF env i=some (ds,fr)) :
 ∃(M':Addr->Prop)(ρ':Pr)(a:Addr)(vs:List V),(∀b,M b->M' b)/\Rep g M' ρ' (env.set i (some (.own ds fr))) σ H/\σ[i]?=some (some (.ref a))/\H a=some (.lst vs)/\(∀b,ρ' i b↔b=a)/\IsAll H (jm g M' fr) ds vs/\i<env.length/\(∀j b,ρ' j b->ρ j b)/\(∀j,j≠i->ρ' j=ρ j):=by
 unfold lF at e;cases q:env[i]? with
 |none=>rw[q]at e;cases e
 |some o=>
  have hi:i<env.length:=(c5.mp q).1;have hself:env.set i (env[i])=env:=SS hi;cases o with
  |none=>rw[q]at e;cases e
  |some sl=>
   obtain⟨v,ev,k⟩:=rep.slot i sl q;rw[q]at e;cases sl with
   |val d f=>cases e
   |Fz d=>cases e
   |pin d=>cases e
   |lz d=>cases e
   |fix n q0=>cases e
   |FG a=>cases e
   |FC ks=>cases e
   |own ds' f'=>
    cases e;obtain⟨a,vs,rfl,h1,h2,h4⟩:=k;have eq:env.set i (some (.own ds fr))=env:=by
     have:env[i]=some (.own ds fr):=by have:=(c5.mp q).2;exact this
     rw[<- this];exact hself
    rw[eq];exact⟨M,ρ,a,vs,λ_ z=>z,rep,ev,h1,h2,h4,hi,λ_ _ z=>z,λ_ _=>rfl⟩
   |pW d=>
    cases d with
    |lst ds'=>
     cases e;have k':=k;obtain⟨a,vs,rfl,h1,h2⟩:=k;have pa:ρ i a:=by rcases h1 with⟨_,z⟩|⟨_,_,z⟩<;>exact z
     obtain⟨pm,p0,uo,pl,pmu⟩:=rep.ck i a pa;have hl:H a=some (.lst vs):=by
      rcases h1 with⟨h1,_⟩|⟨o,h1,_⟩
      .exact h1
      .rw[h1]at pl;cases pl;exact pmu.elim
     have inner:IsAll H (λb=>ρ i b/\b≠a) ds vs:=IsAll.avoid k' (by simp only[D.sz];lia) h2
     let M':Addr->Prop:=λb=>M b\/(ρ i b/\b≠a)
     let ρ':Pr:=vU ρ i λb=>b=a
     have rr:Rep g M' ρ' (env.set i (some (.own ds true))) (σ.set i (some (.ref a))) H:=by
      have r1:Rep g M' (λj b=>if j=i then b=a else ρ j b) (env.set i (some (.own ds true))) σ H:=by
       refine⟨rep.same,λb hb=>hb.elim (rep.lA b) λz=>?_,λb hb=>hb.elim (rep.w8 b) λz=>.inl (rep.ck i b z.1).2.1,λb hb h0=>hb.elim (λz=>rep.fl b z h0) λz=>.inl (rep.ck i b z.1).2.2,λj s ej=>?_,λj b h=>?_,λj k b w1 w2=>?_,λj b h=>?_,by rw[vG];exact rep.len,rep.zz⟩
       .exact(rep.ck i b z.1).2.2.some
       .by_cases hj:j=i
        .subst hj;rw[f9 hi]at ej;cases ej;exact⟨_,ev,a,vs,rfl,hl,λb=>by simp,IsAll.weak (λb z=>⟨.inr z,λ_=>(rep.ck j b z.1).2.1⟩) inner⟩
        .rw[jF (lX hj)]at ej;obtain⟨v',ev',k2⟩:=rep.slot j s ej;have eT:(λb=>if j=i then b=a else ρ j b)=ρ j:=by funext b;rw[f7 hj]
         exact⟨v',ev',by show SlOk g M' (λb=>if j=i then b=a else ρ j b) H v' s;rw[eT];exact SlOk.weak (λ_=>.inl) k2⟩
       .by_cases hj:j=i
        .rw[dL hj]at h;subst h;exact⟨λz=>z.elim pm λz=>z.2 rfl,p0,Mu.lst hl⟩
        .rw[f7 hj]at h;exact⟨λz=>z.elim (rep.ck j b h).1 λz=>hj (rep.apart j i b h z.1),(rep.ck j b h).2⟩
       .by_cases hj:j=i
        .by_cases hk:k=i
         .rw[hj,hk]
         .rw[dL hj]at w1;rw[f7 hk]at w2;subst w1;exact absurd (rep.apart k i b w2 pa) hk
        .by_cases hk:k=i
         .rw[dL hk]at w2;rw[f7 hj]at w1;subst w2;exact absurd (rep.apart j i b w1 pa) hj
         .rw[f7 hj]at w1;rw[f7 hk]at w2;exact rep.apart j k b w1 w2
       .unfold fq;by_cases hj:j=i
        .subst hj;rw[f9 hi];rfl
        .rw[f7 hj]at h;rw[jF (lX hj)];exact rep.ow j b h
      have hi2:i<σ.length:=by rw[<- rep.len];exact hi
      have es:σ.set i (some (.ref a))=σ:=by have:σ[i]=some (.ref a):=(c5.mp ev).2;rw[<- this];exact SS hi2
      rw[es];exact r1
     have hi2:i<σ.length:=by rw[<- rep.len];exact hi
     have es:σ.set i (some (.ref a))=σ:=by have:σ[i]=some (.ref a):=(c5.mp ev).2;rw[<- this];exact SS hi2
     rw[es]at rr;refine⟨M',ρ',a,vs,λ_=>.inl,rr,ev,hl,λb=>by show vU ρ i (λb=>b=a) i b↔b=a;rw[jL],IsAll.weak (λb z=>⟨.inr z,λ_=>(rep.ck i b z.1).2.1⟩) inner,hi,λj b z=>?_,λj hj=>iC hj⟩;by_cases hj:j=i
     .subst hj;have z:vU ρ j (λb=>b=a) j b:=z;rw[jL]at z;rw[z];exact pa
     .have z:vU ρ i (λb=>b=a) j b:=z;rw[iC hj]at z;exact z
    |_=>cases e
def vX(i:Nat)(f:En->Res R):En->Res Fl:=λenv=>match lF env i with
 |some (ds,fr)=>(f env).bind λr=>if ds.length<lim/\¬i∈r.al then .ok (.nx ((dr env r.al).set i (some (.own (ds++[r.d]) (fr&&r.fr)))))else .stuck
 |none=>.stuck
def r_(ha:PE X a (sC i))(h:PD X E e f)
 (hbase:autoParam (attributeBase a "append" X.env (eval a X.env)=eval a X.env) TV)
 (hfew:autoParam (((backTo cpos (starEach [e] X.env)).all (λx=>!x.1)&&(backToKw cpos (keywordEach [] X.env)).all (λx=>x.1.isSome)
   && decide (([e]:List Expr).length+([]:List Keyword).length+(if([]:List Keyword).isEmpty then 0 else 1)<30))=true) TV)
 (hline:autoParam ((apos.endLine==cpos.line)=true) TV) (hs:autoParam (starEach [e] X.env=(false,eval e X.env)::starEach [] X.env) TV) (hplain:autoParam (bT X cpos []) TV)
 (hsw:autoParam (swapsWith (.Call (.Attribute a "append" apos) [e] [] cpos) none pos.line X.env=pure false) TV) :
 vT X E (.Expr (.Call (.Attribute a "append" apos) [e] [] cpos) pos) (vX i f):=by
 obtain⟨t,p1,s1⟩:=h;refine⟨_,vI (xj SF PySem.F.slot_list_append PySem.F.type_list_append mX ha (gR p1 jl hs) hbase hfew hline hs hplain) hsw,λg M ρ env σ H D rep p=>?_⟩;unfold vX at p;cases e1:lF env i with
 |none=>rw[e1]at p;exact p.elim
 |some o=>
  obtain⟨ds,fr⟩:=o;rw[e1]at p;dsimp only at p;obtain⟨M0,ρ0,l,vs,m0,rep0,ev,k1,k2,k4,hi,_⟩:=rep.AR e1;refine⟨_,ev,.inl ⟨rfl,vs,SqL.of k1⟩,s1.qZ rep p λr y M' H' e rep' ro p'=>?_⟩;by_cases hc:ds.length<lim/\¬i∈r.al
  .rw[dL hc]at p';obtain⟨M1,x1,x1m,rep1,is1⟩:=ro.is rep' e rep.same;obtain⟨M2,ρ2,x2,rep2,o2,k5,k6⟩:=Rep.dr r.al rep1;have is2:Is H' (jm g M2 r.fr) r.d y:=Is.frozen rep1 x2 o2 is1;have e2:lF (dr env r.al) i=some (ds,fr):=by unfold lF;rw[y_ _ hc.2];exact e1
   obtain⟨M3,ρ3,l3,vs3,m3,rep3,ev3,j1,j2,j4,hi3,_⟩:=rep2.AR e2;rw[ev]at ev3;cases ev3;have hl:H' l=some (.lst vs):=e.h _ _ k1;rw[hl]at j1;cases j1;have pl:ρ3 i l:=(j2 l).mpr rfl;obtain⟨nl3,_⟩:=rep3.ck i l pl;have is4:IsAll H' (jm g M3 (fr&&r.fr)) (ds++[r.d]) (vs++[y]):=by refine IsAll.snoc (IsAll.weak (λb z=>⟨z.1,λq=>z.2 (by cases fr<;>simp_all)⟩) j4) (Is.weak (λb z=>⟨m3 b z.1,λq=>z.2 (by cases fr<;>simp_all)⟩) is2)
   have kp:∀b u,H' b=some u->(jm g M3 (fr&&r.fr) b\/gS u)->bQ H' l (.lst (vs++[y])) b=some u:=λb u q z=>by
    rw[aH]
    .exact q
    .rintro rfl;rcases z with z|z
     .exact nl3 z.1
     .rw[hl]at q;cases q;exact z
   obtain⟨f1,rep4⟩:=rep3.write (sl:=.own (ds++[r.d]) (fr&&r.fr)) (vs':=vs++[y]) pl (by rw[vG];exact hi3) ev ⟨l,vs++[y],rfl,aP,j2,IsAll.mono kp (λ_ _ _ z=>z) is4⟩;rw[List.set_set]at rep4;refine⟨l,vs,y,rfl,rfl,hl,by rw[k4.length];exact nY hc.1,?_⟩;exact p' σ M3 ρ3 _ (ox.trans ⟨λa z=>m3 a (x2 a (x1m a z)),λ_ _ q _=>q⟩ f1) rep4
  .rw[f7 hc]at p';exact p'.elim
end
def J3(ix:List Nat)(t:TG)(asg:D->Bool->En->Option En):Prop:=∀(g:Gd)(M:Addr->Prop)(ρ:Pr)(env bn:En)(σ:St)(H:Hp)(d:D)(fr:Bool)(v:V)(Q:St->Hp->Prop),
 Rep g M ρ env σ H->Is H (jm g M fr) d v->asg d fr env=some bn->(∀(σ':St)(ρ':Pr),Rep g M ρ' bn σ' H->(∀j,¬j∈ix->σ'[j]?=σ[j]?)->(∀j a,ρ' j a->ρ j a)->Q σ' H)->t v σ H Q
def Nx(ix:List Nat)(t:Ms)(asg:List D->Bool->En->Option En):Prop:=∀(g:Gd)(M:Addr->Prop)(ρ:Pr)(env bn:En)(σ:St)(H:Hp)(ds:List D)(fr:Bool)(vs:List V)(Q:St->Hp->Prop),
 Rep g M ρ env σ H->IsAll H (jm g M fr) ds vs->asg ds fr env=some bn->(∀(σ':St)(ρ':Pr),Rep g M ρ' bn σ' H->(∀j,¬j∈ix->σ'[j]?=σ[j]?)->(∀j a,ρ' j a->ρ j a)->Q σ' H)->t vs σ H Q
def CV(X:Cx)(ix:List Nat)(tg:Expr)(asg:D->Bool->En->Option En):Prop:=∃t,PG X tg t/\J3 ix t asg
def Gj(X:Cx)(ix:List Nat)(ts:List Expr)(asg:List D->Bool->En->Option En):Prop:=∃t,Js X ts t/\Nx ix t asg
section
def gN(i:Nat):D->Bool->En->Option En:=λd fr env=>if i<env.length then some (env.set i (some (.val d fr)))else none
def Bj:J3 [i] (sD i) (gN i):=by
 intro g M ρ env bn σ H d fr v Q rep is e k;unfold gN at e;by_cases hi:i<env.length
 .rw[dL hi]at e;cases e;exact k _ _ (rep.put (sl:=.val d fr) (T:=λ_=>False) hi is (λ_ z=>z.elim) λ_ z=>z.elim) (λj hj=>jF λe=>hj (by simp[e])) λj a z=>by
   by_cases hj:j=i
   .subst hj;rw[jL]at z;exact z.elim
   .rw[iC hj]at z;exact z
 .rw[f7 hi]at e;cases e
def aN(hN:X.N.Nodup)(hi:X.N[i]?=some x)(hx:B4 X.env.scope x)(hf:autoParam (X.fn x=true\/X.env.scope.names.lookup x=some .local) TR):CV X [i] (.Name x pos) (gN i):=⟨_,zQ hN hi hx hf,Bj⟩
noncomputable def cg:List D->Bool->En->Option En:=λds _ env=>match ds with
 |[]=>some env
 |_=>none
def aJ(f:D->Bool->En->Option En)(fs:List D->Bool->En->Option En):List D->Bool->En->Option En:=λds fr env=>match ds with
 |d::r=>(f d fr env).bind λbn=>fs r fr bn
 |[]=>none
def d5:Gj X [] [] cg:=⟨_,FU,λg M ρ env bn σ H ds fr vs Q rep is e k=>by
 cases ds with
 |nil=>cases e;cases is;exact⟨rfl,k σ ρ rep (λ_ _=>rfl) λ_ _ z=>z⟩
 |cons d ds=>cases e⟩
def ba(h1:CV X ix e f)(h2:Gj X jx es fs)
 (hs:∀t,PG X e t->∀u,Js X es u->Js X (e::es) (HK t u)):Gj X (ix++jx) (e::es) (aJ f fs):=by
 obtain⟨t,p1,s1⟩:=h1;obtain⟨u,p2,s2⟩:=h2;refine⟨_,hs t p1 u p2,λg M ρ env bn σ H ds fr vs Q rep is e k=>?_⟩;cases ds with
 |nil=>cases e
 |cons d ds=>
  obtain⟨v,r,rfl,i1,i2⟩:=is;unfold aJ at e;dsimp only at e;cases q:f d fr env with
  |none=>rw[q]at e;cases e
  |some ip=>rw[q]at e;refine⟨v,r,rfl,s1 g M ρ env ip σ H d fr v _ rep i1 q λσ1 ρ1 rep1 c1 d1=>?_⟩;exact s2 g M ρ1 ip bn σ1 H ds fr r Q rep1 i2 e λσ2 ρ2 rep2 c2 d2=>k σ2 ρ2 rep2 (λj hj=>(c2 j λz=>hj (by simp[z])).trans (c1 j λz=>hj (by simp[z]))) λj a z=>d1 j a (d2 j a z)
def gT(n:Nat)(fs:List D->Bool->En->Option En):D->Bool->En->Option En:=λd fr env=>match d with
 |.tup ds=>if ds.length=n then fs ds fr env else none
 |_=>none
def gm(hc:X.calm=true)(h:Gj X ix es fs)(hn:autoParam ((assignEach es X.env).length=n) TV)(hst:autoParam ((assignEach es X.env).findIdx? (·.1)=none) TV):CV X ix (.Tuple es k pos) (gT n fs):=by
 obtain⟨t,p1,s1⟩:=h;refine⟨_,Jt hc p1 hn hst,λg M ρ env bn σ H d fr v Q rep is e kk=>?_⟩;unfold gT at e;cases d with
 |tup ds=>
  obtain⟨a,vs,rfl,h1,h2⟩:=is;dsimp only at e;by_cases hl:ds.length=n
  .rw[dL hl]at e;exact⟨a,vs,rfl,SqT.of h1,h2.length.trans hl,s1 g M ρ env bn σ H ds fr vs Q rep h2 e kk⟩
  .rw[f7 hl]at e;cases e
 |_=>cases e
end
structure Src where
 xs:List D
 fr:Bool
 al:List Nat
structure Walk(J:It) (m:Addr->Prop) (H:Hp) (xs:List D):Prop where
 go:∀H' i d,(∀a o,H a=some o->(m a\/gS o)->H' a=some o)->xs[i]?=some d->J.go i H'/\∀x H'',J.Jc i H' x H''->Same H' H''/\Is H'' m d x
 stop:∀H',(∀a o,H a=some o->(m a\/gS o)->H' a=some o)->J.stop xs.length H'
theorem Walk.weak(w:Walk J m H xs)(h:∀a,m a->m' a):Walk J m' H xs:=⟨λH' i d k e=>let ⟨a,b⟩:=w.go H' i d (λa o q z=>k a o q (z.imp (h a) id)) e;⟨a,λx H'' y=>let ⟨c,d⟩:=b x H'' y;⟨c,d.weak h⟩⟩,λH' k=>w.stop H' λa o q z=>k a o q (z.imp (h a) id)⟩
def PostI(mg:Str->Option TB)(E:XK)(g:Gd)(M:Addr->Prop)(ρ:Pr)(env:En)(σ:St)(H:Hp)(R:It->Hp->Prop):Res Src->Prop
 |.stuck=>False
 |.exc c=>FJ mg E g c
 |.ok s=>∀J M' H',Ext M H M' H'->Rep g M' ρ env σ H'->Walk J (vmsk g M' s.fr ρ s.al) H' s.xs->R J H'
def J4(mg:Str->Option TB)(E:XK)(wi:TI)(f:En->Res Src):Prop:=∀g M ρ env σ H R,Rep g M ρ env σ H->PostI mg E g M ρ env σ H R (f env)->wi σ H R
def CW(X:Cx)(E:XK)(tg iter:Expr)(f:En->Res Src):Prop:=∃wi,PI X tg iter wi/\J4 X.mg E wi f
section
variable{X:Cx}{E:XK}
def QA(K:Tw)(tl:TE):TI:=λσ H R=>tl σ H λx H1=>∃a,x=.ref a/\(((∃xs,SqL K H1 a xs)/\R (Qg K a) H1)\/((∃xs,SqT K H1 a xs)/\R (Qh K a) H1))
def J5(hl:PE X l tl):PI X tg l (QA X.K tl):=by
 intro ag s σ H R I h;refine eS (hl ag s σ H _ I h) λv s1 ⟨x,H1,I1,r1,q1⟩=>?_;obtain⟨a,e,q⟩:=q1;subst e;cases r1;rcases q with⟨⟨xs,hq⟩,q⟩|⟨⟨xs,hq⟩,q⟩
 .obtain⟨its,rv,p,hz⟩:=I1.list hq;refine rH p.isList ?_;refine⟨s1.heap.objs.size,[s1.heap.objs.size],_,_,H1,rfl,I1.kept (t':=s1.toks) λb o e=>c6 _ e,AW a _,⟨_,gM _ rfl,rfl,rfl⟩,λb hb=>?_,q⟩;have e:b=s1.heap.objs.size:=by simpa using hb
  subst e;exact I1.wQ (dJ _) (I1.bP.fresh (dJ _))
 .obtain⟨its,rv,p,hz⟩:=I1.tuple hq;refine wpAny_pyIter_tuple (show s1.heap.IsTuple a its.toArray from p) ?_;refine⟨s1.heap.objs.size,[s1.heap.objs.size],_,_,H1,rfl,I1.kept (t':=s1.toks) λb o e=>c6 _ e,yN a _,⟨_,gM _ rfl,rfl,rfl⟩,λb hb=>?_,q⟩;have e:b=s1.heap.objs.size:=by simpa using hb
  subst e;exact I1.wQ (dJ _) (I1.bP.fresh (dJ _))
def Bk{K:Tw}{a:Addr}{m:Addr->Prop}(h:(H a=some (.lst vs)/\m a)\/∃o,H a=some (.dr o (.lst vs))/\m a)(is:IsAll H m ds vs):Walk (Qg K a) m H ds:=by
 have st:∀H',(∀a o,H a=some o->(m a\/gS o)->H' a=some o)->SqL K H' a vs:=λH' k=>by
  rcases h with⟨h,hm⟩|⟨o,h,_⟩
  .exact .inl (.inl (k a _ h (.inl hm)))
  .exact .inl (.inr ⟨o,k a _ h (.inr True.intro)⟩)
 refine⟨λH' i d k e=>?_,λH' k=>⟨vs,st H' k,by rw[is.length];exact dJ _⟩⟩;obtain⟨v,ev,iv⟩:=(is.mono k λ_ _ _ z=>z:IsAll H' m ds vs).get e;refine⟨⟨vs,v,st H' k,ev⟩,λx H'' y=>?_⟩;obtain⟨rfl,y⟩:=y;have:=y vs (st _ k);rw[ev]at this;cases this;exact⟨Same.refl _,iv⟩
def CY{K:Tw}{a:Addr}{m:Addr->Prop}(h:H a=some (.tup vs))(is:IsAll H m ds vs):Walk (Qh K a) m H ds:=by have st:∀H',(∀a o,H a=some o->(m a\/gS o)->H' a=some o)->SqT K H' a vs:=λH' k=>SqT.of (k a _ h (.inr True.intro));refine⟨λH' i d k e=>?_,λH' k=>⟨vs,st H' k,by rw[is.length];exact dJ _⟩⟩;obtain⟨v,ev,iv⟩:=(is.mono k λ_ _ _ z=>z:IsAll H' m ds vs).get e;refine⟨⟨vs,v,st H' k,ev⟩,λx H'' y=>?_⟩;obtain⟨rfl,y⟩:=y;have:=y vs (st _ k);rw[ev]at this;cases this;exact⟨Same.refl _,iv⟩
noncomputable def jo(lo:Int)(n:Nat):List D:=(List.range n).map λk=>.int (lo+(k:Nat))
def sY(lo:Int)(n:Nat):Walk (MR lo n) m H (jo lo n):=by
 refine⟨λH' i d k e=>?_,λH' k=>by show n<=(jo lo n).length;simp[jo]⟩;have hi:i<n:=by have:=(c5.mp e).1;simpa[jo]using this
 refine⟨hi,λx H'' y=>?_⟩;obtain⟨rfl,rfl⟩:=y;refine⟨Same.refl _,?_⟩;have:(jo lo n)[i]?=some (.int (lo+(i:Nat))):=by simp[jo,hi]
 rw[this]at e;cases e;rfl
def nn(f:En->Res R):En->Res Src:=λenv=>(f env).bind λr=>match r.d with
 |.lst ds=>.ok ⟨ds,r.fr,r.al⟩
 |.tup ds=>.ok ⟨ds,r.fr,r.al⟩
 |_=>.stuck
def fP(h:PD X E l f):CW X E tg l (nn f):=by
 obtain⟨t,p1,s1⟩:=h;refine⟨_,J5 p1,λg M ρ env σ H R rep p=>?_⟩;refine s1.one rep (P:=λM H r=>PostI X.mg E g M ρ env σ H R r) p (λ_ _ z=>z) (λ_ _ _ z=>z) (λM H M' H' r e p=>?_) λr v M1 H1 e1 rep1 is q=>?_
 .cases r with
  |stuck=>exact p
  |exc c=>exact p
  |ok s=>exact λJ M2 H2 e2=>p J M2 H2 (e.trans e2)
 .cases z:r.d with
  |lst ds=>rw[z]at is;simp only[z]at q;obtain⟨a,vs,rfl,h1,h2⟩:=is;exact⟨a,rfl,.inl ⟨⟨vs,.inl (h1.imp (·.1) λ⟨o,z,_⟩=>⟨o,z⟩)⟩,q _ M1 H1 (Ext.refl _ _) rep1 (Bk h1 h2)⟩⟩
  |tup ds=>rw[z]at is;simp only[z]at q;obtain⟨a,vs,rfl,h1,h2⟩:=is;exact⟨a,rfl,.inr ⟨⟨vs,SqT.of h1⟩,q _ M1 H1 (Ext.refl _ _) rep1 (CY h1 h2)⟩⟩
  |_=>simp only[z]at q;exact q.elim
noncomputable def cR(i:Int):Bool:=decide (-(2^62)<=i)&&decide (i<2^62)
def HY(fs:En->Res (List R)):En->Res Src:=λenv=>(fs env).bind λrs=>match rs.map R.d with
 |[.int j]=>if cR j then .ok ⟨jo 0 j.toNat,true,[]⟩else .stuck
 |_=>.stuck
def QB(fs:En->Res (List R)):En->Res Src:=λenv=>(fs env).bind λrs=>match rs.map R.d with
 |[.int i,.int j]=>if cR i&&cR j then .ok ⟨jo i (j-i).toNat,true,[]⟩else .stuck
 |_=>.stuck
def PostI.ext{mg:Str->Option TB}{M M':Addr->Prop}{R:It->Hp->Prop}(e:Ext M H M' H')(p:PostI mg E g M ρ env σ H R r):PostI mg E g M' ρ env σ H' R r:=by
 cases r with
 |stuck=>exact p
 |exc c=>exact p
 |ok s=>exact λJ M2 H2 e2=>p J M2 H2 (e.trans e2)
def ie(hg:Gl X "range") (hm:X.mg "range"=none) (ha:y3 X E [a] fs) (hs:autoParam (starEach [a] X.env=[(false,eval a X.env)]) TV):CW X E tg (.Call (.Name "range" p) [a] [] pos) (HY fs):=by
 obtain⟨t,p1,s1⟩:=ha;refine⟨_,AX hg hm p1 hs,λg M ρ env σ H Rq rep p=>s1.one rep (P:=λM H r=>PostI X.mg E g M ρ env σ H Rq r) p (λ_ _ z=>z) (λ_ _ _ z=>z) (λ_ _ _ _ _ e p=>p.ext e) λrs vs M1 H1 e1 rep1 is q=>?_⟩;generalize hd:rs.map R.d=ds at is q
 match ds,is,q with
 |[.int j],is,q=>
  obtain⟨v,w,rfl,i1,i2⟩:=is;cases i1;cases i2;dsimp only at q;by_cases hc:cR j=true
  .rw[dL hc]at q;simp only[cR,cH,cI]at hc;exact⟨j,rfl,hc.1,hc.2,q _ M1 H1 (Ext.refl _ _) rep1 (sY 0 j.toNat)⟩
  .rw[f7 hc]at q;exact q.elim
 |[],_,q=>exact q.elim
 |[.gP],_,q=>exact q.elim
 |[.bl _],_,q=>exact q.elim
 |[.str _],_,q=>exact q.elim
 |[.tup _],_,q=>exact q.elim
 |[.lst _],_,q=>exact q.elim
 |[.j7 _ _],_,q=>exact q.elim
 |.int _::_::_,_,q=>exact q.elim
 |.gP::_::_,_,q=>exact q.elim
 |.bl _::_::_,_,q=>exact q.elim
 |.str _::_::_,_,q=>exact q.elim
 |.tup _::_::_,_,q=>exact q.elim
 |.lst _::_::_,_,q=>exact q.elim
 |.j7 _ _::_::_,_,q=>exact q.elim
def de(asg:D->Bool->En->Option En)(fr:Bool)(body:En->Res Fl):List D->En->Res Fl
 |[],env=>.ok (.nx env)
 |x::xs,env=>match asg x fr env with
  |none=>.stuck
  |some ip=>(body ip).bind λr=>match r with
   |.nx bn=>de asg fr body xs bn
   |.ct bn=>de asg fr body xs bn
   |.bk bn=>.ok (.nx bn)
   |.rt r=>.ok (.rt r)
   |.rm r e=>.ok (.rm r e)
def ml(src:En->Res Src)(asg:D->Bool->En->Option En)(body:En->Res Fl):En->Res Fl:=λenv=>(src env).bind λs=>de asg s.fr body s.xs (dr env s.al)
def Ny(J:It)(u:TG)(tb:TS)(D:Ends)(σ:St)(H1:Hp):Prop:=∃W:Nat->Nat->St->Hp->Prop,(∃m,W 0 m σ H1)/\∀i m σ H,W i m σ H->(J.stop i H/\D.nx σ H)\/(J.go i H/\∃N:St->Hp->Prop,(∀σ' H',N σ' H'->∃m',m'<m/\W (i+1) m' σ' H')/\∀x H',J.Jc i H x H'->u x σ H' λσ2 H2=>tb {D with nx:=N,ct:=N,bk:=D.nx} σ2 H2)
def CZ{asg:D->Bool->En->Option En}{fb:En->Res Fl}{g:Gd}{M2:Addr->Prop}{ρ2:Pr}{env2:En}{σ:St}{H1:Hp}{D:Ends}(s2:J3 ix u asg)(s3:Gi X.mg E tb fb)(rep2:Rep g M2 ρ2 env2 σ H1)(wk2:Walk J (jm g M2 fr) H1 xs)(p2':PostS X.mg E g M2 H1 D (de asg fr fb xs env2)):Ny J u tb D σ H1:=by
 refine⟨λi m σ' H'=>m=xs.length-i/\i<=xs.length/\∃M' ρ' bn,Rep g M' ρ' bn σ' H'/\ox M2 H1 M' H'/\PostS X.mg E g M' H' D (de asg fr fb (xs.drop i) bn),⟨_,rfl,lU _,M2,ρ2,_,rep2,ox.refl _ _,p2'⟩,?_⟩;rintro i m σ' H' ⟨rfl,hle,M',ρ',bn,rep',f',p'⟩;have kp:∀a o,H1 a=some o->(jm g M2 fr a\/gS o)->H' a=some o:=λa o e z=>f'.h a o e (z.imp (·.1) id);by_cases hlt:i<xs.length
 .have ed:xs[i]?=some xs[i]:=by simp[hlt]
  obtain⟨go,yl⟩:=wk2.go H' i _ kp ed;have edrop:xs.drop i=xs[i]::xs.drop (i+1):=pQ hlt;rw[edrop]at p';unfold de at p';refine .inr ⟨go,λσ'' H''=>∃M'' ρ'' env'',Rep g M'' ρ'' env'' σ'' H''/\ox M2 H1 M'' H''/\PostS X.mg E g M'' H'' D (de asg fr fb (xs.drop (i+1)) env''),λσ'' H'' z=>⟨xs.length-(i+1),by lia,rfl,hlt,z⟩,λx H'' y=>?_⟩;obtain⟨sm,is⟩:=yl x H'' y;have rep'':=rep'.grow sm;have fx:ox M' H' M' H'':=⟨λ_ z=>z,λa o e _=>sm a o e⟩;have is':Is H'' (jm g M' fr) xs[i] x:=is.weak λa z=>jm.mono f'.m z;cases qa:asg xs[i] fr bn with
  |none=>simp only[qa]at p';exact p'.elim
  |some ip=>
   simp only[qa]at p';refine s2 g M' ρ' bn ip σ' H'' _ fr x _ rep'' is' qa λσ1 ρ1 rep1' _ _=>?_;refine s3 g M' ρ1 ip σ1 H'' _ rep1' ?_;have p'':=PostS.dr fx p';cases qb:fb ip with
   |stuck=>rw[qb]at p'';exact p''
   |exc c=>rw[qb]at p'';exact p''
   |ok r=>
    rw[qb]at p'';cases r with
    |nx e3=>exact λσ3 M3 ρ3 H3 f3 rep3=>⟨M3,ρ3,e3,rep3,(f'.trans fx).trans f3,PostS.dr f3 p''⟩
    |ct e3=>exact λσ3 M3 ρ3 H3 f3 rep3=>⟨M3,ρ3,e3,rep3,(f'.trans fx).trans f3,PostS.dr f3 p''⟩
    |bk e3=>exact p''
    |rt r=>exact p''
    |rm r e3=>exact p''
 .have e:i=xs.length:=by lia
  subst e;rw[Ts]at p';exact .inl ⟨wk2.stop H' kp,p' σ' M' ρ' H' (ox.refl _ _) rep'⟩
def eZ(hp:PassesOwn (model X.prog X.w) X.A X.env X.xe)(hc:X.calm=true)
 (hi:CW X E tg iter src) (hg:CV X ix tg asg) (hb:xw X E body fb) (hs:autoParam (∀x,foldedSetIterable iter X.env x=pure x) TU):vT X E (.For tg iter body [] pos) (ml src asg fb):=by
 obtain⟨wi,p1,s1⟩:=hi;obtain⟨u,p2,s2⟩:=hg;obtain⟨tb,p3,s3⟩:=hb;refine⟨_,Jw hp hc p1 p2 p3 hs,λg M ρ env σ H D rep p=>?_⟩;refine s1 g M ρ env σ H _ rep ?_;unfold ml at p;cases q:src env with
 |stuck=>rw[q]at p;exact p
 |exc c=>rw[q]at p;exact p
 |ok s=>rw[q]at p;intro J M1 H1 e1 rep1 wk;obtain⟨M2,ρ2,x2,rep2,o2,_,_⟩:=Rep.dr s.al rep1;have wk2:Walk J (jm g M2 s.fr) H1 s.xs:=wk.weak λa z=>z.elim (jm.mono x2) λ⟨i,hi,o⟩=>⟨o2 i hi a o,λ_=>(rep1.ck i a o).2.1⟩;have p2':PostS X.mg E g M2 H1 D (de asg s.fr fb s.xs (dr env s.al)):=PostS.dr (e1.dr.trans ⟨x2,λ_ _ q _=>q⟩) p;exact CZ s2 s3 rep2 wk2 p2'
end
theorem la:∀(names:List (Str×NameKind))(cs:List (Str×Addr)),(∀x∈names,x.2=.free->∃c,env.cells.lookup x.1=some c)->(∀y c,cs.lookup y=some c->env.cells.lookup y=some c)->
 ∃cl,(forIn names cs λ(x:Str×NameKind)(r:List (Str×Addr))=>(do
  if(x.2==.free)=true then
   let c <- cellOf env x.1
   pure (ForInStep.yield ((x.1,c)::r))
  else pure (ForInStep.yield r):Sem (ForInStep (List (Str×Addr)))))=pure cl/\(∀y c,cl.lookup y=some c->env.cells.lookup y=some c)/\(∀x∈names,x.2=.free->∃c,cl.lookup x.1=some c)/\(∀y c,cs.lookup y=some c->∃c',cl.lookup y=some c')
 |[],cs,_,h=>⟨cs,by simp,h,λ_ z=>absurd z (by simp),λy c e=>⟨c,e⟩⟩
 |(n,k)::r,cs,hf,h=>by
  by_cases hk:k=.free
  .subst hk;obtain⟨c,hc⟩:=hf (n,.free) (by simp) rfl;have hco:cellOf env n=pure c:=by simp[cellOf,hc]
   have h':∀y c',((n,c)::cs).lookup y=some c'->env.cells.lookup y=some c':=λy c' e=>by
    rw[gL]at e;cases hy:y==n with
    |true=>rw[hy]at e;cases e;rw[eq_of_beq hy];exact hc
    |false=>rw[hy]at e;exact h y c' e
   obtain⟨cl,e1,e2,e3,e4⟩:=la r ((n,c)::cs) (λx hx=>hf x (by simp[hx])) h';have self:∃c',cl.lookup n=some c':=e4 n c (by simp[gL]);refine⟨cl,?_,e2,λx hx hxf=>?_,λy c' e=>?_⟩
   .rw[S8];simp only[RW,Sd,hco,pure_bind];exact e1
   .rcases cJ.mp hx with rfl|hx
    .exact self
    .exact e3 x hx hxf
   .by_cases hy:y=n
    .rw[hy];exact self
    .refine e4 y c' ?_;have hb:(y==n)=false:=by simpa using hy
     rw[gL,hb];exact e
  .obtain⟨cl,e1,e2,e3,e4⟩:=la r cs (λx hx=>hf x (by simp[hx])) h;refine⟨cl,?_,e2,λx hx hxf=>?_,e4⟩
   .rw[S8];have hkb:(k==NameKind.free)=false:=by simpa using hk
    simp only[hkb,mU,Sj,pure_bind];exact e1
   .rcases cJ.mp hx with rfl|hx
    .exact absurd hxf hk
    .exact e3 x hx hxf
def nv(h:∀x∈scope.names,x.2=.free->∃c,env.cells.lookup x.1=some c) :
 ∃cl,closureFor scope env=pure cl/\(∀y c,cl.lookup y=some c->env.cells.lookup y=some c)/\(∀x∈scope.names,x.2=.free->∃c,cl.lookup x.1=some c):=by
 obtain⟨cl,e1,e2,e3,_⟩:=la scope.names [] h (λ_ _ e=>by simp at e);refine⟨cl,?_,e2,e3⟩;unfold closureFor;refine Eq.trans ?_ (show((pure cl:Sem (List (Str×Addr))) >>= λcs=>pure cs)=pure cl by simp);rw[<- e1]
 all_goals first
  |rfl
  |(congr 1;congr 1;funext x r;obtain⟨n,k⟩:=x;first|rfl|(dsimp only;split<;>simp_all))
theorem rj{f:Str->NameKind->NameKind}:∀(names:List (Str×NameKind))(y:Str),(names.map λx=>(x.1,f x.1 x.2)).lookup y=(names.lookup y).map (f y)
 |[],y=>rfl
 |(n,k)::r,y=>by
  rw[c7,gL,gL];cases h:y==n with
  |true=>rw[eq_of_beq h];rfl
  |false=>exact rj r y
def mn(scope:Scope)(env:Env)(y:Str):(relabel scope env).names.lookup y=(scope.names.lookup y).map λk=>if(k==.free&&env.scope.kind==.function&&env.kindOf y==some .cell)=true then .cell else k:=by
 have e:(relabel scope env).names=scope.names.map λx=>(x.1,(λn k=>if(k==NameKind.free&&env.scope.kind==.function&&env.kindOf n==some .cell)=true then NameKind.cell else k) x.1 x.2):=by unfold relabel;refine AO λx _=>?_;obtain⟨n,k⟩:=x;dsimp only;split<;>rfl
 rw[e];exact rj (f:=λn k=>if(k==NameKind.free&&env.scope.kind==.function&&env.kindOf n==some .cell)=true then NameKind.cell else k) scope.names y
def vY(h:scope.names.lookup y=some .free):(relabel scope env).names.lookup y=some .cell\/(relabel scope env).names.lookup y=some .free:=by
 rw[mn,h];simp only[Option.map_some];split
 .exact .inl rfl
 .exact .inr rfl
noncomputable def d6(X:Cx)(scope:Scope)(N:List Str)(cl:List (Str×Addr))(C:Addr)(s:Tv)(H:Hp)(ex:List Addr):Cx:={X with N:=N,s₀:=s,H₀:=H,env:=compEnvC scope cl C X.env,outer:=X.stack,ex:=ex,fn:=λ_=>false,pn:=[],xe:=λ_ _=>False}
section
def Gk(I:L2.Inv X ag σ H s)(hkind:scope.kind=.function)(hcell:∀y∈scope.names,y.2≠.cell)(hcl:∀y c,cl.lookup y=some c->X.env.cells.lookup y=some c)(hhas:∀x∈scope.names,x.2=.free->∃c,cl.lookup x.1=some c)
 (hC:s.heap.objs.size<=C) (hex:∀b∈ex,h8 X ag H b/\b<s.heap.objs.size):(d6 X scope N cl C s H ex).Ok where
 mod:=I.ok.mod
 kind:=hkind
 glob:=I.ok.glob
 blt:=I.ok.blt
 above:=hC
 inj:=λx y c h1 h2=>I.ok.inj x y c (hcl x c h1) (hcl y c h2)
 has:=λy hy=>by
  have key:∀k,(relabel scope X.env).names.lookup y=some k->(k=.cell\/k=.free)->∃c,cl.lookup y=some c:=λk e hk=>by
   rw[mn]at e;cases q:scope.names.lookup y with
   |none=>rw[q]at e;cases e
   |some k0=>
    have hm:=pN q;have h0:=hcell _ hm;have hf:k0=.free:=by
     rw[q]at e;simp only[Option.map_some,Option.some.injEq]at e;split at e
     .rename_i z;simp only[cH,Sa]at z;exact z.1.1
     .rcases hk with hk|hk
      .exact absurd (e.trans hk) h0
      .exact e.trans hk
    exact hhas _ hm hf
  rcases hy with hy|hy
  .exact key _ hy (.inl rfl)
  .exact key _ hy (.inr rfl)
 Mj:=λ_ _ h=>by cases h
 hd:=I.ok.hd
 frames:=I.ok.frames
 MD:=.inl rfl
 P2:=λb hb=>⟨je (iB (hex b hb).2 hC),λx c e=>(hex b hb).1.2.2.2.2.1 x c (hcl x c e)⟩
 bs:=λb o e=>I.bs b o e
 FN:=jQ I.ok.FN I.sz
 zN:=λb o e hb=>by
  rcases(hex b hb).1.2.2.2.1 with z|z
  .exact I.ok.zN b o e z
  .exact absurd (iB (f6 e) (jQ I.ok.FN z)) (yI _)
 B2:=λb hb hfs=>by
  rcases cJ.mp (I.qU b hfs)with z|z
  .exact(hex b hb).1.2.1 z
  .exact(hex b hb).1.2.2.1 z
 qX:=I.stack
 Jd:=I.wU
 kt:=I.kt
structure Py(X:Cx) (scope:Scope) (capN:List Str) (caps:List Nat):Prop where
 at':∀(k:Nat)(y:Str),capN[k]?=some y->∃j:Nat,caps[k]?=some j/\X.N[j]?=some y
 out:∀y∈capN,X.env.kindOf y=some .cell\/X.env.kindOf y=some .free
 w8:∀y∈capN,scope.names.lookup y=some .free
 len:caps.length=capN.length
noncomputable def lY(σ:St)(caps:List Nat):St:=caps.map λj=>(σ[j]?).join
def xy(I:L2.Inv X ag σ H s)(hkind:scope.kind=.function)(hcell:∀y∈scope.names,y.2≠.cell)(hcl:∀y c,cl.lookup y=some c->X.env.cells.lookup y=some c)(hhas:∀x∈scope.names,x.2=.free->∃c,cl.lookup x.1=some c)
 (hC:s.heap.objs.size<=C) (hex:∀b∈ex,h8 X ag H b/\b<s.heap.objs.size) (hc:Py X scope capN caps) (kp:∀b o,s.heap.get? b=some o->h4.get? b=some o) (ns:h4.Ns C m4) :
 L2.Inv (d6 X scope (tN++capN) cl C s H ex) [] (List.replicate tN.length none++lY σ caps) H {s with heap:=h4,toks:=tk} where
 ok:=Gk I hkind hcell hcl hhas hC hex
 os:=rfl
 bare:=I.bare
 base:=Un.kept kp
 loc:=by
  refine⟨m4,ns,λi y v e1 e2 e3=>?_⟩;by_cases hlt:i<tN.length
  .rw[pR (by simpa using hlt),SG]at e2;rw[dL hlt]at e2;cases e2
  .obtain⟨k,rfl⟩ : ∃k,i=tN.length+k:=⟨i-tN.length,by lia⟩;have e1:capN[k]?=some y:=by
    have e1:(tN++capN)[tN.length+k]?=some y:=e1
    rwa [jP (by lia),nO]at e1
   have e2:(lY σ caps)[k]?=some (some v):=by
    rwa [jP (by simp),SO,nO]at e2
   obtain⟨j,ej,eN⟩:=hc.at' k y e1;have e4:σ[j]?=some (some v):=by
    unfold lY at e2;rw[kE,ej]at e2;have e2:(σ[j]?).join=some v:=by simpa using e2
    cases q:σ[j]? with
    |none=>rw[q]at e2;cases e2
    |some o=>rw[q]at e2;cases o with
     |none=>cases e2
     |some w=>cases e2;rfl
   have hm:=gK e1;obtain⟨m,hn,hl⟩:=I.loc;have hout:=hc.out y hm;obtain⟨u,r,l⟩:=hl j y v eN e4 (.inr hout);refine⟨u,r,.inr ⟨vY (hc.w8 y hm),?_⟩⟩;obtain⟨c,hcl2⟩:=hhas (y,.free) (pN (hc.w8 y hm)) rfl;refine⟨c,hcl2,?_⟩;rcases l with⟨l,_⟩|⟨_,c',e5,z⟩
   .rcases hout with h|h<;>(rw[h]at l;cases l)
   .have:=hcl y c hcl2;rw[e5]at this;cases this;obtain⟨o,ho,hd⟩:=z;exact⟨o,kp _ o ho,hd⟩
 cell:=λy c e=>by obtain⟨v,o,ho,hd⟩:=I.cell y c (hcl y c e);exact⟨v,o,kp _ o ho,hd⟩
 free:=I.bP.fresh hC
 kM:=λy c e=>I.kM y c (hcl y c e)
 pin:=λp hp=>absurd (show p∈([]:List (Addr×Obj))from hp) (by simp)
 bP:=I.bP.kept kp
 len:=by simp[d6,lY,hc.len]
def qh(I:L2.Inv X ag σ H s)(hX:X'=d6 X scope N cl C s H ex)(hC:s.heap.objs.size<=C)(hex:∀b∈ex,h8 X ag H b/\b<s.heap.objs.size)
 (I':L2.Inv X' pl σ' H' s'):L2.Inv X ag σ H' s'/\h8 X ag H' C:=by
 subst hX;refine⟨I.Jb (ch:=ex) I'.os I'.base I'.bP I'.bare λb hb=>?_,I.wQ hC I'.free⟩;obtain⟨_,h2,h3,h4,h5,h6⟩:=(hex b hb).1;exact⟨h4,h2,h5,h6⟩
def vZ(I:L2.Inv X ag σ H s)(hf:h8 X ag H C)(sb:Heap.SameBut C s.heap h'):L2.Inv X ag σ H {s with heap:=h'}:=I.turned (t':=s.toks) (it:=C) (λb o hb e=>(sb.2 b hb).trans e) hf.1 hf.2.1 hf.2.2.2.1 hf.2.2.2.2.1 hf.2.2.2.2.2
end
section
def J6(X:Cx)(ifs:List Expr)(tt:TT):Prop:=∀(ag:List (Addr×Obj))(s:Tv)(σ:St)(H:Hp)(Q:Bool->Hp->Prop),L2.Inv X ag σ H s->tt σ H Q->
 wpAny (model X.prog X.w) X.A (forIn ifs true λc r=>if r=true then do let ok <- isTrue c X.env (eval c X.env);pure (ForInStep.yield ok)else pure (ForInStep.yield r)) (TP X ag σ Q) X.xe s
def Ae:J6 X [] (λ_ H Q=>Q true H):=λ_ _ σ H Q I q=>wpAny_tests_nil ⟨H,I,q⟩
def Gm(h:PT X c tt):J6 X [c] tt:=λag s σ H Q I q=>wpAny_tests_one (h ag s σ H Q I q)
def Bl(hX:X'=d6 X scope (tN++capN) cl C s3 H3 fp)(T:Turn X.prog X.w X.K tg J fp it tn)(hcalm:X.calm=true)
 (I4:L2.Inv X' [] (List.replicate tN.length none++σc) H3 s4) (cj:X'.N.length=tN.length+σc.length) (st4:tn 0 s4.heap) (hf:∀b∈fp,h8 X' [] H3 b)
 (hg:PG X' tg gt) (ht:J6 X' ifs tt) (he:PE X' elt te)
   (W:Nat->Nat->List V->Hp->Prop) (Fin:List V->Hp->Prop) (w0:∃m,W 0 m [] H3)
   (turn:∀i m acc H,W i m acc H->H Dl=some (.lst acc)/\((J.stop i H/\Fin acc H)\/(J.go i H/\∀xv H' o,J.Jc i H xv H'->o.length=tN.length->gt xv (o++σc) H' λσ2 H1=>(∀j:Nat,tN.length<=j->σ2[j]?=(o++σc)[j]?)/\tt σ2 H1 λb H2=>if b=true then
     te σ2 H2 λy H5=>H5 Dl=some (.lst acc)/\acc.length<sizeLine/\∃m',m'<m/\W (i+1) m' (acc++[y]) (bQ H5 Dl (.lst (acc++[y])))else ∃m',m'<m/\W (i+1) m' acc H2)))
   (R:Result->Tv->Prop) (hR:∀σ' H' acc s',L2.Inv X' [] σ' H' s'->H' Dl=some (.lst acc)->Fin acc H'->R (.ok .next) s') :
   codeAny (model X.prog X.w) X.A (.compLoop (.ListComp elt [⟨tg,iter,ifs,0⟩] scope pos) 0 (.ref it) (.ref Dl) (compEnvC scope cl C X.env)) R s4:=by
  obtain⟨m0,w0⟩:=w0;have eA:X'.A=X.A:=by rw[hX];rfl
  have eP:X'.prog=X.prog:=by rw[hX];rfl
  have eW:X'.w=X.w:=by rw[hX];rfl
  have eK:X'.K=X.K:=by rw[hX];rfl
  have eE:X'.env=compEnvC scope cl C X.env:=by rw[hX];rfl
  have eX:X'.xe=λ_ _=>False:=by rw[hX];rfl
  have eC:X'.calm=true:=by rw[hX];exact hcalm
  have stat:∀{H':Hp},(∀b∈fp,H' b=none)->∀b∈fp,h8 X' [] H' b:=λhn b hb=>⟨hn b hb,(hf b hb).2⟩;refine codeAny_loop rfl (λn s=>∃i o acc H,L2.Inv X' [] (o++σc) H s/\o.length=tN.length/\tn i s.heap/\(∀b∈fp,H b=none)/\W i n acc H) ?_ m0 ⟨0,List.replicate tN.length none,[],H3,I4,by simp,st4,λb hb=>(hf b hb).1,w0⟩;rintro n s5 ⟨i,o,acc,H5,I5,lo,st5,fr5,w5⟩;show wpAny _ X.A ((compTurn (.ListComp elt [⟨tg,iter,ifs,0⟩] scope pos) 0 (.ref it) (.ref Dl) (compEnvC scope cl C X.env)).onRaise (λx=>do noteFrame x (compEnvC scope cl C X.env);theTreesLotGoes x)) _ _ s5;refine wpAny_noted ?_;rw[compTurn_list];obtain⟨hD,alt⟩:=turn i n acc H5 w5;rcases alt with⟨stop,fin⟩|⟨go,step⟩
  .refine aB (Sx (aB (kU (eA▸T.done X' eP eW eK eC i [] s5 _ H5 _ I5 (stat fr5) st5 stop) (λr s6 ⟨hr,I6⟩=>?_) λ_ _ z=>z)));subst hr;exact fW (hR _ H5 acc s6 I6 hD fin)
  .refine aB (Sx (aB (kU (eA▸T.item X' eP eW eK eC i [] s5 _ H5 _ I5 (stat fr5) st5 go) (λr s6 ⟨u,hr,h6⟩=>?_) λ_ _ z=>z)));subst hr;refine aB (kU h6 (λ_ s7 ⟨xv,H7,I7,r7,y7,st7,fr7⟩=>?_) λ_ _ z=>z);have I7':=I7.pinned (stat fr7) (T.obj _ _ st7);have hg':=hg _ s7 _ H7 xv u _ I7' r7 (step xv H7 o y7 lo);rw[eP,eW,eA,eE,eX]at hg';refine aB (kU hg' (λ_ s8 ⟨σ8,H8,I8,shp,q8⟩=>?_) λ_ _ z=>z.elim);obtain⟨o2,lo2,eσ⟩ : ∃o2:St,o2.length=tN.length/\σ8=o2++σc:=by
    have l8:σ8.length=tN.length+σc.length:=I8.len.trans cj;refine⟨σ8.take tN.length,by rw[lC];lia,?_⟩;have ed:σ8.drop tN.length=σc:=by
     apply SJ
     intro j;rw[Te,shp (tN.length+j) (by lia),jP (by lia),lo,nO]
    rw[<- ed,Sg]
   subst eσ;have ht':=ht _ s8 _ H8 _ I8 q8;rw[eP,eW,eA,eE,eX]at ht';refine aB (kU ht' (λok s9 ⟨H9,I9,q9⟩=>?_) λ_ _ z=>z.elim);have again:∀{s':Tv}{H':Hp},L2.Inv X' ([]++pY fp s7.heap) (o2++σc) H' s'->L2.Inv X' [] (o2++σc) H' s'/\tn (i+1) s'.heap/\∀b∈fp,H' b=none:=λ{s' H'} J'=>by refine⟨J'.mT,T.keep _ _ _ st7 λb hb ob e=>(J'.pin (b,ob) (f_ _ (f_ _ (ib hb e)))).1,λb hb=>?_⟩;obtain⟨ob,e,d⟩:=T.obj _ _ st7 b hb;exact(J'.pin (b,ob) (f_ _ (f_ _ (ib hb e)))).2.1
   cases ok with
   |false=>obtain⟨m',hm,w9⟩:=(show ∃m',m'<n/\W (i+1) m' acc H9 from by simpa using q9);obtain⟨a1,a2,a3⟩:=again I9;exact fW ⟨rfl,m',hm,i+1,o2,acc,H9,a1,lo2,a2,a3,w9⟩
   |true=>
    have q9:te (o2++σc) H9 λy H5=>H5 Dl=some (.lst acc)/\acc.length<sizeLine/\∃m',m'<n/\W (i+1) m' (acc++[y]) (bQ H5 Dl (.lst (acc++[y]))):=by simpa using q9
    have he':=he _ s9 _ H9 _ I9 q9;rw[eP,eW,eA,eE,eX]at he';refine aB (aB (kU he' (λv s10 ⟨y,H10,I10,ry,eD,hl,m',hm,w10⟩=>?_) λ_ _ z=>z.elim));have hm':=mX (X:=X') _ s10 _ H10 (.ref Dl) [y] (.ref Dl) [v] (λw H'=>w=.gP/\H'=bQ H10 Dl (.lst (acc++[y]))) I10 rfl (.cons ry .nil) ⟨Dl,acc,y,rfl,rfl,eD,hl,rfl,rfl⟩;rw[eP,eW,eA,eX]at hm';refine aB (kU hm' (λ_ s11 ⟨w,H11,I11,_,_,eH⟩=>?_) λ_ _ z=>z.elim);subst eH;obtain⟨a1,a2,a3⟩:=again I11;exact fW (fW ⟨rfl,m',hm,i+1,o2,acc++[y],_,a1,lo2,a2,a3,w10⟩)
end
structure bW(X:Cx) (scope:Scope) (tN:List Str) (capN:List Str) (caps:List Nat):Prop where
 kind:scope.kind=.function
 AS:∀y∈scope.names,y.2≠.cell
 names:∀y∈scope.names,y.2=.local->scope.names.lookup y.1=some .local
 own:∀x∈tN,scope.names.lookup x=some .local
 free:∀y∈scope.names,y.2=.free->X.env.kindOf y.1=some .cell\/X.env.kindOf y.1=some .free
 cap:Py X scope capN caps
 nd:(tN++capN).Nodup
section
def j_(X:Cx)(scope:Scope)(tg:Expr)(tN:List Str)(capN:List Str)(caps:List Nat)(elt:Expr)(ifs:List Expr)(σ:St)(Fin:Addr->List V->Hp->Prop)(J:It)(H2:Hp):Prop:=
 ∀(Dl:Addr),H2 Dl=none->∀(cl:List (Str×Addr))(C:Addr)(s3:Tv)(fp:List Addr),∃(gt:TG)(tt:TT)(te:TE)(W:Nat->Nat->List V->Hp->Prop),
  PG (d6 X scope (tN++capN) cl C s3 (bQ H2 Dl (.lst [])) fp) tg gt/\J6 (d6 X scope (tN++capN) cl C s3 (bQ H2 Dl (.lst [])) fp) ifs tt/\PE (d6 X scope (tN++capN) cl C s3 (bQ H2 Dl (.lst [])) fp) elt te/\(∃m,W 0 m [] (bQ H2 Dl (.lst [])))/\
  ∀i m acc H,W i m acc H->H Dl=some (.lst acc)/\((J.stop i H/\Fin Dl acc H)\/(J.go i H/\∀xv H' (o:St),J.Jc i H xv H'->o.length=tN.length->gt xv (o++lY σ caps) H' λσ2 H1=>(∀j:Nat,tN.length<=j->σ2[j]?=(o++lY σ caps)[j]?)/\tt σ2 H1 λb H2=>if b=true then
   te σ2 H2 λy H5=>H5 Dl=some (.lst acc)/\acc.length<sizeLine/\∃m',m'<m/\W (i+1) m' (acc++[y]) (bQ H5 Dl (.lst (acc++[y])))else ∃m',m'<m/\W (i+1) m' acc H2))
def vf{use:Option (TB->Sem Unit)}{Qv:TB->Tv->Prop}{Fin:Addr->List V->Hp->Prop}(hc:X.calm=true)(S:bW X scope tN capN caps)(I:L2.Inv X ag σ H s)(hi:PI X tg iter wi)
 (h:wi σ H (j_ X scope tg tN capN caps elt ifs σ Fin))
 (hu:∀(Dl C:Addr)(acc:List V)(H':Hp)(s':Tv),L2.Inv X ag σ H' s'->h8 X ag H' C->H' Dl=some (.lst acc)->Fin Dl acc H'->(∃m,s'.heap.Ns C m)->compPost (model X.prog X.w) X.A X.xe use Qv (.ref Dl) C (.ok .next) s')
 (hs:autoParam (∀x,foldedSetIterable iter X.env x=pure x) TU) :
 wX X (comprehension (.ListComp elt [⟨tg,iter,ifs,0⟩] scope pos) scope X.env (firstIterPos [⟨tg,iter,ifs,0⟩] pos) (newList []) false (eval iter X.env) use) Qv X.xe s:=by
 obtain⟨cl,ecl,hcl,hhas⟩:=nv (scope:=scope) (env:=X.env) λy hy hf=>I.ok.has y.1 (S.free y hy hf);refine wpAny_comprehension_free rfl hs ecl S.kind S.names (eS (hi ag s σ H _ I h) λv s1 h1=>eS h1 λitv s2 h2=>?_);obtain⟨it,fp,tn,J,H2,rfl,I2,T,st2,f2,goal⟩:=h2;refine pO (wpAny_newFunctionEnv S.AS (by intro y hy;simp at hy) (λh₁ hns₁ hsb₁=>?_) S.kind);dsimp only at hns₁ hsb₁ ⊢;have hD:H2 s2.heap.objs.size=none:=I2.bP.fresh (dJ _);have I3:L2.Inv X ag σ (bQ H2 s2.heap.objs.size (.lst [])) { s2 with heap:=s2.heap.push { cls:=.type "list",dict:=none,data:=.seq ([]:List TB).toArray } }:=I2.laid (t':=s2.toks) (λb u e=>c6 _ e) (dJ _) ⟨lU _,[],0,.nil,gM _ rfl⟩;generalize hs3:({ s2 with heap:=s2.heap.push { cls:=.type "list",dict:=none,data:=.seq ([]:List TB).toArray } }:Tv)=s3 at I3;have e3:s2.heap.push { cls:=.type "list",dict:=none,data:=.seq ([]:List TB).toArray }=s3.heap:=by rw[<- hs3]
 rw[e3]at hns₁ hsb₁ ⊢;have kp:∀b o,s3.heap.get? b=some o->h₁.get? b=some o:=λb o e=>hsb₁.extBut b o (je (f6 e)) (c6 _ e);have k23:∀b o,s2.heap.get? b=some o->s3.heap.get? b=some o:=λb o e=>by rw[<- e3];exact c6 _ e
 have hex:∀b∈fp,h8 X ag (bQ H2 s2.heap.objs.size (.lst [])) b/\b<s3.heap.objs.size:=λb hb=>by obtain⟨o,ho,_⟩:=T.obj 0 _ st2 b hb;have hlt:b<s2.heap.objs.size:=f6 ho;refine⟨⟨?_,(f2 b hb).2⟩,f6 (k23 b o ho)⟩;rw[aH (je hlt)];exact(f2 b hb).1
 have es:({s2 with heap:=h₁,toks:=s2.toks+([]:List (Str×TB)).length}:Tv)={s3 with heap:=h₁,toks:=s2.toks+([]:List (Str×TB)).length}:=by rw[<- hs3]
 have I4:L2.Inv (d6 X scope (tN++capN) cl s3.heap.objs.size s3 (bQ H2 s2.heap.objs.size (.lst [])) fp) [] (List.replicate tN.length none++lY σ caps) (bQ H2 s2.heap.objs.size (.lst [])) {s3 with heap:=h₁,toks:=s2.toks+([]:List (Str×TB)).length}:=xy I3 S.kind S.AS hcl hhas (dJ _) hex S.cap kp hns₁;obtain⟨gt,tt,te,W,hg,ht,he,w0,turn⟩:=goal s2.heap.objs.size hD cl s3.heap.objs.size s3 fp;have st4:tn 0 h₁:=T.keep 0 _ _ st2 λb hb o e=>kp b o (k23 b o e);have f4:∀b∈fp,h8 (d6 X scope (tN++capN) cl s3.heap.objs.size s3 (bQ H2 s2.heap.objs.size (.lst [])) fp) [] (bQ H2 s2.heap.objs.size (.lst [])) b:=λb hb=>by
  obtain⟨f,hlt⟩:=hex b hb;refine⟨f.1,je hlt,λhfs=>?_,.inl hb,λy c e=>f.2.2.2.2.1 y c (hcl y c e),λp hp=>absurd (show p∈([]:List (Addr×Obj))from hp) (by simp)⟩;rcases cJ.mp (I3.qU b hfs)with z|z
  .exact f.2.1 z
  .exact f.2.2.1 z
 have loop:codeAny (model X.prog X.w) X.A (.compLoop (.ListComp elt [⟨tg,iter,ifs,0⟩] scope pos) 0 (.ref it) (.ref s2.heap.objs.size) (compEnvC scope cl s3.heap.objs.size X.env)) (compPost (model X.prog X.w) X.A X.xe use Qv (.ref s2.heap.objs.size) s3.heap.objs.size)
  {s3 with heap:=h₁,toks:=s2.toks+([]:List (Str×TB)).length}:=by
  refine Bl rfl T hc I4 (by show(tN++capN).length=_;simp[lY,S.cap.len]) st4 f4 hg ht he W (Fin s2.heap.objs.size) w0 turn _ λσ' H' acc s' I' hD' fin=>?_;obtain⟨Io,fo⟩:=qh I3 rfl (dJ _) hex I';obtain⟨m',hn',_⟩:=I'.loc;exact hu _ _ acc H' s' Io fo hD' fin ⟨m',hn'⟩
 rw[es];exact codeAny_compStart_list loop (T.self _ 0 _ _ _ st4 loop)
def C1(hc:X.calm=true)(S:bW X scope tN capN caps)(I:L2.Inv X ag σ H s)(hi:PI X tg iter wi)(h:wi σ H (j_ X scope tg tN capN caps elt ifs σ λDl _ H'=>Q (.ref Dl) H'))
 (hs:autoParam (∀x,foldedSetIterable iter X.env x=pure x) TU):wX X (eval (.ListComp elt [⟨tg,iter,ifs,0⟩] scope pos) X.env) (EP X ag σ Q) X.xe s:=by
 rw[eval_ListComp];refine vf (use:=none) hc S I hi h (λDl C acc H' s' Io fo hD fin hn=>?_) hs;obtain⟨m,hn⟩:=hn;exact⟨m,hn,λh' sb=>⟨.ref Dl,H',vZ Io fo sb,rfl,fin⟩⟩
def xA{D:Ends}{i:Nat}(hc:X.calm=true)(S:bW X scope tN capN caps)(hN:X.N.Nodup)(hi':X.N[i]?=some y)(hy:X.env.scope.names.lookup y=some .local)
 (hsw:swapsWith (.ListComp elt [⟨tg,iter,ifs,0⟩] scope pos) (some (.Name y py)) spos.line X.env=pure true) (I:L2.Inv X ag σ H s) (hi:PI X tg iter wi)
 (h:wi σ H (j_ X scope tg tN capN caps elt ifs σ λDl _ H'=>D.nx (σ.set i (some (.ref Dl))) H')) (hs:autoParam (∀x,foldedSetIterable iter X.env x=pure x) TU) :
 wX X (exec (.Assign [.Name y py] (.ListComp elt [⟨tg,iter,ifs,0⟩] scope pos) spos) X.env) (SP X ag D) X.xe s:=by
 rw[exec_Assign_Name_used _ _ _ _ hsw];refine aB (Sx (aB ?_));show wpAny _ X.A (do let _ <- comprehension (.ListComp elt [⟨tg,iter,ifs,0⟩] scope pos) scope X.env _ (newList []) false (eval iter X.env) (some (assign (.Name y py) X.env))) _ _ s;refine aB (kU (vf (use:=some (assign (.Name y py) X.env)) (Qv:=λ_ s'=>SP X ag D .next s') hc S I hi h (λDl C acc H' s' Io fo hD fin hn=>?_) hs) (λ_ s' hq=>fW (fW hq)) λ_ _ e=>e);obtain⟨m,hn⟩:=hn;show wpAny _ X.A (assign (.Name y py) X.env (.ref Dl)) _ _ _;refine wpAny_assign_Name (u3 (v:=.ref Dl) Io hN hi' (.inl hy) rfl (λs'' I'' ⟨a,sb,ha⟩=>?_) (.inr hy));have nca:C≠a:=by
  rcases ha with z|z
  .rw[z];exact fo.2.1
  .exact lX (fo.2.2.2.2.1 y a z)
 refine⟨m,hn.sameBut sb nca,λh' sb'=>?_⟩;exact⟨_,H',vZ I'' fo sb',fin⟩
end
noncomputable def Res.P3{α:Type}:Res α->Res α
 |.exc _=>.stuck
 |r=>r
def Gn(env:En)(j:Nat):Option Sl:=match env[j]? with
 |some (some (.val d fr))=>some (.val d fr)
 |some (some (.own ds fr))=>some (.val (.lst ds) fr)
 |some (some (.pW d))=>some (.val d true)
 |some (some (.pin d))=>some (.val d true)
 |some (some (.lz d))=>some (.val d true)
 |some (some (.fix _ (.tr d)))=>some (.val d true)
 |some (some (.fix _ (.ds d)))=>some (.val d true)
 |_=>none
def c_(env:En)(n:Nat)(caps:List Nat):En:=List.replicate n none++caps.map (Gn env)
def cy(mk:D->Option En)(test:En->Res Bool)(elt:En->Res R):List D->Res (List R)
 |[]=>.ok []
 |x::xs=>match mk x with
  |none=>.stuck
  |some e=>(test e).bind λb=>if b then(elt e).bind λr=>(cy mk test elt xs).bind λrs=>.ok (r::rs)else cy mk test elt xs
def gU(n:Nat)(caps:List Nat)(src:En->Res Src)(asg:D->Bool->En->Option En)(test:En->Res Bool)(elt:En->Res R):En->Res R:=λenv=>(src env).bind λs=>if s.xs.length<=lim then
 (cy (λd=>asg d s.fr (c_ env n caps)) test elt s.xs).P3.bind λrs=>.ok (pU (rs.map R.d) (bF rs) (s.al++caps.filter (fq env)))else .stuck
def v3(X:Cx)(E:XK)(ifs:List Expr)(f:En->Res Bool):Prop:=∃t,J6 X ifs t/\SndT X.mg E t f
section
def dv:v3 X E [] (λ_=>.ok true):=⟨_,Ae,λg M ρ env σ H Q rep p=>p M H (Ext.refl _ _) rep⟩
def xB(h:Bh X E c f):v3 X E [c] f:=let ⟨t,a,b⟩:=h;⟨t,Gm a,b⟩
end
section
variable{M1:Addr->Prop}
def HZ(rep:Rep g M1 ρ env σ H1)(s:Same H1 H)(ho:o.length=n)(hM:∀a,(M1 a\/∃i,i∈caps/\ρ i a)->M' a)(hf:∀a,M' a->H a≠none)(hi:∀a,M' a->g.H₀ a=none\/g.Ma a)(hfl:∀a,M' a->g.H₀ a=none->MuZ g H a) :
 Rep g M' (λ_ _=>False) (c_ env n caps) (o++lY σ caps) H where
 same:=rep.same.trans s
 lA:=hf
 w8:=hi
 fl:=hfl
 slot:=λi sl e=>by
  by_cases hlt:i<n
  .unfold c_ at e;rw[pR (by simpa using hlt),SG,dL hlt]at e;cases e
  .obtain⟨k,rfl⟩ : ∃k,i=n+k:=⟨i-n,by lia⟩;have e:(caps.map (Gn env))[k]?=some (some sl):=by
    unfold c_ at e
    rwa [jP (by simp),SO,nO]at e
   rw[kE]at e;cases q:caps[k]? with
   |none=>rw[q]at e;cases e
   |some j=>
    rw[q]at e;have e:Gn env j=some sl:=by simpa using e
    have hj:j∈caps:=gK q;unfold Gn at e;cases q2:env[j]? with
    |none=>rw[q2]at e;cases e
    |some o=>
     cases o with
     |none=>rw[q2]at e;cases e
     |some sl0=>
      obtain⟨v,ev,k2⟩:=rep.slot j sl0 q2;have el:(o++lY σ caps)[n+k]?=some (some v):=by rw[jP (by lia),ho,nO];unfold lY;rw[kE,q];simp[ev]
      rw[q2]at e;cases sl0 with
      |val d' fr'=>cases e;exact⟨v,el,Is.mono (λa o q _=>s a o q) (λa _ _ z=>⟨hM a (.inl z.1),z.2⟩) k2⟩
      |own ds' fr'=>cases e;obtain⟨a,vs,rfl,h1,h2,h4⟩:=k2;have ha:=(h2 a).mpr rfl;exact⟨_,el,a,vs,rfl,.inl ⟨s _ _ h1,hM a (.inr ⟨j,hj,ha⟩),λ_=>(rep.ck j a ha).2.1⟩,IsAll.mono (λa o q _=>s a o q) (λa _ _ z=>⟨hM a (.inl z.1),z.2⟩) h4⟩
      |pW d'=>cases e;exact⟨v,el,Is.mono (λa o q _=>s a o q) (λa _ _ z=>⟨hM a (.inr ⟨j,hj,z⟩),λ_=>(rep.ck j a z).2.1⟩) k2⟩
      |Fz d'=>cases e
      |FG a'=>cases e
      |FC ks'=>cases e
      |pin d'=>cases e;exact⟨v,el,Is.mono (λa o q _=>s a o q) (λa _ _ z=>⟨hM a (.inr ⟨j,hj,z⟩),λ_=>(rep.ck j a z).2.1⟩) k2.1⟩
      |lz d'=>cases e;exact⟨v,el,Is.mono (λa o q _=>s a o q) (λa _ _ z=>⟨hM a (.inr ⟨j,hj,z⟩),λ_=>(rep.ck j a z).2.1⟩) k2.1⟩
      |fix n q0=>
       cases q0 with
       |no=>cases e
       |tr d'=>cases e;exact⟨v,el,Is.mono (λa o q _=>s a o q) (λa _ _ z=>⟨hM a (.inr ⟨j,hj,z⟩),λ_=>(rep.ck j a z).2.1⟩) k2.2⟩
       |ds d'=>cases e;exact⟨v,el,Is.mono (λa o q _=>s a o q) (λa _ _ z=>⟨hM a (.inr ⟨j,hj,z⟩),λ_=>(rep.ck j a z).2.1⟩) k2.2.1⟩
 ck:=λ_ _ z=>z.elim
 apart:=λ_ _ _ z=>z.elim
 ow:=λ_ _ z=>z.elim
 len:=by simp[c_,lY,ho]
 zz:=λa z e=>rep.zz a z (s.free e)
end
noncomputable def C2(X:Cx)(scope:Scope)(tg:Expr)(tN:List Str)(capN:List Str)(caps:List Nat)(elt:Expr)(ifs:List Expr)(wi:TI):TE:=λσ H Q=>wi σ H (j_ X scope tg tN capN caps elt ifs σ λDl _ H'=>Q (.ref Dl) H')
structure CI(g:Gd) (M:Addr->Prop) (H1:Hp) (Dl:Addr) (C:Nat->List R->Prop) (full:List R) (i:Nat) (acc:List V) (H:Hp) (M':Addr->Prop) (rs bd:List R):Prop where
 sm:Same H1 H
 hD:H Dl=some (.lst acc)
 mi:∀a,M a->M' a
 mo:∀a,M' a->M a\/H1 a=none
 nD:¬M' Dl
 fz:∀a,M' a->H a≠none
 fl:∀a,M' a->g.H₀ a=none->MuZ g H a
 rl:rs.length<=i
 is:IsAll H (jm g M' (bF rs)) (rs.map R.d) acc
 qr:C i bd
 ef:full=rs++bd
section
def Bm{M1:Addr->Prop}{H1:Hp}{Q:VK}{J:It}{s:Src}{full:List R}(hix:∀j∈ix,j<tN.length)(hg:∀cl C s3 H3 fp,CV (d6 X scope (tN++capN) cl C s3 H3 fp) ix tg asg)(ht:∀cl C s3 H3 fp,v3 (d6 X scope (tN++capN) cl C s3 H3 fp) E0 ifs ft)(he:∀cl C s3 H3 fp,PD (d6 X scope (tN++capN) cl C s3 H3 fp) E0 elt fe)(rep1:Rep g M1 ρ env σ H1)(wk:Walk J (vmsk g M1 s.fr ρ s.al) H1 s.xs)(hlim:s.xs.length<=lim)(qc:cy (λd=>asg d s.fr (c_ env tN.length caps)) ft fe s.xs=.ok full)
 (p:PostE X.mg E g M1 ρ env σ H1 Q (.ok (pU (full.map R.d) (bF full) (s.al++caps.filter (fq env))))):j_ X scope tg tN capN caps elt ifs σ (λDl _ H'=>Q (.ref Dl) H') J H1:=by
 intro Dl hDl cl C s3 fp;obtain⟨gt,pg,sg⟩:=hg cl C s3 (bQ H1 Dl (.lst [])) fp;obtain⟨tt,pt,st⟩:=ht cl C s3 (bQ H1 Dl (.lst [])) fp;obtain⟨te,pe,se⟩:=he cl C s3 (bQ H1 Dl (.lst [])) fp;obtain⟨d0,dm,dow⟩:=rep1.free hDl;refine⟨gt,tt,te,λi m acc H=>m=s.xs.length-i/\i<=s.xs.length/\∃(M':Addr->Prop)(rs bd:List R),CI g (λa=>M1 a\/∃j,j∈s.al++caps/\ρ j a) H1 Dl (λi bd=>cy (λd=>asg d s.fr (c_ env tN.length caps)) ft fe (s.xs.drop i)=.ok bd) full i acc H M' rs bd,
  pg,pt,pe,⟨_,rfl,lU _,(λa=>M1 a\/∃j,j∈s.al++caps/\ρ j a),[],full,bJ hDl,aP,λ_ z=>z,λ_ z=>.inl z,?_,?_,?_,dJ _,rfl,qc,rfl⟩,?_⟩
 .rintro (z|⟨j,_,z⟩)
  .exact dm z
  .exact dow j z
 .rintro a (z|⟨j,_,z⟩) hn
  .exact rep1.lA a z ((bJ hDl).free hn)
  .obtain⟨_,_,uo,hz,_⟩:=rep1.ck j a z;rw[(bJ hDl) a _ hz]at hn;cases hn
 .rintro a (z|⟨j,_,z⟩) h0
  .exact(rep1.fl a z h0).same λo e=>bJ hDl _ _ e
  .exact .inl ((rep1.ck j a z).2.2.same λo e=>bJ hDl _ _ e)
 .rintro i m acc H2 ⟨rfl,hle,M',rs,bd,sm,hD2,hMi,hMo,nD,frz2,fl2,hrs,isA,qr,efull⟩;refine⟨hD2,?_⟩;have kp:∀a o,H1 a=some o->(vmsk g M1 s.fr ρ s.al a\/gS o)->H2 a=some o:=λa o e _=>sm a o e;have inn2:∀{M'':Addr->Prop}{a:Addr},(M1 a\/∃j,j∈s.al++caps/\ρ j a)\/H1 a=none->g.H₀ a=none\/g.Ma a:=λ{M'' a} z=>by
   rcases z with(z|⟨j,_,z⟩)|z
   .exact rep1.w8 a z
   .exact .inl (rep1.ck j _ z).2.1
   .exact .inl (rep1.same.free z)
  by_cases hlt:i<s.xs.length
  .have ed:s.xs[i]?=some s.xs[i]:=by simp[hlt]
   obtain⟨go,yl⟩:=wk.go H2 i _ kp ed;refine .inr ⟨go,λxv H3 o y lo=>?_⟩;obtain⟨s23,isx⟩:=yl xv H3 y;have edrop:s.xs.drop i=s.xs[i]::s.xs.drop (i+1):=pQ hlt;rw[edrop]at qr;unfold cy at qr;have isx':Is H3 (jm g M' s.fr) s.xs[i] xv:=isx.weak λa z=>by
    rcases z with z|⟨j,hj,z⟩
    .exact⟨hMi a (.inl z.1),z.2⟩
    .exact⟨hMi a (.inr ⟨j,by simp[hj],z⟩),λ_=>(rep1.ck j _ z).2.1⟩
   have repI:Rep g M' (λ_ _=>False) (c_ env tN.length caps) (o++lY σ caps) H3:=HZ rep1 (sm.trans s23) lo (λa z=>hMi a (z.imp id λ⟨j,hj,w⟩=>⟨j,by simp[hj],w⟩)) (λa z hn=>frz2 a z (s23.free hn)) (λa z=>inn2 (M'':=M') (hMo a z)) (λa z h0=>(fl2 a z h0).same λo e=>s23 _ _ e);cases qa:asg s.xs[i] s.fr (c_ env tN.length caps)with
   |none=>simp only[qa]at qr;cases qr
   |some envT=>
   simp only[qa]at qr;refine sg g M' _ _ envT _ H3 _ s.fr xv _ repI isx' qa λσ2 ρ2 repT shp nρ=>⟨λj hj=>shp j λz=>absurd (hix j z) (by lia),?_⟩;refine st g M' ρ2 _ _ H3 _ repT ?_;cases qt:ft envT with
   |stuck=>rw[qt]at qr;cases qr
   |exc c=>rw[qt]at qr;cases qr
   |ok b=>
    rw[qt]at qr;intro M4 H4 e4 rep4;cases b with
    |false=>refine vN ⟨s.xs.length-(i+1),by lia,rfl,hlt,M',rs,bd,(sm.trans s23).trans e4.h,e4.h _ _ (s23 _ _ hD2),hMi,hMo,nD,λa z hn=>frz2 a z (s23.free (e4.h.free hn)),λa z h0=>(fl2 a z h0).same λo e=>e4.h _ _ (s23 _ _ e),by lia,?_,by simpa using qr,efull⟩;exact IsAll.same e4.h (IsAll.same s23 isA)
    |true=>
     refine uE ?_;simp only[Res.fY,Sd]at qr;refine se g M4 ρ2 _ _ H4 _ rep4 ?_;cases qe:fe envT with
     |stuck=>rw[qe]at qr;cases qr
     |exc c=>rw[qe]at qr;cases qr
     |ok r=>
      rw[qe]at qr;simp only[Res.fY]at qr;cases qd:cy (λd=>asg d s.fr (c_ env tN.length caps)) ft fe (s.xs.drop (i+1))with
      |stuck=>rw[qd]at qr;cases qr
      |exc c=>rw[qd]at qr;cases qr
      |ok rest'=>
       rw[qd]at qr;have qr:r::rest'=bd:=by simpa using qr
       intro yv M5 H5 e5 rep5 ro;obtain⟨M6,e6,m56,rep6,is6⟩:=ro.is rep5 e5 rep4.same;have D3:H3 Dl=some (.lst acc):=s23 _ _ hD2;have D4:H4 Dl=some (.lst acc):=e4.h _ _ D3;have D5:H5 Dl=some (.lst acc):=e5.h _ _ D4;have nD4:¬M4 Dl:=λz=>(e4.n Dl z).elim nD λw=>by rw[D3]at w;cases w
       have nD6:¬M6 Dl:=λz=>(e6.n Dl z).elim nD4 λw=>by rw[D4]at w;cases w
       have M46:∀a,M4 a->M6 a:=e6.m;have up:∀a o,H5 a=some o->a≠Dl->bQ H5 Dl (.lst (acc++[yv])) a=some o:=λa o e n=>by rw[aH n];exact e
       have kp5:∀(fr:Bool) a o,H5 a=some o->(jm g M6 fr a\/gS o)->bQ H5 Dl (.lst (acc++[yv])) a=some o:=λfr a o e z=>up a o e λw=>by
        subst w;rcases z with z|z
        .exact nD6 z.1
        .rw[D5]at e;cases e;exact z
       refine⟨D5,?_,s.xs.length-(i+1),by lia,rfl,hlt,M6,rs++[r],rest',?_,aP,λa z=>M46 a (e4.m a (hMi a z)),λa z=>?_,nD6,λa z=>?_,λa z h0=>?_,by simp;lia,?_,qd,by rw[efull,<- qr];simp⟩
       .have:acc.length=rs.length:=by rw[isA.length,cc]
        exact nY (by lia)
       .intro b o e;exact up b o (e5.h _ _ (e4.h _ _ (s23 _ _ (sm _ _ e)))) (aD e hDl)
       .rcases e6.n a z with z|z
        .rcases e4.n a z with z|z
         .exact hMo a z
         .exact .inr (sm.free (s23.free z))
        .exact .inr (sm.free (s23.free (e4.h.free z)))
       .by_cases hw:a=Dl
        .rw[hw,aP];simp
        .rw[aH hw];exact rep6.lA a z
       .have hw:a≠Dl:=λe=>nD6 (e▸z);exact(rep6.fl a z h0).same λo e=>by rw[aH hw];exact e
       .rw[rK];refine IsAll.append ?_ ⟨yv,[],rfl,?_,rfl⟩
        .have i5:IsAll H5 (jm g M' (bF rs)) (rs.map R.d) acc:=((isA.same s23).same e4.h).same e5.h;refine(i5.weak λa z=>(⟨M46 a (e4.m a z.1),λe=>z.2 (by simp[bF]at e ⊢;exact e.1)⟩ : jm g M6 (bF (rs++[r])) a)).mono (kp5 _) λ_ _ _ z=>z
        .refine(is6.weak λa z=>?_:Is H5 (jm g M6 (bF (rs++[r]))) r.d yv).mono (kp5 _) λ_ _ _ z=>z;rcases z with z|⟨j,_,z⟩
         .exact⟨z.1,λe=>z.2 (by simp[bF]at e;exact e.2)⟩
         .exact(nρ _ _ z).elim
  .have ei:i=s.xs.length:=by lia
   subst ei;refine .inl ⟨wk.stop H2 kp,?_⟩;rw[Ts]at qr;unfold cy at qr;cases qr;rw[lT]at efull;subst efull;have RM:Rep g (λa=>M1 a\/(nl H1 H2 a/\M' a)) ρ env σ H2:=rep1.came sm M';have XM:Ext M1 H1 (λa=>M1 a\/(nl H1 H2 a/\M' a)) H2:=⟨λ_=>.inl,sm,λ_ z=>z.imp id (·.1.1)⟩;have nDl:¬(M1 Dl\/(nl H1 H2 Dl/\M' Dl)):=λz=>z.elim dm λz=>nD z.2;have nwD:∀b,V.ref Dl=.ref b->H1 b=none:=λb e=>by cases e;exact hDl
   unfold pU at p;by_cases hfl:D.aL (full.map R.d)=true
   .rw[dL hfl]at p;exact p _ _ H2 XM RM ⟨Dl,acc,rfl,hD2,nDl,hDl,dow,IsAll.flat hfl isA⟩
   .rw[f7 hfl]at p;by_cases hal:(s.al++caps.filter (fq env)).isEmpty=true
    .rw[dL hal]at p;refine p _ _ H2 XM RM ⟨Dl,acc,rfl,hD2,nDl,hDl,dow,isA.weak λa z=>⟨?_,z.2⟩⟩;rcases hMo a z.1 with(w|⟨j,hj,w⟩)|w
     .exact .inl w
     .exfalso;have he:s.al++caps.filter (fq env)=[]:=by simpa using hal
      rcases ir.mp hj with hj|hj
      .have:j∈s.al++caps.filter (fq env):=nQ _ hj;rw[he]at this;simp at this
      .have:j∈s.al++caps.filter (fq env):=f_ _ (q_.mpr ⟨hj,rep1.ow j a w⟩);rw[he]at this;simp at this
     .exact .inr ⟨⟨w,(fl2 a z.1 (rep1.same.free w)).elim id λq=>(rep1.zz a q.1 w).elim⟩,z.1⟩
    .rw[f7 hal]at p;refine p _ (λa=>(M1 a\/(nl H1 H2 a/\M' a))\/a=Dl) H2 ⟨λ_ z=>.inl (.inl z),sm,λa z=>z.elim (XM.n a) λe=>.inr (e▸hDl)⟩ (RM.more hD2 d0 dow) ⟨Dl,acc,rfl,.inl ⟨hD2,.inl ⟨.inr rfl,λ_=>d0⟩⟩,isA.weak λa z=>?_⟩;rcases hMo a z.1 with(w|⟨j,hj,w⟩)|w
     .exact .inl ⟨.inl (.inl w),z.2⟩
     .refine .inr ⟨j,?_,w⟩;rcases ir.mp hj with hj|hj
      .exact nQ _ hj
      .exact f_ _ (q_.mpr ⟨hj,rep1.ow j a w⟩)
     .exact .inl ⟨.inl (.inr ⟨⟨w,(fl2 a z.1 (rep1.same.free w)).elim id λq=>(rep1.zz a q.1 w).elim⟩,z.1⟩),z.2⟩
def xD(si:J4 X.mg E wi src)(hix:∀j∈ix,j<tN.length)(hg:∀cl C s3 H3 fp,CV (d6 X scope (tN++capN) cl C s3 H3 fp) ix tg asg)(ht:∀cl C s3 H3 fp,v3 (d6 X scope (tN++capN) cl C s3 H3 fp) E0 ifs ft)(he:∀cl C s3 H3 fp,PD (d6 X scope (tN++capN) cl C s3 H3 fp) E0 elt fe) :
 Snd X.mg E (C2 X scope tg tN capN caps elt ifs wi) (gU tN.length caps src asg ft fe):=by
 intro g M ρ env σ H Q rep p;refine si g M ρ env σ H _ rep ?_;unfold gU at p;cases q:src env with
 |stuck=>rw[q]at p;exact p
 |exc c=>rw[q]at p;exact p
 |ok s=>
  rw[q]at p;simp only[Res.fY]at p;intro J M1 H1 e1 rep1 wk Dl hDl cl C s3 fp;by_cases hlim:s.xs.length<=lim
  .rw[dL hlim]at p;cases qc:cy (λd=>asg d s.fr (c_ env tN.length caps)) ft fe s.xs with
   |stuck=>rw[qc]at p;exact p.elim
   |exc c=>rw[qc]at p;exact p.elim
   |ok full=>rw[qc]at p;have p:PostE X.mg E g M1 ρ env σ H1 Q (.ok (pU (full.map R.d) (bF full) (s.al++caps.filter (fq env)))):=PostE.ext e1 p;exact Bm hix hg ht he rep1 wk hlim qc p Dl hDl cl C s3 fp
  .rw[f7 hlim]at p;exact p.elim
def lb(hc:X.calm=true)(S:bW X scope tN capN caps)(hi:CW X E tg iter src)(hix:∀j∈ix,j<tN.length)(hg:∀cl C s3 H3 fp,CV (d6 X scope (tN++capN) cl C s3 H3 fp) ix tg asg)(ht:∀cl C s3 H3 fp,v3 (d6 X scope (tN++capN) cl C s3 H3 fp) E0 ifs ft)(he:∀cl C s3 H3 fp,PD (d6 X scope (tN++capN) cl C s3 H3 fp) E0 elt fe)
 (hs:autoParam (∀x,foldedSetIterable iter X.env x=pure x) TU):PD X E (.ListComp elt [⟨tg,iter,ifs,0⟩] scope pos) (gU tN.length caps src asg ft fe):=by
 obtain⟨wi,p1,s1⟩:=hi;exact⟨C2 X scope tg tN capN caps elt ifs wi,λag s σ H Q I h=>C1 hc S I p1 h hs,xD s1 hix hg ht he⟩
def kc(hc:X.calm=true)(S:bW X scope tN capN caps)(hN:X.N.Nodup)(hi':X.N[i]?=some y)(hy:X.env.scope.names.lookup y=some .local)
 (hi:CW X E tg iter src) (hix:∀j∈ix,j<tN.length) (hg:∀cl C s3 H3 fp,CV (d6 X scope (tN++capN) cl C s3 H3 fp) ix tg asg) (ht:∀cl C s3 H3 fp,v3 (d6 X scope (tN++capN) cl C s3 H3 fp) E0 ifs ft) (he:∀cl C s3 H3 fp,PD (d6 X scope (tN++capN) cl C s3 H3 fp) E0 elt fe)
 (hsw:autoParam (swapsWith (.ListComp elt [⟨tg,iter,ifs,0⟩] scope pos) (some (.Name y py)) spos.line X.env=pure true) TV) (hs:autoParam (∀x,foldedSetIterable iter X.env x=pure x) TU) :
 vT X E (.Assign [.Name y py] (.ListComp elt [⟨tg,iter,ifs,0⟩] scope pos) spos) (bN i (gU tN.length caps src asg ft fe)):=by
 obtain⟨wi,p1,s1⟩:=hi;exact⟨FV (C2 X scope tg tN capN caps elt ifs wi) (sD i),λag s σ H D I h=>xA hc S hN hi' hy hsw I p1 h hs,Ad (xD s1 hix hg ht he)⟩
end
def n5(N:List Str)(ds:List D):En:=ds.map (λd=>some (.val d false))++List.replicate (N.length-ds.length) none
def sZ:Res Fl->Res R
 |.ok (.nx _)=>.ok (.val .gP true [])
 |.ok (.rt r)=>.ok r
 |.ok _=>.stuck
 |.exc c=>.exc c
 |.stuck=>.stuck
def fy(N:List Str)(FB:En->Res Fl)(ds:List D):Res R:=sZ (FB (n5 N ds))
def Bn(is:IsAll H Ma ds vs):Rep (Nq H Ma) (λa=>Ma a/\H a≠none) (λ_ _=>False) (n5 N ds) (L2.ma N vs) H where
 same:=Same.refl H
 lA:=λa z=>z.2
 w8:=λa z=>.inr z.1
 fl:=λa z h=>absurd h z.2
 slot:=λi sl e=>by
  have hl:=is.length;unfold n5 at e;by_cases hi:i<ds.length
  .rw[pR (by simpa using hi),kE]at e;obtain⟨v,ev,iv⟩:=is.get (i:=i) (d:=ds[i]) (by simp[hi]);have e1:ds[i]?=some ds[i]:=by simp[hi]
   rw[e1]at e;cases e;refine⟨v,?_,Is.mono (λ_ _ q _=>q) (λa o q z=>⟨⟨z,by rw[q];simp⟩,λz=>by cases z⟩) iv⟩;unfold L2.ma;rw[pR (by simp;lia),kE,ev];rfl
  .rw[jP (by simpa using hi),SG]at e;split at e<;>cases e
 ck:=λ_ _ z=>z.elim
 apart:=λ_ _ _ z=>z.elim
 ow:=λ_ _ z=>z.elim
 len:=by have hl:=is.length;unfold n5 L2.ma;simp[hl]
 zz:=λ_ z=>z.elim
section
def sl_tupW:SlR X (λx lo hi H Q=>∃a xs,x=.ref a/\SqT X.K H a xs/\(HT.sIx xs.length 0 lo=0/\HT.sIx xs.length xs.length hi=xs.length)/\Q x H):=by
 intro ag s σ H x v vl vu lo hi sl Q I rx hs pl pu h;obtain⟨a,xs,rfl,hx,hw,q⟩:=h;cases rx;obtain⟨its,r,ht,hz⟩:=I.tuple hx;have cj:its.toArray.size=xs.length:=by rw[eQ];exact r.length.symm
 refine⟨"tuple",_,kW.lookup,ht.typeIs,?_⟩;obtain⟨os,hos,hcs,hds⟩:=id hs;have hTs:s.TypeIs (.ref sl) "slice":=⟨os,hos,hcs⟩;unfold getItem
 try with_reducible refine Si ?_
 first|refine aB (fW ?_)|skip
 refine aB (wpAny_sequenceKey ht.typeIs (by decide) ?_);refine aB (nN (name:=Str.ofString "__getitem__") ht.typeIs kW
  (KE kW ht.typeIs entry_tuple_getitem ?_ (args_tuple_getitem _ _)))
 show wpAny _ _ (Builtin.Tuple.tupleItemsOf (.ref a) >>= _) _ _ s;refine aB (tupleItemsOf_ ht ?_);refine aB (wpAny_typeOf hTs ?_);rw[dL (by decide)];refine aB (HT.sliceApplied_gen hs pl pu ?_);have hyes:((((HT.sIx its.toArray.size 0 lo:Nat):Int)==0&&(1:Int)==1&&(HT.sIx its.toArray.size its.toArray.size hi-HT.sIx its.toArray.size 0 lo)==its.toArray.size)=true):=by rw[cj,hw.1,hw.2];simp
 show wpAny _ _ (if(((HT.sIx its.toArray.size 0 lo:Nat):Int)==0&&(1:Int)==1&&(HT.sIx its.toArray.size its.toArray.size hi-HT.sIx its.toArray.size 0 lo)==its.toArray.size)=true then _ else _) _ _ s;rw[dL hyes];have fin:EP X ag σ Q (.ref a) s:=⟨.ref a,H,I,rfl,q⟩;refine aB (m:=Builtin.Tuple.tupleIsExact (.ref a)) ?_;unfold Builtin.Tuple.tupleIsExact;refine aB (wpAny_typeOf ht.typeIs ?_);refine fW ?_;rw[dL (by decide)];exact aB (wpAny_rule (fW ⟨_,rfl,fW fin⟩))
end
section
def dN{α:Type}(xs:List α)(lo hi:Option Int):List α:=(xs.drop (HT.sIx xs.length 0 lo)).take (HT.sIx xs.length xs.length hi-HT.sIx xs.length 0 lo)
def IsAll.cut(h:IsAll H m ds vs)(lo hi:Option Int):IsAll H m (dN ds lo hi) (xi vs lo hi):=by unfold dN xi;rw[h.length];exact(h.drop _).take _
noncomputable def H_(mg:Str->Option TB)(E:XK)(g:Gd)(M:Addr->Prop)(ρ:Pr)(env:En)(σ:St)(H:Hp)(Q:Option Int->Hp->Prop):Res (Option Int)->Prop
 |.stuck=>False
 |.exc c=>FJ mg E g c
 |.ok o=>∀M' H',Ext M H M' H'->Rep g M' ρ env σ H'->Q o H'
def PR(X:Cx)(E:XK)(e:Option Expr)(f:En->Res (Option Int)):Prop:=∃t,PO X e t/\∀g M ρ env σ H Q,Rep g M ρ env σ H->H_ X.mg E g M ρ env σ H Q (f env)->t σ H Q
noncomputable def d7:En->Res (Option Int):=λ_=>.ok none
def dw(f:En->Res R):En->Res (Option Int):=λenv=>(f env).bind λr=>match r.d with
 |.int i=>.ok (some i)
 |_=>.stuck
def bA:PR X E none d7:=⟨_,F1,λg M ρ env σ H Q rep p=>p M H (Ext.refl _ _) rep⟩
def bo(h:PD X E e f):PR X E (some e) (dw f):=by
 obtain⟨t,p1,s1⟩:=h;refine⟨_,F2 p1,λg M ρ env σ H Q rep p=>s1.one rep (P:=λM H r=>H_ X.mg E g M ρ env σ H Q r) p (λ_ _ z=>z) (λ_ _ _ z=>z) (λM H M' H' r e p=>?_) λr v M1 H1 e1 rep1 is q=>?_⟩
 .cases r with
  |stuck=>exact p
  |exc c=>exact p
  |ok o=>exact λM2 H2 e2=>p M2 H2 (e.trans e2)
 .cases z:r.d with
  |int i=>rw[z]at is;simp only[z]at q;cases is;exact⟨i,rfl,q M1 H1 (Ext.refl _ _) rep1⟩
  |_=>simp only[z]at q;exact q.elim
noncomputable def D.ty:D->String
 |.gP=>"NoneType" |.bl _=>"bool" |.int _=>"int" |.str _=>"str" |.tup _=>"tuple" |.lst _=>"list" |.j7 _ _=>"dict"
def Rm(K:Tw)(H:Hp)(x:V)(t:TB):Prop:=qY K H x t\/(t=.type "dict"/\∃a,x=.ref a/\Ri H a)
theorem Is.ty{m:Addr->Prop}{v:V}{K:Tw}(h:Is H m d v):Rm K H v (.type d.ty):=by
 cases d with
 |gP=>cases h;exact .inl .gP
 |bl b=>cases h;exact .inl (.bl b)
 |int b=>cases h;exact .inl (.int b)
 |str b=>cases h;exact .inl (.str b)
 |tup ds=>obtain⟨a,vs,rfl,h1,_⟩:=h;exact .inl (.tup h1)
 |lst ds=>
  obtain⟨a,vs,rfl,h1,_⟩:=h;rcases h1 with⟨h1,_⟩|⟨o,h1,_⟩
  .exact .inl (.lst h1)
  .exact .inl (.dr h1)
 |j7 ks ds=>obtain⟨a,kvs,rfl,h1,_⟩:=h;exact .inr ⟨rfl,a,rfl,h1.1.imp (λ⟨kvs,e,_⟩=>⟨kvs,e⟩) λ⟨kvs,e,_⟩=>⟨kvs,e⟩⟩
def Af(T:String)(d:D):Bool:=match d with
 |.gP=>T=="NoneType"
 |.bl _=>T=="bool" || T=="int"
 |.int _=>T=="int"
 |.str _=>T=="str"
 |.tup _=>T=="tuple"
 |.lst _=>T=="list"
 |.j7 _ _=>T=="dict"
def Bo(T:String):Prop:=∀(K:Tw)(d:D),PySem.W.kitOne K (.type d.ty) (.type T)=some (Af T d)
def xE:Bo "int":=λK d=>by cases d<;>kernel_rfl
def Bp:Bo "bool":=λK d=>by cases d<;>kernel_rfl
def vg:Bo "list":=λK d=>by cases d<;>kernel_rfl
def n6:Bo "tuple":=λK d=>by cases d<;>kernel_rfl
def oH:Bo "str":=λK d=>by cases d<;>kernel_rfl
def oJ(T:String)(fa:En->Res R):En->Res R:=λenv=>(fa env).bind λr=>.ok (.val (.bl (Af T r.d)) true [])
def C3:CallR X (.builtin "isinstance") (λxs H Q=>∃x T t b,xs=[x,.ty T]/\Rm X.K H x t/\PySem.W.kitOne X.K t (.type T)=some b/\Q (.bl b) H):=by
 intro ag s σ H xs us Q I r h;obtain⟨x,T,t,b,rfl,ty,e,q⟩:=h;obtain⟨u,c,rfl,ru,rc⟩:=Ce r;obtain rfl:c=Value.type T:=rc;rcases ty with ty|⟨rfl,a,rfl,hd⟩
 .exact A4 I ru ty e λtk=>⟨.bl b,H,I.tok tk,rfl,q⟩
 .obtain rfl:u=Value.ref a:=ru;obtain⟨t1,_⟩:=JQ I hd;exact lS Tg I.sx t1 e (λz=>nomatch z) λtk=>⟨.bl b,H,I.tok tk,rfl,q⟩
def iU(hK:Bo T')(hg:Gl X "isinstance") (hm:X.mg "isinstance"=none) (hgT:Gl X T) (hmT:X.mg T=none) (hvT:bootBuiltins T=some (.type T')) (ha:PD X E e fa)
 (hnT:autoParam (T≠"__name__") TQ) (hdT:autoParam (dB T) TQ)
 (he:autoParam (starEach [e,.Name T q] X.env=(false,eval e X.env)::starEach [.Name T q] X.env) TV) (he2:autoParam (starEach [.Name T q] X.env=(false,eval (.Name T q) X.env)::starEach [] X.env) TV) (hpl:autoParam ((backTo pos (starEach [.Name T q] X.env)).any (·.1)=false) TV) :
 PD X E (.Call (.Name "isinstance" p) [e,.Name T q] [] pos) (oJ T' fa):=by
 obtain⟨ta,p1,s1⟩:=ha;refine⟨_,sG C3 hg hm (by decide +kernel) (gR p1 (gR (FR hgT hmT hvT (v:=.ty T') rfl hnT hdT) jl he2) he) (by decide) (by decide) he hpl,λg M ρ env σ H Q rep p=>s1.iT rep p λr v M1 H1 e1 rep1 is q=>?_⟩;exact⟨v,T',_,_,rfl,is.ty,hK X.K r.d,q _ M1 H1 (Ext.refl _ _) rep1 rfl⟩
end
section
noncomputable def ia:List D->Option (List Bool)
 |[]=>some []
 |.bl b::r=>(ia r).map λbs=>b::bs
 |_::_=>none
def xF:List R->Res R
 |[r]=>match r.d with
  |.lst ds=>match ia ds with
   |some bs=>.ok (.val (.bl (bs.all id)) true [])
   |none=>.stuck
  |_=>.stuck
 |_=>.stuck
theorem vh:∀{ds:List D}{bs:List Bool}{i:Nat}{d:D},ia ds=some bs->ds[i]?=some d->∃b,d=.bl b/\bs[i]?=some b
 |[],_,_,_,_,e=>by simp at e
 |.bl b::r,bs,0,d,h,e=>by
  simp at e;subst e;unfold ia at h;cases q:ia r with
  |none=>rw[q]at h;cases h
  |some bs'=>rw[q]at h;cases h;exact⟨b,rfl,rfl⟩
 |.bl b::r,bs,i+1,d,h,e=>by
  unfold ia at h;cases q:ia r with
  |none=>rw[q]at h;cases h
  |some bs'=>rw[q]at h;cases h;obtain⟨b',e1,e2⟩:=vh (i:=i) q (by simpa using e);exact⟨b',e1,by simpa using e2⟩
 |.gP::_,_,_,_,h,_=>by cases h
 |.int _::_,_,_,_,h,_=>by cases h
 |.str _::_,_,_,_,h,_=>by cases h
 |.tup _::_,_,_,_,h,_=>by cases h
 |.lst _::_,_,_,_,h,_=>by cases h
theorem vi:∀{ds:List D}{bs:List Bool},ia ds=some bs->bs.length=ds.length
 |[],_,h=>by cases h;rfl
 |.bl b::r,bs,h=>by
  unfold ia at h;cases q:ia r with
  |none=>rw[q]at h;cases h
  |some bs'=>rw[q]at h;cases h;simp[vi q]
 |.gP::_,_,h=>by cases h
 |.int _::_,_,h=>by cases h
 |.str _::_,_,h=>by cases h
 |.tup _::_,_,h=>by cases h
 |.lst _::_,_,h=>by cases h
def Bq(hc:X.calm=true):CallR X (.builtin "all") (λxs H Q=>∃(p:Addr)(vs:List V)(bs:List Bool),xs=[.ref p]/\SqL X.K H p vs/\vs=bs.map V.bl/\Q (.bl (bs.all id)) H):=by
 intro ag s σ H xs us Q I r h;obtain⟨p,vs,bs,rfl,hq,rfl,q⟩:=h;obtain⟨u,rfl,rx⟩:=j8 r;cases rx;obtain⟨its,rv,pl,hz⟩:=I.list hq;have hh:X.A.in1.handled=none:=I.ok.hd hc;obtain⟨o,ho,_⟩:=pl.isList;have hlt:p<s.heap.objs.size:=f6 ho;refine call_all_walk (rH pl.isList ?_);refine⟨s.heap.objs.size,_,_,_,_,_,λi=>(bs[i]?).getD true,rfl,Walks.list hh s.heap.objs.size p (je hlt) its.toArray,⟨⟨_,gM _ rfl,rfl,rfl⟩,?_⟩,?_,λh' tk hk=>?_⟩
 .exact pl.isList.at λo e=>c6 _ e
 .intro i v s' Q' E' hv hQ';have hv:its[i]?=some v:=by simpa using hv
  have hi:i<its.length:=(c5.mp hv).1;have hl:=rv.length;have hb:i<bs.length:=by simpa using(by rw[cc]at hl;lia:i<bs.length)
  obtain⟨u',hu,ru⟩:=rv.get (i:=i) (x:=.bl bs[i]) (by simp[hb]);rw[hv]at hu;cases hu;cases ru;have eb:bs[i]?=some bs[i]:=by simp[hb]
  dsimp only at hQ';rw[eb]at hQ';exact nJ hQ'
 .have hl:=rv.length;rw[cc]at hl;have e:((List.range its.toArray.size).all λi=>(bs[i]?).getD true)=bs.all id:=by
   rw[eQ,<- hl];rw[rJ,c8,c8];constructor
   .intro h b hb;obtain⟨i,hi⟩:=jO.mp hb;have:=h i (by simp;exact(c5.mp hi).1);rw[hi]at this;exact this
   .intro h i hi;have hi:i<bs.length:=by simpa using hi
    have eb:bs[i]?=some bs[i]:=by simp[hi]
    rw[eb];exact h _ (SX hi)
  rw[e];refine⟨.bl _,H,?_,rfl,q⟩;have I1:L2.Inv X ag σ H { s with heap:=s.heap.push { cls:=.type "list_iterator",data:=.fields #[.ref p,.int 0 0] } }:=I.kept (t':=s.toks) λb o e=>c6 _ e;have fo:=I.wQ (H':=H) (dJ s.heap.objs.size) (I.bP.fresh (dJ _));exact I1.turned (t':=tk) (it:=s.heap.objs.size) (λb o hb e=>hk b o (by simpa using hb) e) fo.1 fo.2.1 fo.2.2.2.1 fo.2.2.2.2.1 fo.2.2.2.2.2
def s_(hc:X.calm=true):mj X E (.builtin "all") xF:=by
 refine⟨_,Bq hc,λg M ρ env σ H Q rs vs rep i p=>?_⟩;rcases rs with _|⟨r,_|_⟩
 .exact p.elim
 rotate_left
 .exact p.elim
 obtain⟨v,w,rfl,i1,i2⟩:=i;cases i2;have i1:Is H (vmsk g M (bF [r]) ρ (cT [r])) r.d v:=i1;unfold xF at p;dsimp only at p;cases q:r.d with
 |lst ds=>
  rw[q]at p i1;obtain⟨a,ws,rfl,h1,h2⟩:=i1.rd;dsimp only at p;cases qb:ia ds with
  |none=>rw[qb]at p;exact p.elim
  |some bs=>
   rw[qb]at p;refine⟨a,ws,bs,rfl,.inl h1,?_,p _ M H (Ext.refl _ _) rep rfl⟩;apply SJ
   intro j;by_cases hj:j<ds.length
   .obtain⟨b,e1,e2⟩:=vh (i:=j) (d:=ds[j]) qb (by simp[hj]);obtain⟨v',ev,iv⟩:=h2.get (i:=j) (d:=ds[j]) (by simp[hj]);rw[e1]at iv;cases iv;rw[ev,kE,e2];rfl
   .have l1:=h2.length;have l2:=vi qb;rw[Sh (by lia),Sh (by simp;lia)]
 |_=>rw[q]at p;exact p.elim
def tj(i:Nat)(fk fv:En->Res R):En->Res Fl:=λenv=>match lF env i with
 |some (ds,fr)=>(fv env).bind λr=>(fk env).bind λk=>match k.d with
  |.int z=>match pZ ds.length z with
   |some j=>if ¬i∈r.al then .ok (.nx ((dr env r.al).set i (some (.own (ds.set j r.d) (fr&&r.fr)))))else .stuck
   |none=>.stuck
  |_=>.stuck
 |none=>.stuck
def C4(ho:PE X o (sC i))(hk:PD X E k fk)(hv:PD X E v fv)
 (ha:autoParam (∀v,assign (.Subscript o k ul) X.env v=(do
   let ov <- holding [v] (eval o X.env)
   let iv <- holding [v,ov] (eval k X.env)
   standAt ul
   holding [v,ov,iv] (setItem ov iv v)
   release [v,ov,iv] [])) TU)
 (hs:autoParam (swapsWithSole [.Subscript o k ul] v pos.line X.env=pure false) TV) (hw:autoParam (swappedStores [.Subscript o k ul] v X.env=pure none) TV)
 (h1:autoParam ((assignEach [.Subscript o k ul] X.env).map (·.2)=[assign (.Subscript o k ul) X.env]) TV):vT X E (.Assign [.Subscript o k ul] v pos) (tj i fk fv):=by
 obtain⟨tk,p1,s1⟩:=hk;obtain⟨tv,p2,s2⟩:=hv;refine⟨_,Jv p2 (Ju ho p1 Cj ha) hs hw h1,λg M ρ env σ H D rep p=>?_⟩;unfold tj at p;cases e1:lF env i with
 |none=>rw[e1]at p;exact p.elim
 |some q=>
  obtain⟨ds,fr⟩:=q;rw[e1]at p;dsimp only at p;obtain⟨M0,ρ0,l,vs,m0,rep0,ev,k1,k2,k4,hi,_⟩:=rep.AR e1;refine s2.qZ rep p λr y M' H' e rep' ro p'=>?_;obtain⟨M1,x1,x1m,rep1,is1⟩:=ro.is rep' e rep.same;refine⟨_,ev,s1.qZ (D:=D) rep1 (PostS.dr ⟨x1m,λ_ _ q _=>q⟩ p') λrk yk M5 H5 e5 rep5 rok p5=>?_⟩;obtain⟨M6,x6,x6m,rep6,is6⟩:=rok.is rep5 e5 rep1.same;cases z:rk.d with
  |int iz=>
   rw[z]at is6;simp only[z]at p5;cases is6;cases zj:pZ ds.length iz with
   |none=>simp only[zj]at p5;exact p5.elim
   |some j=>
    simp only[zj]at p5;by_cases hc:¬i∈r.al
    .rw[dL hc]at p5;have is1':Is H5 (vmsk g M6 r.fr ρ r.al) r.d y:=(is1.ext e5).weak λa z=>z.mono x6m;obtain⟨M2,ρ2,x2,rep2,o2,k5,k6⟩:=Rep.dr r.al rep6;have is2:Is H5 (jm g M2 r.fr) r.d y:=Is.frozen rep6 x2 o2 is1';have e2:lF (dr env r.al) i=some (ds,fr):=by unfold lF;rw[y_ _ hc];exact e1
     obtain⟨M3,ρ3,l3,vs3,m3,rep3,ev3,j1,j2,j4,hi3,_⟩:=rep2.AR e2;rw[ev]at ev3;cases ev3;have hl:H5 l=some (.lst vs):=e5.h _ _ (e.h _ _ k1);rw[hl]at j1;cases j1;have pl:ρ3 i l:=(j2 l).mpr rfl;obtain⟨nl3,_⟩:=rep3.ck i l pl;have is4:IsAll H5 (jm g M3 (fr&&r.fr)) (ds.set j r.d) (vs.set j y):=IsAll.set j (IsAll.weak (λb z=>⟨z.1,λq=>z.2 (by grind)⟩) j4) (Is.weak (λb z=>⟨m3 b z.1,λq=>z.2 (by grind)⟩) is2);have kp:∀b u,H5 b=some u->(jm g M3 (fr&&r.fr) b\/gS u)->bQ H5 l (.lst (vs.set j y)) b=some u:=λb u q z=>by
      rw[aH]
      .exact q
      .rintro rfl;rcases z with z|z
       .exact nl3 z.1
       .rw[hl]at q;cases q;exact z
     obtain⟨f1,rep4⟩:=rep3.write (sl:=.own (ds.set j r.d) (fr&&r.fr)) (vs':=vs.set j y) pl (by grind) ev ⟨l,vs.set j y,rfl,aP,j2,IsAll.mono kp (λ_ _ _ z=>z) is4⟩;rw[List.set_set]at rep4;refine⟨l,vs,iz,j,rfl,rfl,hl,by rw[k4.length];exact zj,?_⟩;exact p5 σ M3 ρ3 _ (ox.trans ⟨λa z=>m3 a (x2 a (x6m a z)),λ_ _ q _=>q⟩ f1) rep4
    .rw[f7 hc]at p5;exact p5.elim
  |_=>simp only[z]at p5;exact p5.elim
end
def QC(K:Tw)(a:Addr):It:=⟨λi H=>∃xs x,SqL K H a xs/\xs[i]?=some x,λi H y H'=>∃p x,H p=none/\y=.ref p/\H'=bQ H p (.tup [.int (i:Nat),x])/\∀xs,SqL K H a xs->xs[i]?=some x,λi H=>∃xs,SqL K H a xs/\xs.length<=i⟩
def Br{P:Tz}{w:World}{K:Tw}(a it e:Addr)(hei:e≠it):Turn P w K (.Tuple es k pos) (QC K a) [e,it] e (λi h=>(∃old,IsEnum h e it i old)/\h.IsListIter it a i) where
 mem:=by simp
 obj:=λi h st b hb=>by
  obtain⟨⟨old,he⟩,o,ho,c,d⟩:=st;rcases cJ.mp hb with rfl|hb
  .exact⟨_,he,λv z=>by cases z⟩
  .have:b=it:=by simpa using hb
   subst this;exact⟨o,ho,λv z=>by rw[d]at z;cases z⟩
 keep:=λi h h' st kk=>by obtain⟨⟨old,he⟩,hl⟩:=st;exact⟨⟨old,kk e (by simp) _ he⟩,hl.at λo q=>kk it (by simp) o q⟩
 item:=by
  intro X hP hw hK hc i ag s σ H E I hf st hg;subst hP hw hK;obtain⟨xs,x,hq,hx⟩:=hg;obtain⟨⟨old,he⟩,hl⟩:=st;obtain⟨its,rv,p,hz⟩:=I.list hq;obtain⟨u,hu,ru⟩:=rv.get hx;have fe:=hf e (by simp);have fi:=hf it (by simp);have hai:a≠it:=by intro z;obtain⟨o1,e1,c1,_⟩:=p.isList;obtain⟨o2,e2,c2,_⟩:=hl;rw[z,e2]at e1;cases e1;rw[c2]at c1;injection c1 with z;exact absurd z (by decide)
  have hae:a≠e:=by intro z;obtain⟨o1,e1,c1,_⟩:=p.isList;rw[z,he]at e1;cases e1;injection c1 with z;exact absurd z (by decide)
  have hh:X.A.in1.handled=none:=I.ok.hd hc;have hil:i<its.length:=(c5.mp hu).1;refine wpAny_pyNext_enum_itemD (Draws.list hh it a hai its.toArray) he ⟨hl,p.isList⟩ (by simpa using hil) hei (by simp;exact⟨hei,lX hae⟩) λx' h' tk hx' ho hs' hT hsz hk=>?_;have ex:x'=u:=by
   have:its[i]?=some x':=by simpa using hx'
   rw[hu]at this;exact(jD this).symm
  subst ex;refine⟨_,rfl,wpAny_letOwnedTupleGo_enum ho λh'' he'' hs''=>?_⟩;have keep2:∀b o,b≠e->b≠it->s.heap.get? b=some o->h''.get? b=some o:=λb o n1 n2 q=>(hs''.2 b n1).trans (hk b o n1 n2 q);have hTe:s.heap.objs.size≠e:=SM (f6 he);have hT'':h''.get? s.heap.objs.size=some { cls:=.type "tuple",data:=.seq #[.int i tk,x'] }:=(hs''.2 _ hTe).trans hT;have I1:L2.Inv X ag σ (bQ H s.heap.objs.size (.tup [.int (i:Nat),x])) {s with heap:=h'',toks:=tk+1}:=by
   refine I.step (g':=s.gens) (d':=s.drawn) (ch:=[e,it]) (λb hb=>?_) (λb o _ _ hn q _=>keep2 b o (λz=>hn (by simp[z])) (λz=>hn (by simp[z])) q)
    (λb o _ _ hn q _=>⟨o.slots,keep2 b o (λz=>hn (by simp[z])) (λz=>hn (by simp[z])) q⟩) (λb o _ q hH=>by rw[aH (je (f6 q))];exact hH)
    (λb o hn q=>⟨o,keep2 b o (λz=>hn (by simp[z])) (λz=>hn (by simp[z])) q⟩) (λb ys q=>by rw[aH (aD q (I.bP.fresh (dJ _)))];exact q)
    (λb o' u' q=>by rw[aH (aD q (I.bP.fresh (dJ _)))];exact q) (λb ps q=>⟨#[],by rw[aH (aD q (I.bP.fresh (dJ _)))];simp[q]⟩) (λm hm=>?_) (λb u' q=>?_) I.bare
   .rcases cJ.mp hb with rfl|hb
    .exact⟨fe.2.2.2.1,fe.2.1,fe.2.2.2.2.1,fe.2.2.2.2.2⟩
    .have:b=it:=by simpa using hb
     subst this;exact⟨fi.2.2.2.1,fi.2.1,fi.2.2.2.2.1,fi.2.2.2.2.2⟩
   .obtain⟨o,es',ep,ho',r⟩:=hm;exact⟨o,es',ep,keep2 _ o (lX fe.2.1) (lX fi.2.1) ho',r⟩
   .by_cases hb:b=s.heap.objs.size
    .subst hb;rw[aP]at q;cases q;refine⟨by show 2<=sizeLine;decide,[.int i tk,x'],.cons ⟨tk,rfl⟩ (.cons ru .nil),⟨_,hT'',rfl,0,rfl⟩⟩
    .rw[aH hb]at q;refine(I.bP b u' q).stay (λc v hc' q'=>keep2 c v ?_ ?_ q') (λc r=>by rw[aH (aD r (I.bP.fresh (dJ _)))];exact r) λc ys r=>by rw[aH (aD r (I.bP.fresh (dJ _)))];exact r
     .rcases hc' with z|z
      .rw[z];exact aD q fe.1
      .exact aD z fe.1
     .rcases hc' with z|z
      .rw[z];exact aD q fi.1
      .exact aD z fi.1
  refine⟨.ref s.heap.objs.size,_,I1,rfl,⟨_,x,I.bP.fresh (dJ _),rfl,rfl,λys hy=>by rw[I.yH hy hq];exact hx⟩,⟨⟨_,by simpa using he''⟩,?_⟩,λb hb=>?_⟩
  .obtain⟨o,q,r⟩:=hs'.1;exact⟨o,(hs''.2 it (lX hei)).trans q,r⟩
  .rcases cJ.mp hb with rfl|hb
   .rw[aH (je (f6 he))];exact fe.1
   .have:b=it:=by simpa using hb
    subst this;obtain⟨o,q,_⟩:=hl;rw[aH (je (f6 q))];exact fi.1
 done:=by
  intro X hP hw hK hc i ag s σ H E I hf st hg;subst hP hw hK;obtain⟨xs,hq,hx⟩:=hg;obtain⟨⟨old,he⟩,hl⟩:=st;obtain⟨its,rv,p,hz⟩:=I.list hq;have fi:=hf it (by simp);have hai:a≠it:=by intro z;obtain⟨o1,e1,c1,_⟩:=p.isList;obtain⟨o2,e2,c2,_⟩:=hl;rw[z,e2]at e1;cases e1;rw[c2]at c1;injection c1 with z;exact absurd z (by decide)
  have hh:X.A.in1.handled=none:=I.ok.hd hc;have hln:=rv.length;have Dr:Draws X.prog X.w X.A.in1 it [it,a] 0 (λ_ _=>True) (λ_ h=>h.IsListIter it a i/\h.IsList a its.toArray):=
   { live:=λ_ _ st=>let ⟨o,ho,_⟩:=st.1;⟨o,ho⟩
     frame:=λ_ _ _ st hk=>⟨st.1.at λo e=>hk it (by simp) o e,st.2.at λo e=>hk a (by simp) o e⟩
     item:=λi s Q E hi=>absurd hi (by lia)
     done:=λs Q E st hE=>wpAny_nextOf_list_end hh st.1 st.2 (by simp;lia) hE }
  exact wpAny_pyNext_enum_endD Dr he ⟨hl,p.isList⟩ λh' eb=>⟨rfl,I.turned (t':=s.toks) (λb o hb e=>eb b o hb e) fi.1 fi.2.1 fi.2.2.2.1 fi.2.2.2.2.1 fi.2.2.2.2.2⟩
 self:=λA i s Q E st h=>by obtain⟨⟨old,he⟩,_⟩:=st;exact wpAny_pyIter_enum he h
section
def Nz(K:Tw)(ta:TA):TI:=λσ H R=>ta σ H λvs H1=>∃a xs,vs=[.ref a]/\SqL K H1 a xs/\R (QC K a) H1
def Gp{l:Expr}(hg:Gl X "enumerate") (hm:X.mg "enumerate"=none) (ha:PA X [l] ta) (hs:autoParam (starEach [l] X.env=[(false,eval l X.env)]) TV):PI X (.Tuple es k ul) (.Call (.Name "enumerate" p) [l] [] pos) (Nz X.K ta):=by
 intro ag s σ H R I h;refine Call_ (nS I hg hm (by decide +kernel:bootBuiltins "enumerate"=some (.type "enumerate")) (nL (eS (ha pos ag s σ H _ I h) λus s1 ⟨vs,H1,I1,r1,q1⟩=>?_) hs rfl));obtain⟨a,xs,e,hq,q⟩:=q1;subst e;cases r1 with
 |cons r rr=>
  cases rr;cases r;obtain⟨its,rv,pl,hz⟩:=I1.list hq;refine call_enumerate_list pl.isList λh' he hl hsz kp=>?_;have I2:L2.Inv X ag σ H1 {s1 with heap:=h'}:=I1.kept (t':=s1.toks) kp;refine wpAny_pyIter_enum he ?_;refine⟨s1.heap.objs.size+1,[s1.heap.objs.size+1,s1.heap.objs.size],_,_,H1,rfl,I2,Br a s1.heap.objs.size (s1.heap.objs.size+1) (Nat.succ_ne_self _),⟨⟨_,by simpa using he⟩,hl⟩,λb hb=>?_,q⟩;rcases cJ.mp hb with rfl|hb
  .exact I1.wQ (Nat.le_succ _) (I1.bP.fresh (Nat.le_succ _))
  .have e:b=s1.heap.objs.size:=by simpa using hb
   subst e;exact I1.wQ (dJ _) (I1.bP.fresh (dJ _))
def iH:Nat->List D->List D
 |_,[]=>[]
 |n,d::ds=>.tup [.int (n:Nat),d]::iH (n+1) ds
theorem vj:∀(ds:List D)(n i:Nat),(iH n ds)[i]?=(ds[i]?).map λd=>.tup [.int ((n+i:Nat):Int),d]
 |[],_,_=>by simp[iH]
 |d::ds,n,0=>by simp[iH]
 |d::ds,n,i+1=>by
  have:=vj ds (n+1) i;simp only[iH,List.getElem?_cons_succ,this];congr 1;funext d;have e:n+1+i=n+(i+1):=by lia
  rw[e]
theorem vk:∀(ds:List D)(n:Nat),(iH n ds).length=ds.length
 |[],_=>rfl
 |d::ds,n=>by simp[iH,vk ds]
def Bs{K:Tw}{a:Addr}{m:Addr->Prop}(h:(H a=some (.lst vs)/\m a)\/∃o,H a=some (.dr o (.lst vs))/\m a)(is:IsAll H m ds vs):Walk (QC K a) m H (iH 0 ds):=by
 have st:∀H',(∀a o,H a=some o->(m a\/gS o)->H' a=some o)->SqL K H' a vs:=λH' k=>by
  rcases h with⟨h,hm⟩|⟨o,h,_⟩
  .exact .inl (.inl (k a _ h (.inl hm)))
  .exact .inl (.inr ⟨o,k a _ h (.inr True.intro)⟩)
 refine⟨λH' i d k e=>?_,λH' k=>⟨vs,st H' k,by rw[is.length,vk];exact dJ _⟩⟩;rw[vj]at e;cases q:ds[i]? with
 |none=>rw[q]at e;cases e
 |some d0=>
  rw[q]at e;have e:D.tup [.int ((0+i:Nat):Int),d0]=d:=by simpa using e
  obtain⟨v,ev,iv⟩:=(is.mono k λ_ _ _ z=>z:IsAll H' m ds vs).get q;refine⟨⟨vs,v,st H' k,ev⟩,λx H'' y=>?_⟩;obtain⟨p,x',hp,rfl,rfl,y⟩:=y;have:=y vs (st _ k);rw[ev]at this;cases this;have sm:Same H' (bQ H' p (.tup [.int (i:Nat),v])):=bJ hp;refine⟨sm,?_⟩;rw[<- e,Nat.zero_add];exact⟨p,_,rfl,aP,.int (i:Nat),[v],rfl,rfl,v,[],rfl,Is.same sm iv,rfl⟩
def xG(fs:En->Res (List R)):En->Res Src:=λenv=>(fs env).bind λrs=>match rs with
 |[r]=>match r.d with
  |.lst ds=>.ok ⟨iH 0 ds,r.fr,r.al⟩
  |_=>.stuck
 |_=>.stuck
def tm(hg:Gl X "enumerate") (hm:X.mg "enumerate"=none) (ha:y3 X E [l] fs) (hs:autoParam (starEach [l] X.env=[(false,eval l X.env)]) TV):CW X E (.Tuple es k ul) (.Call (.Name "enumerate" p) [l] [] pos) (xG fs):=by
 obtain⟨t,p1,s1⟩:=ha;refine⟨_,Gp hg hm p1 hs,λg M ρ env σ H Rq rep p=>s1.one rep (P:=λM H r=>PostI X.mg E g M ρ env σ H Rq r) p (λ_ _ z=>z) (λ_ _ _ z=>z) (λ_ _ _ _ _ e p=>p.ext e) λrs vs M1 H1 e1 rep1 is q=>?_⟩;rcases rs with _|⟨r,_|_⟩
 .exact q.elim
 rotate_left
 .exact q.elim
 obtain⟨v,w,rfl,i1,i2⟩:=is;cases i2;have i1:Is H1 (vmsk g M1 (bF [r]) ρ (cT [r])) r.d v:=i1;replace i1:=i1.weak λ_ z=>Ac z;dsimp only at q;cases z:r.d with
 |lst ds=>rw[z]at i1;rw[z]at q;dsimp only at q;obtain⟨a,ws,rfl,h1,h2⟩:=i1;exact⟨a,ws,rfl,.inl (h1.imp (·.1) λ⟨o,z,_⟩=>⟨o,z⟩),q _ M1 H1 (Ext.refl _ _) rep1 (Bs h1 h2)⟩
 |_=>rw[z]at q;exact q.elim
end
noncomputable def Rn(osc:Scope)(N:List Str)(scope:Scope)(tN capN:List Str)(caps:List Nat):Bool:=
 (scope.kind==.function)&&scope.names.all (λy=>y.2 != .cell)&&scope.names.all (λy=>y.2 != .local || scope.names.lookup y.1==some .local)&&tN.all (λx=>scope.names.lookup x==some .local) &&
 scope.names.all (λy=>y.2 != .free ||(osc.names.lookup y.1==some .cell || osc.names.lookup y.1==some .free))&&(capN.zip caps).all (λp=>N[p.2]?==some p.1)&&(caps.length==capN.length) &&
 capN.all (λy=>osc.names.lookup y==some .cell || osc.names.lookup y==some .free)&&capN.all (λy=>scope.names.lookup y==some .free)&&decide (tN++capN).Nodup
def bW.of(h1:X.env.scope=osc)(h2:X.N=N)(h3:Rn osc N scope tN capN caps=true):bW X scope tN capN caps:=by
 unfold Rn at h3;simp only[cH,c8,lV,Sa,bne_iff_ne,cI,ne_eq]at h3;obtain⟨⟨⟨⟨⟨⟨⟨⟨⟨a1,a2⟩,a3⟩,a4⟩,a5⟩,a6⟩,a7⟩,a8⟩,a9⟩,a10⟩:=h3;subst h1 h2;refine⟨a1,a2,λy hy hl=>(a3 y hy).resolve_left λz=>z hl,a4,λy hy hf=>(a5 y hy).resolve_left λz=>z hf,⟨λk y e=>?_,a8,a9,a7⟩,a10⟩;have hk:k<capN.length:=(c5.mp e).1;have hk2:k<caps.length:=by lia
 refine⟨caps[k],by simp[hk2],?_⟩;have hm:(y,caps[k])∈capN.zip caps:=by
  have:(capN.zip caps)[k]?=some (y,caps[k]):=by rw[List.getElem?_zip_eq_some];exact⟨e,by simp[hk2]⟩
  exact gK this
 exact a6 _ hm
structure Fn(K:Tw) (mg:Str->Option TB) (x:Str) (st:Stmt) (ps:List Str) (f:Addr) (fd:FuncData):Prop where
 fu:MC K x x st f fd
 bi:Binds K fd ps []
 gl:mg x=some (.ref f)
def PU(F:List D->Res R):Sp:=λvs H Q _=>vs.length=1/\∃ds Ma r,IsAll H Ma ds vs/\F ds=.ok r/\∀v H',Same H H'->RetOk (Nq H Ma) H' v r->Q v H'
theorem tp:∀ns:List Int,IsAll H m (ns.map D.int) (ns.map V.int)
 |[]=>rfl
 |n::r=>⟨.int n,r.map V.int,rfl,rfl,tp r⟩
def J7(hF:∀ns:List Int,ns.length<=63->∃f al,F [.lst (ns.map .int)]=.ok (.val (.bl true) f al))(H:Hp)(a:Addr)(ns:List Int)(hl:ns.length<=63)(hS:∃o,H a=some (.dr o (.lst (ns.map V.int)))) :
 PU F [.ref a] H (λv _=>v=.bl true) λ_ _ _=>False:=by
 obtain⟨f,al,e⟩:=hF ns hl;obtain⟨o,hS⟩:=hS;exact⟨rfl,[.lst (ns.map .int)],λb=>b=a,_,⟨_,[],rfl,⟨a,ns.map V.int,rfl,.inr ⟨o,hS,rfl⟩,tp ns⟩,rfl⟩,e,λv H' _ h=>h⟩
section
variable{P:Tz}{w:World}{K:Tw}{mg:Str->Option TB}{base:Heap}
def cw.top(h:cw P w K mg base CX k f fd ps (lE mg 1 F)):cw P w K mg base CX k f fd ps (PU F):=h.imp λvs H Q E ⟨hl,ds,Ma,r,is,e,q⟩=>⟨hl,ds,Ma,is,by rw[e];exact q⟩
def cz{x qual:Str}{st:Stmt}{f:Addr}{FB:En->Res Fl}(F:MC K x qual st f fd)(S:aZ N ps (ar st))
 (body:∀(cdv:TB)(A:TC)(outer:List Env)(s:Tv)(H:Hp)(E:XK),j3 k (A.deeper (envOfC qual (ar st) s.heap.objs.size f cdv))->xw (lZ P w K mg base N qual (ar st) f cdv A outer s H E) E (aT st) FB) :
 cw P w K mg base (jI P w) (k+1) f fd ps (lE mg ps.length (fy N FB)):=by
 obtain⟨oc,od,kV,doc,pm,an,cdv,ct,osl,rfl,lk,hcd⟩:=F.ex;refine M9 lk hcd S (λvs H Q E h=>h.1) λA outer s H vs Q E hr hsp=>?_;obtain⟨hl,ds,Ma,is,post⟩:=hsp;obtain⟨t,p1,s1⟩:=body cdv A outer s H E hr;refine⟨t,p1,s1 (Nq H Ma) _ _ (n5 N ds) (L2.ma N vs) H _ (Bn is) ?_⟩;unfold fy at post;cases q:FB (n5 N ds)with
 |stuck=>rw[q]at post;exact post
 |exc c=>rw[q]at post;exact post
 |ok r=>
  rw[q]at post;cases r with
  |nx env=>exact λσ M' ρ' H' _ rep=>post .gP H' rep.same rfl
  |rt r=>exact λv M' H' _ s ro _=>post v H' s (ro λ_ z=>z)
  |rm r env=>exact post.elim
  |bk env=>exact post.elim
  |ct env=>exact post.elim
def C5:nU (jI P w) X E0:=λ_ _ _ _ _ _ _ h=>by obtain⟨_,_,_,_,_,_,_,_,_,_,_,_,_,_,_,z⟩:=h;exact z.elim
end
def J8(h:jI P w l H s (λ_ _ _=>False) e s'):False:=by obtain⟨_,_,_,_,_,_,_,_,_,_,_,_,_,_,_,z⟩:=h;exact z
section
variable{P:Tz}{w:World}{K:Tw}{mg:Str->Option TB}{base:Heap}{N:List Str}{qual:Str}{scope:Scope}{f:Addr}{cd:TB}{A:TC}{outer:List Env}{s₀:Tv}{H₀:Hp}{E:XK}
def gb(c:Str)(fs:En->Res (List R)):En->Res Fl:=λenv=>(fs env).bind λrs=>if rs.length<=lim then .exc c else .stuck
def eI{np cpos pos:Pos}{e₀:Expr}{bd:List Expr}{fs:En->Res (List R)}(hc:XC K mg c C)(hg:Gl (lZ P w K mg base N qual scope f cd A outer s₀ H₀ E) c)(ha:y3 (lZ P w K mg base N qual scope f cd A outer s₀ H₀ E) E (e₀::bd) fs)
 (he:autoParam (starEach (e₀::bd) (lZ P w K mg base N qual scope f cd A outer s₀ H₀ E).env=(false,eval e₀ (lZ P w K mg base N qual scope f cd A outer s₀ H₀ E).env)::starEach bd (lZ P w K mg base N qual scope f cd A outer s₀ H₀ E).env) TV)
 (hpl:autoParam ((backTo cpos (starEach bd (lZ P w K mg base N qual scope f cd A outer s₀ H₀ E).env)).any (·.1)=false) TV) (hd:autoParam (dB c) TQ) :
 vT (lZ P w K mg base N qual scope f cd A outer s₀ H₀ E) E (.Raise (some (.Call (.Name c np) (e₀::bd) [] cpos)) none pos) (gb c fs):=by
 obtain⟨t,p1,s1⟩:=ha;refine⟨_,Cr (EW:=λH=>E (.ref C) none H) hc hg rfl p1 (λag σ H s h' x args I hm hE=>F9 I hm hE) he hpl hd,λg M ρ env σ H D rep p=>?_⟩;refine s1 g M ρ env σ H _ rep ?_;unfold gb at p;cases q:fs env with
 |stuck=>rw[q]at p;exact p
 |exc c'=>rw[q]at p;exact p
 |ok rs=>
  rw[q]at p;simp only[Res.fY]at p;intro vs M1 H1 e1 rep1 is;by_cases hl:rs.length<=lim
  .rw[dL hl]at p;refine⟨by rw[is.length,cc];exact jR hl,?_⟩;exact p (.ref C) none H1 hc.gl rep1.same
  .rw[f7 hl]at p;exact p.elim
end
structure FH(z TI TO i1 i2:Addr):Prop where
 TIz:TI≠z
 TOz:TO≠z
 i1z:i1≠z
 i2z:i2≠z
 TITO:TI≠TO
 TIi1:TI≠i1
 TIi2:TI≠i2
 TOi1:TO≠i1
 TOi2:TO≠i2
 i12:i1≠i2
def J9(n:Nat):FH (n+4) (n+2) (n+3) n (n+1):=
 ⟨(show(n+2:Nat)≠n+4 by lia),(show(n+3:Nat)≠n+4 by lia),(show(n:Nat)≠n+4 by lia),(show(n+1:Nat)≠n+4 by lia),(show(n+2:Nat)≠n+3 by lia),(show(n+2:Nat)≠n by lia),(show(n+2:Nat)≠n+1 by lia),
   (show(n+3:Nat)≠n by lia),(show(n+3:Nat)≠n+1 by lia),(show(n:Nat)≠n+1 by lia)⟩
section
def i_:List D->List D->List D
 |d::ds,e::es=>.tup [d,e]::i_ ds es
 |_,_=>[]
theorem xH:∀(ds es:List D)(i:Nat),(i_ ds es)[i]?=(match ds[i]?,es[i]? with|some d,some e=>some (.tup [d,e])|_,_=>none)
 |[],_,_=>by simp[i_]
 |d::ds,[],i=>by simp only[i_,List.getElem?_nil];cases(d::ds)[i]?<;>rfl
 |d::ds,e::es,0=>by simp[i_]
 |d::ds,e::es,i+1=>by simp only[i_,List.getElem?_cons_succ];exact xH ds es i
theorem xI:∀(ds es:List D),(i_ ds es).length=min ds.length es.length
 |[],_=>by simp[i_]
 |d::ds,[]=>by simp[i_]
 |d::ds,e::es=>by simp only[i_,i8,xI ds es];lia
def Ag(h:vmsk g M (bF [r,q]) ρ (cT [r,q]) a):vmsk g M (r.fr&&q.fr) ρ (r.al++q.al) a:=by
 have e1:bF [r,q]=(r.fr&&q.fr):=by simp[bF]
 have e2:cT [r,q]=r.al++q.al:=by simp[cT]
 rw[e1,e2]at h;exact h
end
section
def QD(k:Int->Int->Int):List R->Res R
 |[r,q]=>match r.d,q.d with
  |.int i,.int j=>.ok (.val (.int (k i j)) true [])
  |_,_=>.stuck
 |_=>.stuck
def Gq:List R->Res R:=QD λi j=>if j<i then j else i
def NA(h:CallR X f (λxs H Q=>∃i j,xs=[.int i,.int j]/\Q (.int (k i j)) H)):mj X E f (QD k):=by
 refine⟨_,h,λg M ρ env σ H Q rs vs rep i p=>?_⟩;rcases rs with _|⟨r,_|⟨q,_|_⟩⟩
 .exact p.elim
 .exact p.elim
 rotate_left
 .exact p.elim
 obtain⟨v,w,rfl,i1,v2,w2,rfl,i2,i3⟩:=i;cases i3;have i1:Is H (vmsk g M (bF [r,q]) ρ (cT [r,q])) r.d v:=i1;have i2:Is H (vmsk g M (bF [r,q]) ρ (cT [r,q])) q.d v2:=i2;unfold QD at p;dsimp only at p;cases z:r.d with
 |int a=>
  cases z2:q.d with
  |int b=>rw[z]at i1;rw[z2]at i2;rw[z,z2]at p;cases i1;cases i2;exact⟨a,b,rfl,p _ M H (Ext.refl _ _) rep rfl⟩
  |_=>rw[z,z2]at p;exact p.elim
 |_=>rw[z]at p;exact p.elim
def J_(hc:X.calm=true):mj X E (.builtin "min") Gq:=NA (A1 hc)
def Gr:List R->Res R
 |[r]=>match r.d with
  |.int i=>.ok (.val (.int i) true [])
  |.bl b=>.ok (.val (.int (if b then 1 else 0)) true [])
  |_=>.stuck
 |_=>.stuck
def C6:mj X E (.type "int") Gr:=by
 refine⟨_,A2,λg M ρ env σ H Q rs vs rep i p=>?_⟩;rcases rs with _|⟨r,_|_⟩
 .exact p.elim
 rotate_left
 .exact p.elim
 obtain⟨v,w,rfl,i1,i2⟩:=i;cases i2;have i1:Is H (vmsk g M (bF [r]) ρ (cT [r])) r.d v:=i1;unfold Gr at p;dsimp only at p;cases z:r.d with
 |int a=>rw[z]at i1 p;cases i1;exact .inl ⟨a,rfl,p _ M H (Ext.refl _ _) rep rfl⟩
 |bl b=>rw[z]at i1 p;cases i1;exact .inr ⟨b,rfl,p _ M H (Ext.refl _ _) rep rfl⟩
 |_=>rw[z]at p;exact p.elim
end
section
def xJ(fa:En->Res R):En->Res R:=λenv=>(fa env).bind λra=>match ra.d with
 |.int i=>.ok (.val (.int (-i)) true [])
 |_=>.stuck
def za(ha:PD X E a fa):PD X E (.UnaryOp .USub a pos) (xJ fa):=by
 obtain⟨ta,pa,sa⟩:=ha;refine⟨_,MU JD pa,λg M ρ env σ H Q rep p=>sa.iT rep p λr v M' H' e rep' i p'=>?_⟩;cases q:r.d with
 |int b=>rw[q]at i;simp only[q]at p';cases i;exact⟨b,rfl,p' _ M' H' (Ext.refl _ _) rep' rfl⟩
 |_=>simp only[q]at p';exact p'.elim
def zb(hg:Gl X "range") (hm:X.mg "range"=none) (ha:y3 X E [a,b] fs) (hs:autoParam (starEach [a,b] X.env=[(false,eval a X.env),(false,eval b X.env)]) TV) (hs2:autoParam (starEach [b] X.env=[(false,eval b X.env)]) TV) :
 CW X E tg (.Call (.Name "range" p) [a,b] [] pos) (QB fs):=by
 obtain⟨t,p1,s1⟩:=ha;refine⟨_,AY hg hm p1 hs hs2,λg M ρ env σ H Rq rep p=>s1.one rep (P:=λM H r=>PostI X.mg E g M ρ env σ H Rq r) p (λ_ _ z=>z) (λ_ _ _ z=>z) (λ_ _ _ _ _ e p=>p.ext e) λrs vs M1 H1 e1 rep1 is q=>?_⟩;generalize hd:rs.map R.d=ds at is q;cases ds with
 |nil=>exact q.elim
 |cons d ds=>
  cases d with
  |int i=>
   cases ds with
   |nil=>exact q.elim
   |cons d2 ds=>
    cases d2 with
    |int j=>
     cases ds with
     |cons d3 ds=>exact q.elim
     |nil=>
      obtain⟨v,w,rfl,i1,v2,w2,rfl,i2,i3⟩:=is;cases i1;cases i2;cases i3;dsimp only at q;by_cases hc:(cR i&&cR j)=true
      .rw[dL hc]at q;simp only[cR,cH,cI]at hc;exact⟨i,j,rfl,⟨hc.1.1,hc.1.2,hc.2.1,hc.2.2⟩,q _ M1 H1 (Ext.refl _ _) rep1 (sY i (j-i).toNat)⟩
      .rw[f7 hc]at q;exact q.elim
    |_=>exact q.elim
  |_=>exact q.elim
open Classical in
def eU(H:Hp)(m:Addr->Prop)(x:D)(u:TB):Bool:=decide (∃d v,RelV v u/\Is H m d v/\dq d x=true)
def qo(r:RelV v u)(h:Is H m d v):eU H m x u=dq d x:=by
 unfold eU;cases q:dq d x with
 |true=>exact @dM _ (Classical.propDecidable _) ⟨d,v,r,h,q⟩
 |false=>refine @fZ _ (Classical.propDecidable _) λ⟨d',v',r',h',q'⟩=>?_;have e:=L2.RelV.inj r r';subst e;have e:=Is.inj h h';subst e;rw[q]at q';cases q'
theorem ke:∀{ds:List D}{vs:List V}{us:List TB},IsAll H m ds vs->Vals vs us->us.any (eU H m x)=ds.any λd=>dq d x
 |[],_,_,h,r=>by cases h;cases r;rfl
 |d::ds,_,_,h,r=>by
  obtain⟨v,w,rfl,h1,h2⟩:=h;cases r with
  |cons r1 r2=>rw[SB,SB,qo r1 h1,ke h2 r2]
def Ka(neg:Bool)(K:Tw):R2:=λx y H Q=>∃p ds vs d m m',y=.ref p/\(SqL K H p vs\/SqT K H p vs)/\IsAll H m ds vs/\Is H m' d x/\(D.iS ds<=50/\d.dep<=50)/\Q (.bl (if neg then !(ds.any λe=>dq e d)else ds.any λe=>dq e d)) H
theorem jg(I:L2.Inv X ag σ H s)(hu:A.units+50<cLine)(hx:Is H m' d x)(hE:d.dep<=50)(rx:RelV x v) :
 ∀{ds:List D}{vs:List V}{us:List TB},IsAll H m ds vs->Vals vs us->D.iS ds<=50->∀u∈us,SeqAt.EqAt A s u v (eU H m d u)
 |[],_,_,h,r,_=>λu hu=>by cases h;cases r;cases hu
 |e::ds,_,_,h,r,hd=>λu hm=>by
  obtain⟨y,w,rfl,h1,h2⟩:=h;have hd':max e.dep (D.iS ds)<=50:=hd;cases r with
  |cons r1 r2=>
   rcases cJ.mp hm with rfl|hm
   .rw[qo r1 h1];exact CN I.bP 50 A hu (by lia) (by lia) (by lia) h1 hx r1 rx
   .exact jg I hu hx hE rx h2 r2 (by lia) u hm
def Kb(hu:X.A.units+64<cLine):OpR X (compareOp .In) (Ka false X.K):=by
 intro ag s σ H x y v u Q I rx ry h;obtain⟨p,ds,vs,d,m,m',rfl,hq,hi,hx,hd,q⟩:=h;cases ry;rcases hq with hq|hq
 .obtain⟨its,r,pl,hz⟩:=I.list hq;refine SeqAt.in_listAt (eU H m d) pl.isList (λw hw=>jg I (by grind) hx hd.2 rx hi r hd.1 w (by grind)) ⟨.bl _,H,I,rfl,?_⟩;rw[show its.toArray.any (eU H m d)=its.any (eU H m d) by simp,ke hi r];exact q
 .obtain⟨its,r,pl,hz⟩:=I.tuple hq;refine SeqAt.in_tupleAt (eU H m d) pl (λw hw=>jg I (by grind) hx hd.2 rx hi r hd.1 w (by grind)) ⟨.bl _,H,I,rfl,?_⟩;rw[show its.toArray.any (eU H m d)=its.any (eU H m d) by simp,ke hi r];exact q
def Bt(hu:X.A.units+64<cLine):OpR X (compareOp .NotIn) (Ka true X.K):=by
 intro ag s σ H x y v u Q I rx ry h;obtain⟨p,ds,vs,d,m,m',rfl,hq,hi,hx,hd,q⟩:=h;cases ry;rcases hq with hq|hq
 .obtain⟨its,r,pl,hz⟩:=I.list hq;refine SeqAt.notIn_listAt (eU H m d) pl.isList (λw hw=>jg I (by grind) hx hd.2 rx hi r hd.1 w (by grind)) ⟨.bl _,H,I,rfl,?_⟩;rw[show its.toArray.any (eU H m d)=its.any (eU H m d) by simp,ke hi r];exact q
 .obtain⟨its,r,pl,hz⟩:=I.tuple hq;refine SeqAt.notIn_tupleAt (eU H m d) pl (λw hw=>jg I (by grind) hx hd.2 rx hi r hd.1 w (by grind)) ⟨.bl _,H,I,rfl,?_⟩;rw[show its.toArray.any (eU H m d)=its.any (eU H m d) by simp,ke hi r];exact q
def B6(neg:Bool)(x:D)(ds:List D):Res R:=if D.iS ds<=50/\x.dep<=50 then .ok (.val (.bl (if neg then !(ds.any λe=>dq e x)else ds.any λe=>dq e x)) true [])else .stuck
def zc(neg:Bool)(a b:R):Res R:=match b.d with
 |.lst ds=>B6 neg a.d ds
 |.tup ds=>B6 neg a.d ds
 |_=>.stuck
def RR:R->R->Res R:=zc false
def Kc:R->R->Res R:=zc true
def C7(h:OpR X f (Ka neg X.K)):oG X E f (zc neg):=by
 refine⟨_,h,λg M ρ env σ H Q ra rb x y rep i1 i2 p=>?_⟩;unfold zc at p;have key:∀ds,PostE X.mg E g M ρ env σ H Q (B6 neg ra.d ds)->(D.iS ds<=50/\ra.d.dep<=50)/\Q (.bl (if neg then !(ds.any λe=>dq e ra.d)else ds.any λe=>dq e ra.d)) H:=λds p=>by
  unfold B6 at p;by_cases hd:D.iS ds<=50/\ra.d.dep<=50
  .rw[dL hd]at p;exact⟨hd,p _ M H (Ext.refl _ _) rep rfl⟩
  .rw[f7 hd]at p;exact p.elim
 cases e2:rb.d with
 |lst ds=>rw[e2]at p i2;obtain⟨a,vs,rfl,h1,h2⟩:=i2.rd;obtain⟨k1,k2⟩:=key ds p;exact⟨a,ds,vs,ra.d,_,_,rfl,.inl (.inl h1),h2,i1,k1,k2⟩
 |tup ds=>rw[e2]at p i2;obtain⟨a,vs,rfl,h1,h2⟩:=i2;obtain⟨k1,k2⟩:=key ds p;exact⟨a,ds,vs,ra.d,_,_,rfl,.inr (SqT.of h1),h2,i1,k1,k2⟩
 |_=>rw[e2]at p;exact p.elim
def NB(hu:X.A.units+64<cLine):oG X E (compareOp .In) RR:=C7 (Kb hu)
def C8(hu:X.A.units+64<cLine):oG X E (compareOp .NotIn) Kc:=C7 (Bt hu)
end
end L3
namespace L3
open PySem PySem.Spec PyProof.Rows L2
noncomputable def C9:D->Option gQ
 |.int i=>some (.inl i)
 |.str x=>some (.inr x)
 |_=>none
def rp:List D->Option (List gQ)
 |[]=>some []
 |d::ds=>match C9 d,rp ds with
  |some k,some ks=>some (k::ks)
  |_,_=>none
def Ke:D->Option (List gQ)
 |.tup ds=>rp ds
 |_=>none
section
def Is.key(h:Is H m d v)(e:C9 d=some k):v=kV k:=by
 cases d with
 |int i=>cases e;exact h
 |str x=>cases e;exact h
 |_=>cases e
theorem IsAll.keys:∀{ds:List D}{vs:List V}{ks:List gQ},IsAll H m ds vs->rp ds=some ks->vs=ks.map kV
 |[],_,_,h,e=>by cases h;cases e;rfl
 |d::ds,_,ks,h,e=>by
  obtain⟨v,r,rfl,h1,h2⟩:=h;unfold rp at e;cases q:C9 d with
  |none=>rw[q]at e;cases e
  |some k=>
   cases q2:rp ds with
   |none=>rw[q,q2]at e;cases e
   |some ks'=>rw[q,q2]at e;cases e;rw[h1.key q,IsAll.keys h2 q2];rfl
theorem Is.Ke(h:Is H m d v)(e:L3.Ke d=some k):∃b,v=.ref b/\H b=some (.tup (k.map kV)):=by
 cases d with
 |tup ds=>obtain⟨a,vs,rfl,h1,h2⟩:=h;have e:rp ds=some k:=e;rw[IsAll.keys h2 e]at h1;exact⟨a,rfl,h1⟩
 |_=>cases e
end
section
variable{X:Cx}{E:XK}
def tq:D->Option DK
 |.int i=>some (.inl (.inl i))
 |.str x=>some (.inl (.inr x))
 |.tup ds=>(rp ds).map .inr
 |_=>none
noncomputable def xK:DK->DK->Bool
 |.inl _,.inl _=>true
 |.inr _,.inr _=>true
 |_,_=>false
noncomputable def xL(ks:List DK)(k:DK):Bool:=ks.any λx=>decide (x=k)
def C_(neg:Bool)(a:D)(ks:List DK):Res R:=match tq a with
 |some k=>if ks.all (xK k)then .ok (.val (.bl (if neg then !xL ks k else xL ks k)) true [])else .stuck
 |none=>.stuck
def Bu(neg:Bool)(a b:R):Res R:=match b.d with
 |.j7 ks _=>C_ neg a.d ks
 |_=>zc neg a b
def tu:R->R->Res R:=Bu false
def gV:R->R->Res R:=Bu true
noncomputable def Kf(neg:Bool):R2:=λx y H Q=>∃a o,y=.ref a/\zY H a x o/\Q (.bl (if neg then !o.isSome else o.isSome)) H
def Kg(hu:X.A.units+64<cLine):OpR X (compareOp .In) (Kf false):=by intro ag s σ H x y v u Q I rx ry h;obtain⟨a,o,rfl,g,q⟩:=h;cases ry;exact Nh (by lia) I g rx λs' I'=>⟨.bl _,H,I',rfl,q⟩
def Bv(hu:X.A.units+64<cLine):OpR X (compareOp .NotIn) (Kf true):=by intro ag s σ H x y v u Q I rx ry h;obtain⟨a,o,rfl,g,q⟩:=h;cases ry;exact Cv (by lia) I g rx λs' I'=>⟨.bl _,H,I',rfl,q⟩
def xM{κ:Type}[DecidableEq κ]{kvs:List (κ×V)}(inj:κ->DK)(hi:∀a b,inj a=inj b->a=b)(k:κ):(sJ kvs k).isSome=xL (kvs.map λp=>inj p.1) (inj k):=by
 unfold xL;induction kvs with
 |nil=>rfl
 |cons p r ih=>
  rw[c7,SB];by_cases e:p.1=k
  .rw[oz e,dM (ly inj e)];rfl
  .rw[oA e,ih,fZ (λz=>e (hi _ _ z)),Bool.false_or]
theorem Is.tq(h:Is H m d v)(e:L3.tq d=some k):(∃k0,k=.inl k0/\v=kV k0)\/∃k0 b,k=.inr k0/\v=.ref b/\H b=some (.tup (k0.map kV)):=by
 cases d with
 |int i=>cases e;exact .inl ⟨_,rfl,h⟩
 |str x=>cases e;exact .inl ⟨_,rfl,h⟩
 |tup ds=>have e:(rp ds).map Sum.inr=some k:=e;obtain⟨k0,hk,rfl⟩:=mV.mp e;obtain⟨b,e1,e2⟩:=Is.Ke (d:=.tup ds) h hk;exact .inr ⟨k0,b,rfl,e1,e2⟩
 |_=>cases e
def Gs(h:DAt H a ks vs)(hx:Is H m d x)(e:L3.tq d=some k)(hk:ks.all (xK k)=true):∃o,zY H a x o/\o.isSome=xL ks k:=by
 rcases hx.tq e with⟨k0,rfl,rfl⟩|⟨k0,b,rfl,rfl,hb⟩
 .rcases h with⟨kvs,e1,rfl,rfl⟩|⟨kvs,e1,rfl,rfl⟩
  .exact⟨_,.inl (.inl ⟨kvs,k0,e1,rfl,rfl⟩),xM Sum.inl (λ_ _ z=>Sum.inl.inj z) k0⟩
  .cases kvs with
   |nil=>exact⟨none,.inr (.inl ⟨e1,⟨k0,rfl⟩,rfl⟩),rfl⟩
   |cons p r=>simp[xK]at hk
 .rcases h with⟨kvs,e1,rfl,rfl⟩|⟨kvs,e1,rfl,rfl⟩
  .cases kvs with
   |nil=>exact⟨none,.inr (.inr ⟨e1,⟨b,k0,rfl,hb⟩,rfl⟩),rfl⟩
   |cons p r=>simp[xK]at hk
  .exact⟨_,.inl (.inr ⟨kvs,k0,b,e1,rfl,hb,rfl⟩),xM Sum.inr (λ_ _ z=>S9 z) k0⟩
def Da(h1:oG X E f (zc neg))(h2:OpR X f (Kf neg)):oG X E f (Bu neg):=by
 obtain⟨r,o1,s1⟩:=h1;refine⟨_,o1.or h2,λg M ρ env σ H Q ra rb x y rep i1 i2 p=>?_⟩;unfold Bu at p;cases q:rb.d with
 |j7 ks ds=>
  right;rw[q]at p i2;dsimp only at p;unfold C_ at p;cases q2:tq ra.d with
  |none=>rw[q2]at p;exact p.elim
  |some k=>
   rw[q2]at p;dsimp only at p;by_cases hk:ks.all (xK k)=true
   .rw[dL hk]at p;obtain⟨a,vs,rfl,h1,h2⟩:=i2;obtain⟨o,g1,g2⟩:=Gs h1.1 i1 q2 hk;refine⟨a,o,rfl,g1,?_⟩;rw[g2];exact p _ M H (Ext.refl _ _) rep rfl
   .rw[f7 hk]at p;exact p.elim
 |_=>left;refine s1 g M ρ env σ H Q ra rb x y rep i1 i2 ?_;rw[q]at p;exact p
def tw(hu:X.A.units+64<cLine):oG X E (compareOp .In) tu:=Da (NB hu) (Kg hu)
def jh(hu:X.A.units+64<cLine):oG X E (compareOp .NotIn) gV:=Da (C8 hu) (Bv hu)
def Ia:List DK->List D->DK->D->List D
 |k'::ks,d'::ds,k,d=>(if k'=k then d else d')::Ia ks ds k d
 |_,_,_,_=>[]
def qp(ks:List DK)(ds:List D)(k:DK)(d:D):D:=if xL ks k then .j7 ks (Ia ks ds k d)else .j7 (ks++[k]) (ds++[d])
def Ah{κ:Type}[DecidableEq κ](inj:κ->DK)(hi:∀a b,inj a=inj b->a=b){H:Hp}{m:Addr->Prop}{kvs:List (κ×V)}{ds:List D}{k:κ}{v:V}{d:D}(h:IsAll H m ds (kvs.map Prod.snd))(hv:Is H m d v) :
 ∃ks' ds',qp (kvs.map λp=>inj p.1) ds (inj k) d=.j7 ks' ds'/\ks'=(kY kvs k v).map (λp=>inj p.1)/\IsAll H m ds' ((kY kvs k v).map Prod.snd):=by
 have hany:xL (kvs.map λp=>inj p.1) (inj k)=kvs.any λp=>decide (p.1=k):=by unfold xL;rw[Tu];congr 1;funext p;exact SY.mpr ⟨hi _ _,ly inj⟩
 unfold qp kY;rw[hany];by_cases e:(kvs.any λp=>decide (p.1=k))=true
 .rw[dL e,dL e];refine⟨_,_,rfl,?_,?_⟩
  .rw[iA];refine AO λp _=>?_;show inj p.1=inj (if p.1=k then(p.1,v)else p).1;split<;>rfl
  .clear e hany;induction kvs generalizing ds with
   |nil=>
    cases ds with
    |nil=>exact rfl
    |cons d0 r=>obtain⟨_,_,z,_⟩:=h;cases z
   |cons p r ih=>
    cases ds with
    |nil=>cases h
    |cons d0 ds=>
     obtain⟨v0,r0,z,i1,i2⟩:=h;cases z;have:=ih i2;refine⟨_,_,rfl,?_,this⟩;dsimp only;by_cases e:p.1=k
     .rw[dL (ly inj e),dL e];exact hv
     .rw[f7 (λz=>e (hi _ _ z)),f7 e];exact i1
 .rw[f7 e,f7 e];exact⟨_,_,rfl,by simp,by rw[rK];exact h.append ⟨v,[],rfl,hv,rfl⟩⟩
def NC(i:Nat)(env:En)(ks:List DK)(ds:List D)(d:D)(k:R):Res Fl:=match tq k.d with
 |some x=>if ks.all (xK x)/\ks.length<lim then .ok (.nx (env.set i (some (.pW (qp ks ds x d)))))else .stuck
 |none=>.stuck
def ND(i:Nat)(fk:En->Res R)(env:En)(ks:List DK)(ds:List D)(r:R):Res Fl:=if r.d.flat then(fk env).bind (NC i env ks ds r.d)else .stuck
def Kh(i:Nat)(env:En)(ks:List DK)(ds:List D)(d:D)(k:R):Res Fl:=match tq k.d with
 |some x=>if ks.all (xK x)/\ks.length<lim then .ok (.nx (env.set i (some (.pin (qp ks ds x d)))))else .stuck
 |none=>.stuck
def Ki(i:Nat)(fk:En->Res R)(env:En)(ks:List DK)(ds:List D)(r:R):Res Fl:=if r.d.flat then(fk env).bind (Kh i env ks ds r.d)else .stuck
def xN(i:Nat)(fk fv:En->Res R):En->Res Fl:=λenv=>match env[i]? with
 |some (some (.pW (.j7 ks ds)))=>(fv env).bind (ND i fk env ks ds)
 |some (some (.pin (.j7 ks ds)))=>(fv env).bind (Ki i fk env ks ds)
 |_=>.stuck
def Dc(mk:D->Sl)(i:Nat)(env:En)(ks:List DK)(ds:List D)(d:D)(k:R):Res Fl:=match tq k.d with
 |some x=>if ks.all (xK x)/\ks.length<lim then .ok (.nx (env.set i (some (mk (qp ks ds x d)))))else .stuck
 |none=>.stuck
def Dd(mk:D->Sl)(i:Nat)(fk:En->Res R)(env:En)(ks:List DK)(ds:List D)(r:R):Res Fl:=if r.d.flat then(fk env).bind (Dc mk i env ks ds r.d)else .stuck
def xO{fk fv:En->Res R}{M:Addr->Prop}{σ:St}{H:Hp}{D:Ends}{ks:List DK}{ds:List L3.D}(mk:L3.D->Sl)(P0:Gd->V->Prop)(hmk:∀(g:Gd)(M T:Addr->Prop)(H:Hp)(v:V)(d:L3.D),SlOk g M T H v (mk d)↔Is H T d v/\P0 g v)(hmo':∀d,(mk d).Pz=true)
 (s1:Snd X.mg E tk fk) (s2:Snd X.mg E tv fv) (rep:Rep g M ρ env σ H) (hq:env[i]?=some (some (mk (.j7 ks ds)))) (p:PostS X.mg E g M H D ((fv env).bind (Dd mk i fk env ks ds))):Cw (sC i) tk tv D σ H:=by
 have hi:i<env.length:=(c5.mp hq).1;refine s2.qZ rep p λr v M1 H1 e1 rep1 ro p1=>?_;obtain⟨M1',x1,x1m,rep1',is1⟩:=ro.is rep1 e1 rep.same;unfold Dd at p1;by_cases hf:r.d.flat=true
 .rw[dL hf]at p1;obtain⟨va,ev,ka⟩:=rep1'.slot i _ hq;obtain⟨ka,hroot⟩:=(hmk g M1' (ρ i) H1 va (.j7 ks ds)).mp ka;obtain⟨a,vs,rfl,⟨dat,pa⟩,hall⟩:=ka;refine⟨.ref a,ev,s1.qZ rep1' (PostS.dr ⟨x1m,λ_ _ q _=>q⟩ p1) λrk y M2 H2 e2 rep2 rok p2=>?_⟩;obtain⟨M2',x2,x2m,rep2',is2⟩:=rok.is rep2 e2 rep1'.same;unfold Dc at p2;cases qk:tq rk.d with
  |none=>rw[qk]at p2;exact p2.elim
  |some x=>
   rw[qk]at p2;dsimp only at p2;by_cases hc:ks.all (xK x)=true/\ks.length<lim
   .rw[dL hc]at p2;have dat2:DAt H2 a ks vs:=dat.keep λo e=>e2.h _ _ e;have hall2:IsAll H2 (ρ i) ds vs:=hall.same e2.h;have hv2:Is H2 (ρ i) r.d v:=Is.flat hf (is1.same e2.h);have kd:Is H2 (ρ i) (.j7 ks ds) (.ref a):=⟨a,vs,rfl,⟨dat2,pa⟩,hall2⟩;have inner:IsAll H2 (λb=>ρ i b/\b≠a) ds vs:=IsAll.avoid kd (by simp only[L3.D.sz];lia) hall2;have hv3:Is H2 (λb=>ρ i b/\b≠a) r.d v:=Is.flat hf hv2;have nofz:∀o u,H2 a≠some (.dr o u):=λo u z=>by obtain⟨_,_,uo,q,qm⟩:=rep2'.ck i a pa;rw[z]at q;cases q;exact qm
    obtain⟨uo,huo,hmo⟩:=dat2.mu nofz;have rdn:∀u,Rd H2 a u->H2 a=some u:=λu z=>z.elim id λ⟨o,z⟩=>(nofz _ _ z).elim;have nfx:∀u,H2 a=some u->¬gS u:=λu e z=>by rw[huo]at e;cases e;cases uo<;>first|exact z|exact hmo
    have fin:∀(u':HO)(ks':List DK)(ds':List L3.D)(vs':List V),JT u'->DAt (bQ H2 a u') a ks' vs'->qp ks ds x r.d=.j7 ks' ds'->IsAll H2 (λb=>ρ i b/\b≠a) ds' vs'->D.nx σ (bQ H2 a u'):=λu' ks' ds' vs' hu' hd he hall'=>by
     rw[he]at p2;have hall3:IsAll (bQ H2 a u') (ρ i) ds' vs':=hall'.mono (λb u q z=>by
      rw[aH]
      .exact q
      .rintro rfl;rcases z with z|z
       .exact z.2 rfl
       .exact nfx u q z) λ_ _ _ z=>z.1
     obtain⟨f1,rep3⟩:=rep2'.Fy (u':=u') hu' pa hi ev (sl:=mk (.j7 ks' ds')) ((hmk g M2' (ρ i) _ _ _).mpr ⟨⟨a,vs',rfl,⟨hd,pa⟩,hall3⟩,hroot⟩) (hmo' _);exact p2 σ M2' ρ _ (ox.trans ⟨x2m,λ_ _ q _=>q⟩ f1) rep3
    refine⟨a,?_⟩;rcases is2.tq qk with⟨k0,rfl,rfl⟩|⟨k0,b,rfl,rfl,hb⟩
    .rcases dat2 with⟨kvs,e1,rfl,rfl⟩|⟨kvs,e1,rfl,rfl⟩
     .obtain⟨ks',ds',g1,g2,g3⟩:=Ah Sum.inl (λ_ _ z=>Sum.inl.inj z) (k:=k0) inner hv3;refine⟨_,rfl,.inl (DPut.k (rdn _ e1) (by have:=hc.2;rw[cc]at this;exact nY this)),fin _ ks' ds' _ True.intro (.inl ⟨_,.inl aP,g2,rfl⟩) g1 g3⟩
     .cases kvs with
      |nil=>
       cases ds with
       |nil=>exact⟨_,rfl,.inr (.inl ⟨rdn _ e1,k0,rfl,rfl⟩),fin (.dK [(k0,v)]) [.inl k0] [r.d] [v] True.intro (.inl ⟨_,.inl aP,rfl,rfl⟩) rfl ⟨v,[],rfl,hv3,rfl⟩⟩
       |cons d0 ds0=>obtain⟨_,_,z,_⟩:=inner;cases z
      |cons q r0=>simp[xK]at hc
    .rcases dat2 with⟨kvs,e1,rfl,rfl⟩|⟨kvs,e1,rfl,rfl⟩
     .cases kvs with
      |nil=>
       cases ds with
       |nil=>exact⟨_,rfl,.inr (.inr ⟨rdn _ e1,b,k0,rfl,hb,rfl⟩),fin (.dT [(k0,v)]) [.inr k0] [r.d] [v] True.intro (.inr ⟨_,.inl aP,rfl,rfl⟩) rfl ⟨v,[],rfl,hv3,rfl⟩⟩
       |cons d0 ds0=>obtain⟨_,_,z,_⟩:=inner;cases z
      |cons q r0=>simp[xK]at hc
     .obtain⟨ks',ds',g1,g2,g3⟩:=Ah Sum.inr (λ_ _ z=>S9 z) (k:=k0) inner hv3;refine⟨_,rfl,.inl (DPut.t (rdn _ e1) hb (by have:=hc.2;rw[cc]at this;exact nY this)),fin _ ks' ds' _ True.intro (.inr ⟨_,.inl aP,g2,rfl⟩) g1 g3⟩
   .rw[f7 hc]at p2;exact p2.elim
 .rw[f7 hf]at p1;exact p1.elim
def Gt(hu:X.A.units+64<cLine)(ho:PE X o (sC i))(hk:PD X E ki fk)(hv:PD X E value fv)
 (hs:autoParam (swapsWith value (some (.Subscript o ki pos')) pos.line X.env=pure false) TV):vT X E (.Assign [.Subscript o ki pos'] value pos) (xN i fk fv):=by
 obtain⟨tk,p1,s1⟩:=hk;obtain⟨tv,p2,s2⟩:=hv;refine⟨_,Cy (by lia) ho p1 p2 hs,λg M ρ env σ H D rep p=>?_⟩;unfold xN at p;split at p
 .rename_i ks ds hq;exact xO .pW (λ_ _=>True) (λ_ _ _ _ _ _=>⟨λz=>⟨z,True.intro⟩,λz=>z.1⟩) (λ_=>rfl) s1 s2 rep hq p
 .rename_i ks ds hq;exact xO .pin (λg v=>g.root=some v) (λ_ _ _ _ _ _=>Iff.rfl) (λ_=>rfl) s1 s2 rep hq p
 .exact p.elim
end
section
def v4:List R->Res R
 |[r]=>match r.d with
  |.lst ds=>.ok (l6 (.tup ds) r.fr r.al)
  |.tup ds=>.ok (l6 (.tup ds) r.fr r.al)
  |_=>.stuck
 |_=>.stuck
def De:mj X E (.type "tuple") v4:=by
 refine⟨_,uD,λg M ρ env σ H Q rs vs rep i p=>?_⟩;rcases rs with _|⟨r,_|_⟩
 .exact p.elim
 rotate_left
 .exact p.elim
 obtain⟨v,w,rfl,i1,i2⟩:=i;cases i2;have i1:Is H (vmsk g M (bF [r]) ρ (cT [r])) r.d v:=i1;replace i1:=i1.weak λ_ z=>Ac z;unfold v4 at p;dsimp only at p;cases q:r.d with
 |lst ds=>rw[q]at p i1;obtain⟨a,ws,rfl,h1,h2⟩:=i1.rd;exact⟨a,ws,rfl,.inl ⟨.inl h1,λl hl=>p.tup rep hl h2⟩⟩
 |tup ds=>rw[q]at p i1;have i1':=i1;obtain⟨a,ws,rfl,h1,h2⟩:=i1;exact⟨a,ws,rfl,.inr ⟨SqT.of h1,p.val rep i1'⟩⟩
 |_=>rw[q]at p;exact p.elim
def QE(k2:R->R->Res R)(fc:En->Res R)(env:En)(rb:R):R->Res R
 |.val (.bl true) _ _=>(fc env).bind λrc=>k2 rb rc
 |.val (.bl false) _ _=>.ok (.val (.bl false) true [])
 |_=>.stuck
def gc(k1 k2:R->R->Res R)(fa fb fc:En->Res R):En->Res R:=λenv=>(fa env).bind λra=>(fb env).bind λrb=>(k1 ra rb).bind (QE k2 fc env rb)
def vm
 (h1:∀g M ρ env σ H Q ra rb x y,Rep g M ρ env σ H->Is H (vmsk g M ra.fr ρ ra.al) ra.d x->Is H (vmsk g M rb.fr ρ rb.al) rb.d y->PostE mg E g M ρ env σ H Q (k1 ra rb)->r x y H Q)
 (h2:∀g M ρ env σ H Q ra rb x y,Rep g M ρ env σ H->Is H (vmsk g M ra.fr ρ ra.al) ra.d x->Is H (vmsk g M rb.fr ρ rb.al) rb.d y->PostE mg E g M ρ env σ H Q (k2 ra rb)->r' x y H Q)
 (sa:Snd mg E ta fa) (sb:Snd mg E tb fb) (sc:Snd mg E tc fc):Snd mg E (yP r r' ta tb tc) (gc k1 k2 fa fb fc):=by
 intro g M ρ env σ H Q rep p;refine sa.B1 sb rep p λra rb x y M1 H1 rep1 i1 i2 p1=>?_;refine h1 g M1 ρ env σ H1 _ ra rb x y rep1 i1 i2 ?_;cases q:k1 ra rb with
 |stuck=>rw[q]at p1;exact p1
 |exc c=>rw[q]at p1;exact p1
 |ok rr=>
  rw[q]at p1;have p1:PostE mg E g M1 ρ env σ H1 Q (QE k2 fc env rb rr):=p1;unfold QE at p1;intro v M2 H2 e2 rep2 ro;split at p1
  .cases (show v=.bl true from ro);refine⟨true,rfl,uE ?_⟩;have p2:=PostE.ext e2 p1;have i2':=Is.ext e2 i2;refine sc.iT rep2 p2 λrc z M3 H3 e3 rep3 i3 p3=>?_;exact h2 g M3 ρ env σ H3 Q rb rc y z rep3 (Is.ext e3 i2') i3 p3
  .cases (show v=.bl false from ro);exact⟨false,rfl,vN (p1 (.bl false) M2 H2 e2 rep2 rfl)⟩
  .exact p1.elim
def tz(ho:oG X E (compareOp op) k1)(ho':oG X E (compareOp op') k2)(ha:PD X E a fa)(hb:PD X E b fb)(hc:PD X E c fc)
 (hm:lastMarks [op,op'] [b,c]=false:=by with_unfolding_all rfl):PD X E (.Compare a [op,op'] [b,c] pos) (gc k1 k2 fa fb fc):=by
 obtain⟨r,o1,h1⟩:=ho;obtain⟨r',o2,h2⟩:=ho';obtain⟨ta,pa,sa⟩:=ha;obtain⟨tb,pb,sb⟩:=hb;obtain⟨tc,pc,sc⟩:=hc;exact⟨_,Cb o1 o2 pa pb pc hm,vm h1 h2 sa sb sc⟩
def Bw(ho:oG X E (compareOp op) k1)(ho':oG X E (compareOp op') k2)(ha:PD X E a fa)(hb:PD X E b fb)(hc:PD X E c fc)
 (hm:lastMarks [op,op'] [b,c]=false:=by with_unfolding_all rfl):Bh X E (.Compare a [op,op'] [b,c] pos) (vB (gc k1 k2 fa fb fc)):=by
 obtain⟨r,o1,h1⟩:=ho;obtain⟨r',o2,h2⟩:=ho';obtain⟨ta,pa,sa⟩:=ha;obtain⟨tb,pb,sb⟩:=hb;obtain⟨tc,pc,sc⟩:=hc;have S:=vm h1 h2 sa sb sc;refine⟨_,Cc o1 o2 pa pb pc hm,λg M ρ env σ H Q rep p=>S.zK rep p λr v M' H' e rep' i p'=>?_⟩;cases q:r.d with
 |bl b=>rw[q]at i;simp only[q]at p';cases i;exact⟨b,rfl,p' M' H' (Ext.refl _ _) rep'⟩
 |_=>simp only[q]at p';exact p'.elim
end
def v5(i:Nat)(fk fv:En->Res R)(env:En):Option (Option Sl)->Res Fl
 |some (some (.pW (.j7 _ _)))=>xN i fk fv env
 |some (some (.pin (.j7 _ _)))=>xN i fk fv env
 |_=>tj i fk fv env
def xP(i:Nat)(fk fv:En->Res R):En->Res Fl:=λenv=>v5 i fk fv env env[i]?
def Df{i:Nat}{fk fv:En->Res R}{st:Stmt}(h1:vT X E st (tj i fk fv))(h2:vT X E st (xN i fk fv)):vT X E st (xP i fk fv):=by obtain⟨t1,p1,s1⟩:=h1;obtain⟨t2,p2,s2⟩:=h2;refine⟨λD σ H=>t1 D σ H\/t2 D σ H,λag s σ H D I h=>h.elim (p1 ag s σ H D I) (p2 ag s σ H D I),λg M ρ env σ H D rep p=>?_⟩;unfold xP v5 at p;split at p<;>first|exact .inr (s2 g M ρ env σ H D rep p)|exact .inl (s1 g M ρ env σ H D rep p)
noncomputable def xQ:List D->Option (List Int)
 |[]=>some []
 |.int i::r=>(xQ r).map (i::·)
 |_::_=>none
section
theorem IsAll.ints:∀{ds:List D}{vs:List V}{k:List Int},IsAll H m ds vs->xQ ds=some k->vs=(iK k).map kV
 |[],_,_,h,e=>by cases h;cases e;rfl
 |d::ds,_,k,h,e=>by
  obtain⟨v,r,rfl,h1,h2⟩:=h;cases d with
  |int i=>unfold xQ at e;obtain⟨k',e1,rfl⟩:=mV.mp e;rw[IsAll.ints h2 e1,show v=V.int i from h1];rfl
  |_=>cases e
end
noncomputable def NE(t:List (gQ×D)):D:=.j7 (t.map λp=>.inl p.1) (t.map Prod.snd)
section
def REK(H:Hp)(m:Addr->Prop):List (gQ×V)->List (gQ×D)->Prop:=Paired λa b=>a.1=b.1/\Is H m b.2 a.2
theorem REK.fst(r:REK H m a b):a.map Prod.fst=b.map Prod.fst:=by
 induction r with
 |nil=>rfl
 |cons h _ ih=>rw[c7,c7,ih,h.1]
theorem REK.snd(r:REK H m a b):IsAll H m (b.map Prod.snd) (a.map Prod.snd):=by
 induction r with
 |nil=>rfl
 |cons h _ ih=>exact⟨_,_,rfl,h.2,ih⟩
def Gu{b:Addr}{u:HO}{kvs:List (gQ×V)}{t:List (gQ×D)}(e:H b=some (.dK kvs))(r:REK H m kvs t)(hb:m b):Is H m (NE t) (.ref b):=by refine⟨b,_,rfl,⟨.inl ⟨kvs,.inl e,?_,rfl⟩,hb⟩,r.snd⟩;have:=ly (List.map λk:gQ=>(Sum.inl k:DK)) r.fst;rw[iA,iA]at this;exact this.symm
end
section
def Rep.Mg(rep:Rep g M ρ env σ H)(hb:H b=some u)(hu:¬gS u)(nm:¬M b)(no:∀i,¬ρ i b)(h0:g.H₀ b=none):Rep g M ρ env σ (bQ H b u'):=by
 have kp:∀a o,H a=some o->(M a\/gS o)->bQ H b u' a=some o:=λa o e z=>by
  rw[aH]
  .exact e
  .rintro rfl;rcases z with z|z
   .exact nm z
   .rw[hb]at e;cases e;exact hu z
 have kr:∀i a o,H a=some o->(ρ i a\/gS o)->bQ H b u' a=some o:=λi a o e z=>by
  rw[aH]
  .exact e
  .rintro rfl;rcases z with z|z
   .exact no i z
   .rw[hb]at e;cases e;exact hu z
 have ne:∀a,M a->a≠b:=λa z e=>nm (e▸z);have ner:∀i a,ρ i a->a≠b:=λi a z e=>no i (e▸z);refine⟨λa o e=>?_,λa z=>by rw[aH (ne a z)];exact rep.lA a z,rep.w8,λa z q=>(rep.fl a z q).same λo e=>by grind,λi sl e=>?_,λi a z=>?_,rep.apart,rep.ow,rep.len,λa z e=>?_⟩
 .rw[aH (λz=>by grind)];exact rep.same a o e
 .obtain⟨v,ev,k⟩:=rep.slot i sl e;refine⟨v,ev,?_⟩;cases sl with
  |val d fr=>exact Is.mono (λa o e z=>kp a o e (z.imp (·.1) id)) (λ_ _ _ z=>z) k
  |own ds fr=>obtain⟨a,vs,rfl,h1,h2,h3⟩:=k;exact⟨a,vs,rfl,by rw[aH (ner i a ((h2 a).mpr rfl))];exact h1,h2,IsAll.mono (λa o e z=>kp a o e (z.imp (·.1) id)) (λ_ _ _ z=>z) h3⟩
  |pW d=>exact Is.mono (λa o e z=>kr i a o e z) (λ_ _ _ z=>z) k
  |pin d=>exact⟨Is.mono (λa o e z=>kr i a o e z) (λ_ _ _ z=>z) k.1,k.2⟩
  |lz d=>exact⟨Is.mono (λa o e z=>kr i a o e z) (λ_ _ _ z=>z) k.1,k.2.mono (λa o z e=>kr i a o e (.inl z)) λ_ z=>z⟩
  |fix n q0=>exact⟨k.1,k.2.mono λa o e z=>kr i a o e z⟩
  |FG a=>exact k
  |FC ks=>exact sT (λa o e z=>kr i a o e z) k
  |Fz d=>exact IsSh.mono (λa o e z=>kp a o e (.inr z)) (λa vs z e=>⟨vs,by grind⟩) (λ_ z=>z) k
 .obtain⟨a1,a2,a3⟩:=rep.ck i a z;exact⟨a1,a2,a3.same λo e=>by grind⟩
 .by_cases ha:a=b
  .subst ha;rw[aP]at e;cases e
  .rw[aH ha]at e;exact rep.zz a z e
def tB(rk rv:R):Res R:=match C9 rk.d with
 |some k=>if rv.d.flat then .ok (.sy (NE [(k,rv.d)]))else .stuck
 |none=>.stuck
def Dg{k v:Expr}{fk fv:En->Res R}{pos:Pos}(hk:PD X E k fk)(hv:PD X E v fv):PD X E (.Dict [some k] [v] pos) (v2 tB fk fv):=by
 obtain⟨tk,p1,s1⟩:=hk;obtain⟨tv,p2,s2⟩:=hv;refine⟨_,F8 (Cp p1 p2 F7) rfl rfl (by simp) (by simp),λg M ρ env σ H Q rep p b hb=>?_⟩;have sm:Same H (bQ H b (.dK [])):=bJ hb;obtain⟨z0,zm,zo⟩:=rep.free hb;have p:PostE X.mg E g M ρ env σ H Q ((fk env).bind λrk=>(fv env).bind λrv=>tB rk rv):=p;refine s1 g M ρ env σ _ _ (rep.grow sm) ?_;cases qk:fk env with
 |stuck=>rw[qk]at p;exact p
 |exc c=>rw[qk]at p;exact p
 |ok rk=>
  rw[qk]at p;have p:PostE X.mg E g M ρ env σ H Q ((fv env).bind λrv=>tB rk rv):=p;intro x M1 H1 e1 rep1 ro1;obtain⟨M1',x1,x1m,rep1',is1⟩:=ro1.is rep1 e1 (rep.grow sm).same;refine s2 g M1' ρ env σ H1 _ rep1' ?_;cases qv:fv env with
  |stuck=>rw[qv]at p;exact p
  |exc c=>rw[qv]at p;exact p
  |ok rv=>
   rw[qv]at p;have p:PostE X.mg E g M ρ env σ H Q (tB rk rv):=p;intro y M2 H2 e2 rep2 ro2;obtain⟨M2',x2,x2m,rep2',is2⟩:=ro2.is rep2 e2 rep1'.same;have hb2:H2 b=some (.dK []):=x2.h _ _ (x1.h _ _ aP);have nb:¬M2' b:=λz=>by
    rcases x2.n b z with z|z
    .rcases x1.n b z with z|z
     .exact zm z
     .rw[aP]at z;cases z
    .rw[x1.h _ _ aP]at z;cases z
   unfold tB at p;cases qq:C9 rk.d with
   |none=>rw[qq]at p;exact p.elim
   |some k=>
    rw[qq]at p;dsimp only at p;by_cases hf:rv.d.flat=true
    .rw[dL hf]at p;have hx:x=kV k:=is1.key qq;refine⟨hb2,[(k,y)],by grind,by simp,?_⟩;have hs:Same H (bQ H2 b (.dK (p7 [] [(k,y)]))):=λa o e=>by rw[aH (aD e hb)];exact x2.h _ _ (x1.h _ _ (sm a o e))
     refine p (.ref b) M2' _ ⟨λa z=>x2.m a (x1.m a z),hs,λa z=>?_⟩ (rep2'.Mg hb2 (λz=>z) nb zo z0) ⟨λa=>a=b,λa e=>(by subst e;exact⟨nb,hb,⟨_,aP,True.intro⟩,zo⟩),Gu (u:=.dK []) aP ?_ rfl⟩
     .rcases x2.n a z with z|z
      .exact(x1.n a z).imp id λw=>sm.free w
      .exact .inr (sm.free (x1.h.free z))
     .refine .cons ⟨rfl,Is.flat hf (Is.mono (λa o e z=>?_) (λ_ _ _ z=>z) (Is.flat (m':=λ_=>False) hf is2))⟩ .nil;rw[aH]
      .exact e
      .rintro rfl;rw[hb2]at e;cases e;exact z.elim id id
    .rw[f7 hf]at p;exact p.elim
end
noncomputable abbrev QF:=Int×Int×Int
noncomputable def dd(l:List Int)(x:Int):List Int:=if x∈l then l else l++[x]
def NF(xs:List Int):List Int:=xs.foldl dd []
def g1(ts:List QF):List Int:=NF (ts.map (·.1))
def g2(ts:List QF)(x:Int):List Int:=NF ((ts.filter λt=>decide (t.1=x)).map (·.2.1))
def PV(h:n+64<c):n+1<c:=by lia
section
def dy(i:Nat)(f:En->Res R):En->Res Fl:=λenv=>(f env).bind λr=>if i<env.length then .ok (.nx ((dr env r.al).set i (some (.val r.d r.fr))))else .stuck
def bp(hN:X.N.Nodup)(hi:X.N[i]?=some x)(hx:B4 X.env.scope x)(h:PD X E e f)(hs:autoParam (swapsWith e (some (.Name x pos')) pos.line X.env=pure false) TV)
 (hf:autoParam (X.fn x=true\/X.env.scope.names.lookup x=some .local) TR):vT X E (.Assign [.Name x pos'] e pos) (dy i f):=by
 obtain⟨t,p1,s1⟩:=h;refine⟨_,yM hN hi hx p1 hs hf,λg M ρ env σ H D rep p=>?_⟩;refine s1.qZ rep p λr v M' H' e rep' ro p'=>?_;by_cases hi:i<env.length
 .rw[dL hi]at p';obtain⟨M2,x2,x2m,rep2,is2⟩:=ro.is rep' e rep.same;obtain⟨M3,ρ3,x3,rep3,o3,_,_⟩:=Rep.dr r.al rep2;have rep4:=rep3.put (i:=i) (sl:=.val r.d r.fr) (T:=λ_=>False) (by rw[vW];exact hi) (Is.frozen rep2 x3 o3 is2) (λ_ z=>z.elim) λ_ z=>z.elim;exact p' _ M3 _ H' ⟨λa z=>x3 a (x2m a z),λ_ _ q _=>q⟩ rep4
 .rw[f7 hi]at p';exact p'.elim
def Ai:List R->Res R
 |[r]=>match r.d with
  |.lst ds=>match xQ ds with
   |some ns=>if ns.isEmpty then .stuck else .ok (.val (.int (xn ns)) true [])
   |none=>.stuck
  |_=>.stuck
 |rs=>Gq rs
def Gv(hc:X.calm=true):mj X E (.builtin "min") Ai:=by
 obtain⟨r0,c0,s0⟩:=J_ (X:=X) (E:=E) hc;refine⟨λxs H Q=>(∃p ns,xs=[.ref p]/\SqL X.K H p (ns.map V.int)/\ns≠[]/\Q (.int (xn ns)) H)\/r0 xs H Q,λag s σ H xs us Q I r h=>h.elim (Ba hc ag s σ H xs us Q I r) (c0 ag s σ H xs us Q I r),λg M ρ env σ H Q rs vs rep i p=>?_⟩
 match rs,i,p with
 |[r],i,p=>
  left;unfold Ai at p;dsimp only at p;obtain⟨v,w,rfl,i1,i2⟩:=i;cases i2;have i1:Is H (vmsk g M (bF [r]) ρ (cT [r])) r.d v:=i1;cases q:r.d with
  |lst ds=>
   rw[q]at p i1;dsimp only at p;obtain⟨a,ws,rfl,h1,h2⟩:=i1.rd;cases qi:xQ ds with
   |none=>rw[qi]at p;exact p.elim
   |some ns=>
    rw[qi]at p;dsimp only at p;by_cases hn:ns.isEmpty=true
    .rw[dL hn]at p;exact p.elim
    .rw[f7 hn]at p;have ew:ws=ns.map V.int:=by rw[h2.ints qi];unfold iK;rw[iA];rfl
     rw[ew]at h1;exact⟨a,ns,rfl,.inl h1,λz=>hn (by rw[z];rfl),p _ M H (Ext.refl _ _) rep rfl⟩
  |_=>rw[q]at p;exact p.elim
 |[],i,p=>exact .inr (s0 g M ρ env σ H Q [] vs rep i p)
 |r::r'::rs',i,p=>exact .inr (s0 g M ρ env σ H Q (r::r'::rs') vs rep i p)
def qv(i:Nat)(hN:autoParam (X.N[i]?=some x) TV)(hv:autoParam (PF X.env.scope x) TH._auto_1)(hd:autoParam (dB x) TQ)
 (hc:autoParam ((x==("__classdict__" : Str))=false) TQ):PD X E (.Name x pos) (ak i):=JW (pv i hN hv hd hc)
end
end L3
namespace L2
open PySem PySem.Spec PyProof.Rows
section
noncomputable def QG:V->Option Int->Option Int->Hp->VK->Prop:=λx lo hi H Q=>∃z,x=.str z/\z.length<=sizeLine/\Q (.str (Txt.slice z lo hi)) H
def Kj:SlR X QG:=by
 intro ag s σ H x v vl vu lo hi sl Q I rx hs pl pu h;obtain⟨z,rfl,hz,q⟩:=h;obtain⟨t,rfl⟩:=rx;obtain⟨o,e1,e2,e3⟩:=hs;refine⟨"str",_,slot_str_getitem.lookup,Th _ _ _,?_⟩;have fin:∀t' k,EP X ag σ Q (.str (Txt.slice z lo hi) t') {s with toks:=k}:=λt' k=>⟨.str _,H,I.tok _,⟨_,rfl⟩,q⟩;have hl:=jQ (Txt.slice_le z lo hi) hz;cases pl with
 |none=>cases pu with
  |none=>exact FE (l:=none) (u:=none) (st:=none) ⟨o,e1,e2,e3⟩ rfl (S_ ⟨hl,fin⟩)
  |int j u=>exact FE (l:=none) (u:=some (j,u)) (st:=none) ⟨o,e1,e2,e3⟩ rfl (S_ ⟨hl,fin⟩)
 |int i t1=>cases pu with
  |none=>exact FE (l:=some (i,t1)) (u:=none) (st:=none) ⟨o,e1,e2,e3⟩ rfl (S_ ⟨hl,fin⟩)
  |int j u=>exact FE (l:=some (i,t1)) (u:=some (j,u)) (st:=none) ⟨o,e1,e2,e3⟩ rfl (S_ ⟨hl,fin⟩)
end
end L2
namespace L3
open PySem PySem.Spec PyProof.Rows L2
section
def nw(r:R)(lo hi:Option Int):Res R:=match r.d with
 |.lst xs=>.ok (pU (dN xs lo hi) r.fr r.al)
 |.tup xs=>.ok (l6 (.tup (dN xs lo hi)) r.fr r.al)
 |.str z=>if z.length<=lim then .ok (.val (.str (Txt.slice z lo hi)) true [])else .stuck
 |_=>.stuck
def bG(fa:En->Res R)(fl fh:En->Res (Option Int)):En->Res R:=λenv=>(fa env).bind λr=>(fl env).bind λlo=>(fh env).bind λhi=>nw r lo hi
def bc{lo hi:Option Expr}{fa:En->Res R}{fl fh:En->Res (Option Int)}{p2 pos:Pos}(ha:PD X E e fa)(hl:PR X E lo fl)(hh:PR X E hi fh):PD X E (.Subscript e (.Slice lo hi none p2) pos) (bG fa fl fh):=by
 obtain⟨ta,p1,s1⟩:=ha;obtain⟨tl,p2,s2⟩:=hl;obtain⟨th,p3,s3⟩:=hh;refine⟨_,Cg (sl_list.or (sl_tup.or (sl_tupW.or Kj))) p1 p2 p3,λg M ρ env σ H Q rep p=>s1.iT rep p λr v M1 H1 e1 rep1 is q=>?_⟩;refine s2 g M1 ρ env σ H1 _ rep1 ?_;cases z1:fl env with
 |stuck=>rw[z1]at q;exact q
 |exc c=>rw[z1]at q;exact q
 |ok lo'=>
  rw[z1]at q;intro M2 H2 e2 rep2;have q2:PostE X.mg E g M2 ρ env σ H2 Q ((fh env).bind λhi=>nw r lo' hi):=PostE.ext e2 q;refine s3 g M2 ρ env σ H2 _ rep2 ?_;cases z2:fh env with
  |stuck=>rw[z2]at q2;exact q2
  |exc c=>rw[z2]at q2;exact q2
  |ok hi'=>
   rw[z2]at q2;intro M3 H3 e3 rep3;have q3:PostE X.mg E g M3 ρ env σ H3 Q (nw r lo' hi'):=PostE.ext e3 q2;have is3:=(is.ext e2).ext e3;unfold nw at q3;cases z:r.d with
   |lst xs=>rw[z]at q3 is3;obtain⟨a,vs,rfl,h1,h2⟩:=is3.rd;exact .inl ⟨a,vs,rfl,.inl h1,λp hp=>q3.lst rep3 hp (h2.cut lo' hi')⟩
   |tup xs=>
    rw[z]at q3 is3;have is4:=is3;obtain⟨a,vs,rfl,h1,h2⟩:=is3;by_cases hw:HT.sIx vs.length 0 lo'=0/\HT.sIx vs.length vs.length hi'=vs.length
    .have ec:dN xs lo' hi'=xs:=by unfold dN;rw[<- h2.length,hw.1,hw.2,h2.length];simp
     dsimp only at q3;rw[ec]at q3;exact .inr (.inr (.inl ⟨a,vs,rfl,SqT.of h1,hw,q3.val rep3 is4⟩))
    .exact .inr (.inl ⟨a,vs,rfl,SqT.of h1,hw,λp hp=>q3.tup rep3 hp (h2.cut lo' hi')⟩)
   |str y=>
    rw[z]at q3 is3;dsimp only at q3;by_cases hw:y.length<=lim
    .rw[dL hw]at q3;cases is3;exact .inr (.inr (.inr ⟨y,rfl,jR hw,q3 _ M3 H3 (Ext.refl _ _) rep3 rfl⟩))
    .rw[f7 hw]at q3;exact q3.elim
   |_=>rw[z]at q3;exact q3.elim
def Gw:R->R->Res R:=oI (λi j=>decide (0<=j)&&decide (j<=1000)&&decide (i.natAbs<2000000)) λi j=>.int (i^j.toNat)
def Dh:oG X E (binaryOp .Pow) Gw:=xr _ _ JC (λi j h=>by simp only[cH,cI]at h;exact⟨h.1.1,by lia,Nat.lt_trans h.2 (by decide)⟩) λ_ _ _ _=>rfl
end
theorem IsAll.Q7:∀{ds:List D}{vs:List V},vs.length=ds.length->(∀(i:Nat) d v,ds[i]?=some d->vs[i]?=some v->Is H m d v)->IsAll H m ds vs
 |[],[],_,_=>rfl
 |[],_::_,h,_=>by simp at h
 |_::_,[],h,_=>by simp at h
 |d::ds,v::vs,h,f=>⟨v,vs,rfl,f 0 d v rfl rfl,IsAll.Q7 (by simpa using h) λi d' v' e1 e2=>f (i+1) d' v' (by simpa using e1) (by simpa using e2)⟩
section
variable{X:Cx}{E:XK}{scope:Scope}{tg:Expr}{tN:List Str}{capN:List Str}{caps:List Nat}{iter:Expr}{pos lpos:Pos}{src:En->Res Src}
def Gx(i:Nat)(src:En->Res Src):En->Res Fl:=λenv=>(src env).bind λs=>if s.xs.length<=lim/\i<env.length then .ok (.nx (env.set i (some (.lz (.lst (s.xs.map λ_=>.lst []))))))else .stuck
def Gy(hc:X.calm=true)(S:bW X scope tN capN caps)(hN:X.N.Nodup)(hi':X.N[i]?=some y)(hy:X.env.scope.names.lookup y=some .local)
 (hi:CW X E tg iter src) (hg:∀cl C s3 H3 fp,PG (d6 X scope (tN++capN) cl C s3 H3 fp) tg (sD 0)) (h0:0<tN.length)
 (hsw:autoParam (swapsWith (.ListComp (.List [] lpos) [⟨tg,iter,[],0⟩] scope pos) (some (.Name y py)) spos.line X.env=pure true) TV) (hs:autoParam (∀x,foldedSetIterable iter X.env x=pure x) TU) :
 vT X E (.Assign [.Name y py] (.ListComp (.List [] lpos) [⟨tg,iter,[],0⟩] scope pos) spos) (Gx i src):=by
 obtain⟨wi,p1,s1⟩:=hi;refine⟨λD σ H=>wi σ H (j_ X scope tg tN capN caps (.List [] lpos) [] σ λDl _ H'=>D.nx (σ.set i (some (.ref Dl))) H'),λag s σ H D I h=>xA hc S hN hi' hy hsw I p1 h hs,λg M ρ env σ H D rep p=>?_⟩;refine s1 g M ρ env σ H _ rep ?_;unfold Gx at p;cases q:src env with
 |stuck=>rw[q]at p;exact p
 |exc c=>rw[q]at p;exact p
 |ok s=>
  rw[q]at p;simp only[Res.fY]at p;intro J M1 H1 e1 rep1 wk Dl hDl cl C s3 fp;by_cases hlim:s.xs.length<=lim/\i<env.length
  .rw[dL hlim]at p;have kp:∀{H2:Hp},Same H1 H2->∀a o,H1 a=some o->(vmsk g M1 s.fr ρ s.al a\/gS o)->H2 a=some o:=λsm a o e _=>sm a o e;refine⟨sD 0,λ_ H Q=>Q true H,M8 MZ,λk m acc H2=>m=s.xs.length-k/\k<=s.xs.length/\acc.length=k/\Same H1 H2/\H2 Dl=some (.lst acc)/\∃as:List Addr,acc=as.map V.ref/\as.Nodup/\∀a∈as,a≠Dl/\H1 a=none/\H2 a=some (.lst []),
    hg cl C s3 _ fp,Ae,yS jl,⟨_,rfl,lU _,rfl,bJ hDl,aP,[],rfl,SL,λ_ z=>by cases z⟩,?_⟩
   rintro k m acc H2 ⟨rfl,hle,hacc,sm,hD2,as,rfl,nd,has⟩;refine⟨hD2,?_⟩;by_cases hlt:k<s.xs.length
   .obtain⟨go,yl⟩:=wk.go H2 k s.xs[k] (kp sm) (by simp[hlt]);refine .inr ⟨go,λxv H3 o yy lo=>?_⟩;obtain⟨s23,_⟩:=yl xv H3 yy;refine⟨λj hj=>jF (by lia),uE ⟨lU _,λb hb=>?_⟩⟩;have nbD:b≠Dl:=λe=>by rw[e,s23 _ _ hD2]at hb;cases hb
    have hb2:H2 b=none:=s23.free hb;have hb1:H1 b=none:=sm.free hb2;refine⟨by rw[aH (lX nbD)];exact s23 _ _ hD2,by rw[hacc];exact nY (by lia),s.xs.length-(k+1),by lia,rfl,hlt,by simp[<- hacc],λa u e=>?_,aP,as++[b],by simp,?_,λa ha=>?_⟩
    .rw[aH (aD e hDl),aH (aD e hb1)];exact s23 _ _ (sm _ _ e)
    .refine List.nodup_append.mpr ⟨nd,by simp,λa ha c hc'=>?_⟩;have:c=b:=by simpa using hc'
     subst this;intro e;subst e;rw[(has a ha).2.2]at hb2;cases hb2
    .rcases ir.mp ha with ha|ha
     .obtain⟨n1,n2,n3⟩:=has a ha;refine⟨n1,n2,?_⟩;rw[aH n1,aH (λe=>by subst e;rw[n3]at hb2;cases hb2)];exact s23 _ _ n3
     .have:a=b:=by simpa using ha
      subst this;exact⟨nbD,hb1,by rw[aH nbD,aP]⟩
   .have ei:k=s.xs.length:=by lia
    subst ei;refine .inl ⟨wk.stop H2 (kp sm),?_⟩;have rep2:=rep1.grow sm;have cj:as.length=s.xs.length:=by simpa using hacc
    have fresh:∀a,(a=Dl\/a∈as)->H1 a=none:=λa z=>z.elim (λe=>by rw[e];exact hDl) λz=>(has a z).2.1;have cell:∀a,(a=Dl\/a∈as)->∃vs,H2 a=some (.lst vs):=λa z=>z.elim (λe=>⟨as.map V.ref,by rw[e];exact hD2⟩) λz=>⟨[],(has a z).2.2⟩;have rep3:=rep2.put (i:=i) (sl:=.lz (.lst (s.xs.map λ_=>.lst []))) (v:=.ref Dl) (T:=λa=>a=Dl\/a∈as) hlim.2 ⟨⟨Dl,as.map V.ref,rfl,.inl ⟨hD2,.inl rfl⟩,IsAll.Q7 (by simp[cj]) λj d v ed ev=>?_⟩,Dl,as.map V.ref,rfl,.inl rfl,.inl hD2,?_,λj k b ej ek=>?_⟩ λa z=>?_
    .exact p _ M1 _ H2 (e1.dr.trans ⟨λ_ z=>z,λa o e _=>sm a o e⟩) rep3
    .rw[kE]at ed ev;obtain⟨a,ea,rfl⟩:=mV.mp ev;obtain⟨x,_,rfl⟩:=mV.mp ed;have ha:=gK ea;exact⟨a,[],rfl,.inl ⟨(has a ha).2.2,.inr ha⟩,rfl⟩
    .intro z;obtain⟨a,ha,e⟩:=eR.mp z;cases e;exact(has _ ha).1 rfl
    .rw[kE]at ej ek;obtain⟨a,ea,e1⟩:=mV.mp ej;obtain⟨c,ec,e2⟩:=mV.mp ek;cases e1;cases e2;have hj:=(c5.mp ea).1;exact(List.getElem?_inj hj nd).mp (by rw[ea,ec])
    .obtain⟨vs,hv⟩:=cell a z;obtain⟨f0,f1,f2⟩:=rep1.free (fresh a z);exact⟨f1,f0,Mu.lst hv,λj _=>f2 j⟩
  .rw[f7 hlim]at p;exact p.elim
end
section
variable{X:Cx}{E:XK}
def mY:D->Bool
 |.lst es=>D.aL es
 |_=>false
def mq(i:Nat)(env:En)(ds:List D)(j:Nat)(es:List D)(rv:R):Res Fl:=if rv.d.flat/\es.length<lim/\ds.all mY then .ok (.nx (env.set i (some (.lz (.lst (ds.set j (.lst (es++[rv.d]))))))))else .stuck
def oK(i:Nat)(fv:En->Res R)(env:En)(ds:List D):Option Nat->Res Fl
 |some j=>match ds[j]? with
  |some (.lst es)=>(fv env).bind (mq i env ds j es)
  |_=>.stuck
 |none=>.stuck
def kf(i:Nat)(fv:En->Res R)(env:En)(ds:List D)(re:R):Res Fl:=match re.d with
 |.int k=>oK i fv env ds (pZ ds.length k)
 |_=>.stuck
def oM(i:Nat)(fe fv:En->Res R):En->Res Fl:=λenv=>match env[i]? with
 |some (some (.lz (.lst ds)))=>(fe env).bind (kf i fv env ds)
 |_=>.stuck
def zd(ha:PE X a (sC i))(hb:PD X E b fe)(h:PD X E e fv)(hs:rW b)
 (hbase:autoParam (attributeBase (.Subscript a b spos) "append" X.env (eval (.Subscript a b spos) X.env)=eval (.Subscript a b spos) X.env) TV)
 (hfew:autoParam (((backTo cpos (starEach [e] X.env)).all (λx=>!x.1)&&(backToKw cpos (keywordEach [] X.env)).all (λx=>x.1.isSome)
   && decide (([e]:List Expr).length+([]:List Keyword).length+(if([]:List Keyword).isEmpty then 0 else 1)<30))=true) TV)
 (hline:autoParam ((apos.endLine==cpos.line)=true) TV) (hse:autoParam (starEach [e] X.env=(false,eval e X.env)::starEach [] X.env) TV) (hplain:autoParam (bT X cpos []) TV)
 (hsw:autoParam (swapsWith (.Call (.Attribute (.Subscript a b spos) "append" apos) [e] [] cpos) none pos.line X.env=pure false) TV) :
 vT X E (.Expr (.Call (.Attribute (.Subscript a b spos) "append" apos) [e] [] cpos) pos) (oM i fe fv):=by
 obtain⟨tb,p2,s2⟩:=hb;obtain⟨t,p1,s1⟩:=h;refine⟨_,vI (xj SF PySem.F.slot_list_append PySem.F.type_list_append mX (Ci ix_list ha p2 hs) (gR p1 jl hse) hbase hfew hline hse hplain) hsw,λg M ρ env σ H D rep p=>?_⟩;unfold oM at p;split at p
 .rename_i ds e1;have hi:i<env.length:=(c5.mp e1).1;obtain⟨v,ev,⟨root,vs,rfl,hroot,hall⟩,dst⟩:=rep.slot i _ e1;obtain⟨r',vs',er,tr,hr',nin,inj⟩:=dst;cases er;have pm:∀a,ρ i a->∀o u,H a≠some (.dr o u):=λa z o u q=>by obtain⟨_,_,uo,w,wm⟩:=rep.ck i a z;rw[w]at q;cases q;exact wm
  have hroot:H root=some (.lst vs):=hroot.elim (·.1) λ⟨o,q,z⟩=>(pm _ z _ _ q).elim;have evs:vs'=vs:=by rcases hr' with q|⟨_,q,_⟩|⟨q,_⟩<;>rw[hroot]at q<;>cases q;rfl
  subst evs;refine⟨_,ev,s2.qZ rep p λre x M1 H1 x1 rep1 ro1 q1=>?_⟩;obtain⟨M2,x2,x2m,rep2,is2⟩:=ro1.is rep1 x1 rep.same;have q1:PostS X.mg E g M1 H1 D (kf i fv env ds re):=q1;unfold kf at q1;cases ed:re.d with
  |int k=>
   rw[ed]at q1 is2;cases is2;dsimp only at q1;cases en:pZ ds.length k with
   |none=>rw[en]at q1;exact q1.elim
   |some j=>
    rw[en]at q1;unfold oK at q1;dsimp only at q1;split at q1
    .rename_i es ej;obtain⟨w,ew,l,ws,rfl,hl,hes⟩:=hall.get ej;have tl:ρ i l:=hl.elim (·.2) λ⟨_,_,z⟩=>z;have hl:H l=some (.lst ws):=hl.elim (·.1) λ⟨o,q,z⟩=>(pm _ z _ _ q).elim;have hl1:=x1.h _ _ hl;have elen:=hall.length;refine⟨root,vs',k,.ref l,rfl,rfl,SqL.of (x1.h _ _ hroot),by unfold L2.bI;rw[elen,en];exact ew,.inl ⟨rfl,ws,SqL.of hl1⟩,?_⟩;refine s1.qZ (rep2:Rep g M2 ρ env σ H1) (PostS.dr (M':=M2) (H':=H1) ⟨x2m,λ_ _ q _=>q⟩ q1) λrv y M3 H3 x3 rep3 ro3 q3=>?_;obtain⟨M4,x4,x4m,rep4,is4⟩:=ro3.is rep3 x3 rep2.same;have q3:PostS X.mg E g M3 H3 D (mq i env ds j es rv):=q3;unfold mq at q3;by_cases hc:rv.d.flat/\es.length<lim/\ds.all mY
     .rw[dL hc]at q3;obtain⟨c1,c2,c3⟩:=hc;have up3:Same H H3:=x1.h.trans x3.h;have hl3:=up3 _ _ hl;have nrl:root≠l:=λe=>nin (e▸gK ew);have up:∀a o,H3 a=some o->a≠l->bQ H3 l (.lst (ws++[y])) a=some o:=λa o q n=>by rw[aH n];exact q
      have keepF:∀a o,H3 a=some o->((λ_=>False) a\/gS o)->bQ H3 l (.lst (ws++[y])) a=some o:=λa o q z=>up a o q λe=>by subst e;rw[hl3]at q;cases q;exact z.elim id id
      have flat1:∀{xs:List L3.D}{us:List V},L3.D.aL xs=true->IsAll H (ρ i) xs us->IsAll (bQ H3 l (.lst (ws++[y]))) (ρ i) xs us:=λhf z=>(IsAll.flat (m':=λ_=>False) hf (z.same up3)).mono keepF λ_ _ _ z=>z.elim;have fl:∀{x:L3.D},x∈ds->mY x=true:=λhx=>c8.mp c3 _ hx;have fes:L3.D.aL es=true:=fl (gK ej);have isd:IsAll (bQ H3 l (.lst (ws++[y]))) (ρ i) (ds.set j (.lst (es++[rv.d]))) vs':=IsAll.Q7 (by rw[vG];exact elen) λn d u ed eu=>by
       by_cases hn:n=j
       .subst hn;rw[f9 (c5.mp ej).1]at ed;cases ed;rw[ew]at eu;cases eu;exact⟨l,_,rfl,.inl ⟨aP,tl⟩,(flat1 fes hes).snoc ((Is.flat (m':=λ_=>False) c1 is4).mono keepF λ_ _ _ z=>z.elim)⟩
       .rw[jF (lX hn)]at ed;obtain⟨u',eu',iu⟩:=hall.get ed;rw[eu]at eu';cases eu';cases d with
        |lst es'=>obtain⟨l',ws',rfl,hl',hes'⟩:=iu;have tl':ρ i l':=hl'.elim (·.2) λ⟨_,_,z⟩=>z;have hl':H l'=some (.lst ws'):=hl'.elim (·.1) λ⟨o,q,z⟩=>(pm _ z _ _ q).elim;have nl:l'≠l:=λe=>hn (inj n j l (e▸eu) ew);exact⟨l',ws',rfl,.inl ⟨up _ _ (up3 _ _ hl') nl,tl'⟩,flat1 (fl (gK ed)) hes'⟩
        |_=>exact absurd (fl (gK ed)) (by simp[mY])
      obtain⟨f1,rep5⟩:=rep4.write (sl:=.lz (.lst (ds.set j (.lst (es++[rv.d]))))) (vs':=ws++[y]) tl hi ev ⟨⟨root,vs',rfl,.inl ⟨up _ _ (up3 _ _ hroot) nrl,tr⟩,isd⟩,root,vs',rfl,tr,.inl (up _ _ (up3 _ _ hroot) nrl),nin,inj⟩;exact⟨l,ws,y,rfl,rfl,hl3,by rw[hes.length];exact nY c2,q3 σ M4 ρ _ (ox.trans ⟨x4m,λ_ _ q _=>q⟩ f1) rep5⟩
     .rw[f7 hc]at q3;exact q3.elim
    .exact q1.elim
  |_=>rw[ed]at q1;exact q1.elim
 .exact p.elim
end
noncomputable def PX:Bool->List V->HO
 |true,xs=>.tup xs
 |false,xs=>.lst xs
def Aj:∀{k:Bool}{xs ys:List V},PX k xs=PX k ys->xs=ys
 |true,_,_,e=>by cases e;rfl
 |false,_,_,e=>by cases e;rfl
def Ak:∀{k:Bool}{xs:List V}{o:Obj}{u:HO},PX k xs≠.dr o u
 |true,_,_,_,e=>by cases e
 |false,_,_,_,e=>by cases e
def SqX(k:Bool)(H:Hp)(a:Addr)(xs:List V):Prop:=Rd H a (PX k xs)
def SqX.inj(h:SqX k H a xs)(g:SqX k H a ys):xs=ys:=by
 rcases h with h|⟨o,h⟩<;>rcases g with g|⟨o',g⟩<;>rw[h]at g
 .exact Aj (jD g)
 .exact(Ak (jD g)).elim
 .exact(Ak (jD g).symm).elim
 .have e:=jD g;injection e with _ e;exact Aj e
theorem SqX.some(h:SqX k H a xs):∃o,H a=some o:=CL h
def SqX.at:∀{k:Bool}{a:Addr}{xs:List V},L2.Inv X ag σ H s->SqX k H a xs->∃its:List TB,Vals xs its/\SAt k s.heap a its.toArray
 |true,_,_,I,h=>let ⟨its,r,p,_⟩:=I.tuple (.inl h);⟨its,r,p⟩
 |false,_,_,I,h=>let ⟨its,r,p,_⟩:=I.list (.inl h);⟨its,r,p.isList⟩
def QH(ka kb:Bool)(a b:Addr):It:=
 ⟨λi H=>∃xs ys x y,SqX ka H a xs/\SqX kb H b ys/\xs[i]?=some x/\ys[i]?=some y,λi H v H'=>∃p x y,H p=none/\v=.ref p/\H'=bQ H p (.tup [x,y])/\(∀xs,SqX ka H a xs->xs[i]?=some x)/\∀ys,SqX kb H b ys->ys[i]?=some y,
   λi H=>∃xs ys,SqX ka H a xs/\SqX kb H b ys/\(xs.length<=i\/ys.length<=i)⟩
structure Re(ka kb:Bool) (h:Heap) (z TI TO i1 i2 a b:Addr) (i:Nat):Prop where
 zip:IsZip h z TI TO .none
 ti:IsPair h TI (.ref i1) (.ref i2)
 to:∃u v,IsPair h TO u v
 l:SIt ka h i1 a i
 r:SIt kb h i2 b i
def xR{H:Hp}{z TI TO i1 i2 a b:Addr}(N:FH z TI TO i1 i2)(f:∀c∈[z,TI,TO,i1,i2],H c=none)(ha:∃o,H a=some o)(hb:∃o,H b=some o):ZipApart z TI TO i1 i2 a b:=by
 obtain⟨_,ha⟩:=ha;obtain⟨_,hb⟩:=hb;exact⟨N.TIz,N.TOz,N.i1z,N.i2z,N.TITO,N.TIi1,N.TIi2,N.TOi1,N.TOi2,N.i12,aD ha (f z (by simp)),aD ha (f TO (by simp)),aD ha (f i1 (by simp)),aD ha (f i2 (by simp)),
  aD hb (f z (by simp)),aD hb (f TO (by simp)),aD hb (f i1 (by simp)),aD hb (f i2 (by simp))⟩
def Bx{P:Tz}{w:World}{K:Tw}{es:List Expr}{k:Nat}{pos:Pos}(ka kb:Bool)(a b z TI TO i1 i2:Addr)(N:FH z TI TO i1 i2):Turn P w K (.Tuple es k pos) (QH ka kb a b) [z,TI,TO,i1,i2] z (λi h=>Re ka kb h z TI TO i1 i2 a b i) where
 mem:=by simp
 obj:=λi h st c hc=>by
  obtain⟨u,v,hto⟩:=st.to;obtain⟨o1,e1,c1,d1⟩:=st.l;obtain⟨o2,e2,c2,d2⟩:=st.r;simp only[cJ,iy,pK]at hc;rcases hc with rfl|rfl|rfl|rfl|rfl
  .exact⟨_,st.zip,λv z=>by cases z⟩
  .exact⟨_,st.ti,λv z=>by cases z⟩
  .exact⟨_,hto,λv z=>by cases z⟩
  .exact⟨o1,e1,λv z=>by rw[d1]at z;cases z⟩
  .exact⟨o2,e2,λv z=>by rw[d2]at z;cases z⟩
 keep:=λi h h' st kk=>by obtain⟨u,v,hto⟩:=st.to;exact⟨kk z (by simp) _ st.zip,kk TI (by simp) _ st.ti,⟨u,v,kk TO (by simp) _ hto⟩,L2.SIt.at st.l λo q=>kk i1 (by simp) o q,L2.SIt.at st.r λo q=>kk i2 (by simp) o q⟩
 item:=by
  intro X hP hw hK hc i ag s σ H E I hf st hg;subst hP hw hK;obtain⟨xs,ys,x,y,hq,hq2,hx,hy⟩:=hg;obtain⟨its,rv,p⟩:=hq.at I;obtain⟨its2,rv2,p2⟩:=hq2.at I;obtain⟨u,hu,ru⟩:=rv.get hx;obtain⟨u2,hu2,ru2⟩:=rv2.get hy;obtain⟨o1,o2,hto⟩:=st.to;have A:=xR N (λc hc=>(hf c hc).1) hq.some hq2.some;have fz:=hf z (by simp);have fI:=hf TI (by simp);have fO:=hf TO (by simp);have f1:=hf i1 (by simp);have f2:=hf i2 (by simp);refine Bb A st.zip st.ti hto st.l st.r p p2 (x:=u) (y:=u2) (by simpa using hu) (by simpa using hu2) λh' hz' hto' h1' h2' hp hsz hk=>?_;refine⟨_,rfl,wpAny_letOwnedTupleGo_zip hz' λh'' hz'' hs''=>?_⟩;have zlt:z<s.heap.objs.size:=f6 st.zip;have keep2:∀c o,c≠z->c≠TO->c≠i1->c≠i2->s.heap.get? c=some o->h''.get? c=some o:=λc o n1 n2 n3 n4 q=>(hs''.2 c n1).trans (hk c o n1 n2 n3 n4 q);have hT'':h''.get? s.heap.objs.size=some { cls:=.type "tuple",data:=.seq #[u,u2] }:=(hs''.2 _ (SM zlt)).trans hp;have fresh:=I.bP.fresh (dJ s.heap.objs.size);have nin:∀{c:Addr},c∉[z,TO,i1,i2]->c≠z/\c≠TO/\c≠i1/\c≠i2:=λhn=>⟨λz=>hn (by simp[z]),λz=>hn (by simp[z]),λz=>hn (by simp[z]),λz=>hn (by simp[z])⟩;have I1:L2.Inv X ag σ (bQ H s.heap.objs.size (.tup [x,y])) {s with heap:=h''}:=by
   refine I.step (t':=s.toks) (g':=s.gens) (d':=s.drawn) (ch:=[z,TO,i1,i2]) (λc hb=>?_) (λc o _ _ hn q _=>let ⟨n1,n2,n3,n4⟩:=nin hn;keep2 c o n1 n2 n3 n4 q)
    (λc o _ _ hn q _=>let ⟨n1,n2,n3,n4⟩:=nin hn;⟨o.slots,keep2 c o n1 n2 n3 n4 q⟩) (λc o _ q hH=>by rw[aH (je (f6 q))];exact hH)
    (λc o hn q=>let ⟨n1,n2,n3,n4⟩:=nin hn;⟨o,keep2 c o n1 n2 n3 n4 q⟩) (λc zs q=>by rw[aH (aD q fresh)];exact q)
    (λc o' u' q=>by rw[aH (aD q fresh)];exact q) (λc ps q=>⟨#[],by rw[aH (aD q fresh)];simp[q]⟩) (λm hm=>?_) (λc u' q=>?_) I.bare
   .simp only[cJ,iy,pK]at hb;rcases hb with rfl|rfl|rfl|rfl
    .exact⟨fz.2.2.2.1,fz.2.1,fz.2.2.2.2.1,fz.2.2.2.2.2⟩
    .exact⟨fO.2.2.2.1,fO.2.1,fO.2.2.2.2.1,fO.2.2.2.2.2⟩
    .exact⟨f1.2.2.2.1,f1.2.1,f1.2.2.2.2.1,f1.2.2.2.2.2⟩
    .exact⟨f2.2.2.2.1,f2.2.1,f2.2.2.2.2.1,f2.2.2.2.2.2⟩
   .obtain⟨o,es',ep,ho',r⟩:=hm;exact⟨o,es',ep,keep2 _ o (lX fz.2.1) (lX fO.2.1) (lX f1.2.1) (lX f2.2.1) ho',r⟩
   .by_cases hb:c=s.heap.objs.size
    .subst hb;rw[aP]at q;cases q;refine⟨by show 2<=sizeLine;decide,[u,u2],.cons ru (.cons ru2 .nil),⟨_,hT'',rfl,0,rfl⟩⟩
    .rw[aH hb]at q;refine(I.bP c u' q).stay (λd v hc' q'=>?_) (λd r=>by rw[aH (aD r fresh)];exact r) λd zs r=>by rw[aH (aD r fresh)];exact r
     have tr:∃w,H d=some w:=hc'.elim (λz=>⟨u',by rw[z];exact q⟩) λz=>⟨_,z⟩;obtain⟨w',hw'⟩:=tr;exact keep2 d v (aD hw' fz.1) (aD hw' fO.1) (aD hw' f1.1) (aD hw' f2.1) q'
  refine⟨.ref s.heap.objs.size,_,I1,rfl,⟨_,x,y,fresh,rfl,rfl,λzs hz'=>by rw[<- hq.inj hz'];exact hx,λzs hz'=>by rw[<- hq2.inj hz'];exact hy⟩,?_,λc hb=>?_⟩
  .have mv:∀c o,c≠z->h'.get? c=some o->h''.get? c=some o:=λc o n q=>(hs''.2 c n).trans q;exact⟨hz'',keep2 TI _ N.TIz N.TITO N.TIi1 N.TIi2 st.ti,⟨_,_,mv TO _ N.TOz hto'⟩,L2.SIt.at h1' λo q=>mv i1 o N.i1z q,L2.SIt.at h2' λo q=>mv i2 o N.i2z q⟩
  .have lt:∀{c:Addr}{o:Obj},s.heap.get? c=some o->H c=none->(bQ H s.heap.objs.size (.tup [x,y])) c=none:=λq n=>by rw[aH (je (f6 q))];exact n
   obtain⟨oo1,q1,_⟩:=st.l;obtain⟨oo2,q2,_⟩:=st.r;simp only[cJ,iy,pK]at hb;rcases hb with rfl|rfl|rfl|rfl|rfl
   .exact lt st.zip fz.1
   .exact lt st.ti fI.1
   .exact lt hto fO.1
   .exact lt q1 f1.1
   .exact lt q2 f2.1
 done:=by
  intro X hP hw hK hc i ag s σ H E I hf st hg;subst hP hw hK;obtain⟨xs,ys,hq,hq2,hx⟩:=hg;obtain⟨its,rv,p⟩:=hq.at I;obtain⟨its2,rv2,p2⟩:=hq2.at I;obtain⟨o1,o2,hto⟩:=st.to;have A:=xR N (λc hc=>(hf c hc).1) hq.some hq2.some;have fz:=hf z (by simp);have fO:=hf TO (by simp);have f1:=hf i1 (by simp);have f2:=hf i2 (by simp);have l1:=rv.length;have l2:=rv2.length;refine CC (I.ok.hd hc) A st.zip st.ti hto st.l st.r p p2 (hx.imp (λz=>by simp;lia) λz=>by simp;lia) λh' hk=>⟨rfl,?_⟩;have nin:∀{c:Addr},c∉[z,TO,i1,i2]->c≠z/\c≠TO/\c≠i1/\c≠i2:=λhn=>⟨λz=>hn (by simp[z]),λz=>hn (by simp[z]),λz=>hn (by simp[z]),λz=>hn (by simp[z])⟩;refine I.step (t':=s.toks) (g':=s.gens) (d':=s.drawn) (ch:=[z,TO,i1,i2]) (λc hb=>?_) (λc o _ _ hn q _=>let ⟨n1,n2,n3,n4⟩:=nin hn;hk c o n1 n2 n3 n4 q)
   (λc o _ _ hn q _=>let ⟨n1,n2,n3,n4⟩:=nin hn;⟨o.slots,hk c o n1 n2 n3 n4 q⟩) (λc o _ q hH=>hH)
   (λc o hn q=>let ⟨n1,n2,n3,n4⟩:=nin hn;⟨o,hk c o n1 n2 n3 n4 q⟩) (λc zs q=>q)
   (λc o' u' q=>q) (λc ps q=>⟨#[],by simp[q]⟩) (λm hm=>?_) (λc u' q=>?_) I.bare
  .simp only[cJ,iy,pK]at hb;rcases hb with rfl|rfl|rfl|rfl
   .exact⟨fz.2.2.2.1,fz.2.1,fz.2.2.2.2.1,fz.2.2.2.2.2⟩
   .exact⟨fO.2.2.2.1,fO.2.1,fO.2.2.2.2.1,fO.2.2.2.2.2⟩
   .exact⟨f1.2.2.2.1,f1.2.1,f1.2.2.2.2.1,f1.2.2.2.2.2⟩
   .exact⟨f2.2.2.2.1,f2.2.1,f2.2.2.2.2.1,f2.2.2.2.2.2⟩
  .obtain⟨o,es',ep,ho',r⟩:=hm;exact⟨o,es',ep,hk _ o (lX fz.2.1) (lX fO.2.1) (lX f1.2.1) (lX f2.2.1) ho',r⟩
  .refine(I.bP c u' q).stay (λd v hc' q'=>?_) (λd r=>r) λd zs r=>r;have tr:∃w,H d=some w:=hc'.elim (λz=>⟨u',by rw[z];exact q⟩) λz=>⟨_,z⟩;obtain⟨w',hw'⟩:=tr;exact hk d v (aD hw' fz.1) (aD hw' fO.1) (aD hw' f1.1) (aD hw' f2.1) q'
 self:=λA i s Q E st h=>wpAny_pyIter_zip st.zip h
section
variable{X:Cx}{E:XK}{es:List Expr}{k:Nat}{ul:Pos}
def NG(ta:TA):TI:=λσ H R=>ta σ H λvs H1=>∃ka kb a b xs ys,vs=[.ref a,.ref b]/\SqX ka H1 a xs/\SqX kb H1 b ys/\R (QH ka kb a b) H1
def Gz{ta:TA}{p pos:Pos}(hg:Gl X "zip") (hm:X.mg "zip"=none) (ha:PA X [l,r] ta) (hs:autoParam (starEach [l,r] X.env=(false,eval l X.env)::starEach [r] X.env) TV) (hpl:autoParam ((backTo pos (starEach [r] X.env)).any (·.1)=false) TV) :
 PI X (.Tuple es k ul) (.Call (.Name "zip" p) [l,r] [] pos) (NG ta):=by
 intro ag s σ H R I h;refine Call_ (nS I hg hm (by decide +kernel:bootBuiltins "zip"=some (.type "zip")) (nL (eS (ha pos ag s σ H _ I h) λus s1 ⟨vs,H1,I1,r1,q1⟩=>?_) hs hpl));have fpc:∀c∈[s1.heap.objs.size+4,s1.heap.objs.size+2,s1.heap.objs.size+3,s1.heap.objs.size,s1.heap.objs.size+1],h8 X ag H1 c:=λc hb=>by
  have hc:s1.heap.objs.size<=c:=by
   simp only[cJ,iy,pK]at hb;rcases hb with rfl|rfl|rfl|rfl|rfl
   .exact SZ _ 4
   .exact SZ _ 2
   .exact SZ _ 3
   .exact dJ _
   .exact SZ _ 1
  exact I1.wQ hc (I1.bP.fresh hc)
 obtain⟨ka,kb,a,b,xs,ys,e,hq,hq2,q⟩:=q1;subst e;obtain⟨u,c,rfl,ru,rc⟩:=Ce r1;cases ru;cases rc;obtain⟨its,rv,pl⟩:=hq.at I1;obtain⟨its2,rv2,pl2⟩:=hq2.at I1;refine Bc pl pl2 λh' g1 g2 g3 g4 g5 kp=>?_;have I2:L2.Inv X ag σ H1 {s1 with heap:=h'}:=I1.kept (t':=s1.toks) kp;refine wpAny_pyIter_zip g1 ?_;exact⟨s1.heap.objs.size+4,_,_,_,H1,rfl,I2,Bx ka kb a b (s1.heap.objs.size+4) (s1.heap.objs.size+2) (s1.heap.objs.size+3) s1.heap.objs.size (s1.heap.objs.size+1) (J9 s1.heap.objs.size),⟨g1,g2,⟨_,_,g3⟩,g4,g5⟩,fpc,q⟩
def Di(k:Bool)(H:Hp)(m:Addr->Prop)(a:Addr)(vs:List V):Prop:=∀H':Hp,(∀a o,H a=some o->(m a\/gS o)->H' a=some o)->SqX k H' a vs
theorem By{m:Addr->Prop}{H:Hp}{ds es:List D}{vs ws:List V}(h:Di ka H m a vs)(h2:Di kb H m b ws)(is:IsAll H m ds vs)(is2:IsAll H m es ws):Walk (QH ka kb a b) m H (i_ ds es):=by
 refine⟨λH' i d k e=>?_,λH' k=>⟨vs,ws,h H' k,h2 H' k,by rw[xI,is.length,is2.length];lia⟩⟩;rw[xH]at e;cases q:ds[i]? with
 |none=>rw[q]at e;cases e
 |some d0=>
  cases q2:es[i]? with
  |none=>rw[q,q2]at e;cases e
  |some e0=>
   rw[q,q2]at e;have e:D.tup [d0,e0]=d:=by simpa using e
   obtain⟨v,ev,iv⟩:=(is.mono k λ_ _ _ z=>z:IsAll H' m ds vs).get q;obtain⟨v2,ev2,iv2⟩:=(is2.mono k λ_ _ _ z=>z:IsAll H' m es ws).get q2;have k1:=h H' k;have k2:=h2 H' k;refine⟨⟨vs,ws,v,v2,k1,k2,ev,ev2⟩,λx H'' y=>?_⟩;obtain⟨p,x',y',hp,rfl,rfl,y1,y2⟩:=y;have z1:=y1 vs k1;have z2:=y2 ws k2;rw[ev]at z1;cases z1;rw[ev2]at z2;cases z2;have sm:Same H' (bQ H' p (.tup [v,v2])):=bJ hp;refine⟨sm,?_⟩;rw[<- e];exact⟨p,_,rfl,aP,v,[v2],rfl,Is.same sm iv,v2,[],rfl,Is.same sm iv2,rfl⟩
noncomputable def Dj:D->Option (Bool×List D)
 |.lst ds=>some (false,ds)
 |.tup ds=>some (true,ds)
 |_=>none
theorem Al{m:Addr->Prop}{v:V}{k:Bool}{ds:List D}(e:Dj d=some (k,ds))(h:Is H m d v):∃a vs,v=.ref a/\SqX k H a vs/\Di k H m a vs/\IsAll H m ds vs:=by
 cases d with
 |lst es=>
  cases e;obtain⟨a,vs,rfl,h1,h2⟩:=h;refine⟨a,vs,rfl,h1.imp (·.1) λ⟨o,z,_⟩=>⟨o,z⟩,λH' kp=>?_,h2⟩;rcases h1 with⟨z,zm⟩|⟨o,z,zm⟩
  .exact .inl (kp a _ z (.inl zm))
  .exact .inr ⟨o,kp a _ z (.inl zm)⟩
 |tup es=>cases e;obtain⟨a,vs,rfl,h1,h2⟩:=h;exact⟨a,vs,rfl,.inl h1,λH' kp=>.inl (kp a _ h1 (.inr True.intro)),h2⟩
 |_=>cases e
def vn:List R->Res Src
 |[r,q]=>match Dj r.d,Dj q.d with
  |some (_,ds),some (_,es)=>.ok ⟨i_ ds es,r.fr&&q.fr,r.al++q.al⟩
  |_,_=>.stuck
 |_=>.stuck
def tD(fs:En->Res (List R)):En->Res Src:=λenv=>(fs env).bind vn
def mr{fs:En->Res (List R)} {p pos:Pos} (hg:Gl X "zip") (hm:X.mg "zip"=none) (ha:y3 X E [l,r] fs) (hs:autoParam (starEach [l,r] X.env=(false,eval l X.env)::starEach [r] X.env) TV) (hpl:autoParam ((backTo pos (starEach [r] X.env)).any (·.1)=false) TV) :
 CW X E (.Tuple es k ul) (.Call (.Name "zip" p) [l,r] [] pos) (tD fs):=by
 obtain⟨t,p1,s1⟩:=ha;refine⟨_,Gz hg hm p1 hs hpl,λg M ρ env σ H Rq rep p=>s1.one rep (P:=λM H r=>PostI X.mg E g M ρ env σ H Rq r) p (λ_ _ z=>z) (λ_ _ _ z=>z) (λ_ _ _ _ _ e p=>p.ext e) λrs vs M1 H1 e1 rep1 is q=>?_⟩
 match rs,is,q with
 |[r,r2],is,q=>
  obtain⟨v,w,rfl,i1,v2,w2,rfl,i2,i3⟩:=is;cases i3;have i1:Is H1 (vmsk g M1 (bF [r,r2]) ρ (cT [r,r2])) r.d v:=i1;have i2:Is H1 (vmsk g M1 (bF [r,r2]) ρ (cT [r,r2])) r2.d v2:=i2;replace i1:=i1.weak λ_ z=>Ag z;replace i2:=i2.weak λ_ z=>Ag z;unfold vn at q;dsimp only at q;cases z:Dj r.d with
  |none=>rw[z]at q;exact q.elim
  |some x=>
   cases z2:Dj r2.d with
   |none=>rw[z,z2]at q;exact q.elim
   |some y=>obtain⟨ka,ds⟩:=x;obtain⟨kb,es⟩:=y;rw[z,z2]at q;dsimp only at q;obtain⟨a,ws,rfl,h1,h2,h3⟩:=Al z i1;obtain⟨b,us,rfl,g1,g2,g3⟩:=Al z2 i2;exact⟨ka,kb,a,b,ws,us,rfl,h1,g1,q _ M1 H1 (Ext.refl _ _) rep1 (By h2 g2 h3 g3)⟩
 |[],_,q=>exact q.elim
 |[_],_,q=>exact q.elim
 |_::_::_::_,_,q=>exact q.elim
end
section
variable{X:Cx}{E:XK}
def QI:V->List V->Hp->VK->Prop:=λx xs H Q=>∃l vs ds d m m' y j,x=.ref l/\xs=[y]/\Rd H l (.lst vs)/\IsAll H m ds vs/\Is H m' d y/\(D.iS ds<=50/\d.dep<=50)/\ds.findIdx? (λe=>dq e d)=some j/\Q (.int ((j:Nat):Int)) H
def Kk(hu:X.A.units+64<cLine):PJ X "list.index" QI:=by
 intro ag s σ H x vs v us Q I rx rv h;obtain⟨l,xs,ds,d,m,m',y,j,rfl,rfl,hH,is,ix,hd,hj,q⟩:=h;cases rx;obtain⟨u,rfl,ru⟩:=rv.one;obtain⟨z,its,n,r,e⟩:=(show ObjOk X.prog X.w H s.heap l (.lst xs)from zV I.bP hH);have hl:=r.length;obtain⟨hj1,hj2,hj3⟩:=List.findIdx?_eq_some_iff_getElem.mp hj;have lds:=is.length;have hji:j<its.length:=by lia
 have eqs:∀(k:Nat)(hk:k<its.length)(hk':k<ds.length),eU H m d its[k]=dq ds[k] d:=λk hk hk'=>by
  obtain⟨w,ew,iw⟩:=is.get (i:=k) (d:=ds[k]) (by simp[hk']);obtain⟨u',eu,ru'⟩:=r.get ew;have:its[k]=u':=by rw[nK hk]at eu;exact jD eu
  rw[this];exact qo ru' iw
 refine S3 F.slot_list_index ⟨_,e,rfl⟩ F.entry_list_index (F.args_list_index_2 _ _) (SeqAt.list_indexAt l its.toArray n none #[] u (eU H m d) j (by simpa using hji) ?_ ?_ ?_) ⟨e,?_,?_⟩
 .have:sizeLine<2^62:=by decide
  lia
 .simp only[List.getElem_toArray];rw[eqs j hji hj1];exact hj2
 .intro k hk hkj;have hk':k<its.length:=by simpa using hk
  simp only[List.getElem_toArray];rw[eqs k hk' (by lia)];have:=hj3 k hkj;simpa using this
 .exact λw hw=>jg I (by show X.A.units+1+50<cLine;lia) ix hd.2 ru is r hd.1 w (by simpa using hw)
 .exact⟨.int j,H,I.tok _,⟨_,rfl⟩,q⟩
def Dk(ds:List D)(d:D):Option Nat:=if D.iS ds<=50/\d.dep<=50 then ds.findIdx? (λe=>dq e d)else none
def xS(ds:List D)(rb:R):Res R:=match Dk ds rb.d with
 |some j=>.ok (.val (.int ((j:Nat):Int)) true [])
 |none=>.stuck
def vo(fa:En->Res R)(env:En)(ra:R):Res R:=match ra.d with
 |.lst ds=>(fa env).bind (xS ds)
 |_=>.stuck
def GA(fo fa:En->Res R):En->Res R:=λenv=>(fo env).bind (vo fa env)
def Kl(hu:X.A.units+64<cLine)(ho:PD X E o fo)(ha:PD X E a fa)(hbase:autoParam (attributeBase o "index" X.env (eval o X.env)=eval o X.env) TV)
 (hfew:autoParam (((backTo cpos (starEach [a] X.env)).all (λx=>!x.1)&&(backToKw cpos (keywordEach [] X.env)).all (λx=>x.1.isSome)&&decide (([a]:List Expr).length+([]:List Keyword).length+(if([]:List Keyword).isEmpty then 0 else 1)<30))=true) TV)
 (hline:autoParam ((apos.endLine==cpos.line)=true) TV) (hs:autoParam (starEach [a] X.env=(false,eval a X.env)::starEach [] X.env) TV) (hplain:autoParam (bT X cpos []) TV) :
 PD X E (.Call (.Attribute o "index" apos) [a] [] cpos) (GA fo fa):=by
 obtain⟨to,p0,s0⟩:=ho;obtain⟨t,p1,s1⟩:=ha;refine⟨_,xj SF PySem.F.slot_list_index PySem.F.type_list_index (Kk hu) p0 (gR p1 jl hs) hbase hfew hline hs hplain,λg M ρ env σ H Q rep p=>?_⟩;have p:PostE X.mg E g M ρ env σ H Q ((fo env).bind (vo fa env)):=p;refine s0.iT rep p λra v M1 H1 e1 rep1 i1 q1=>?_;unfold vo at q1;cases hq:ra.d with
 |lst ds=>
  rw[hq]at q1 i1;dsimp only at q1;obtain⟨b,ws,rfl,h,k⟩:=i1;have rd:Rd H1 b (.lst ws):=h.imp (λz=>z.1) λ⟨o,z,_⟩=>⟨o,z⟩;refine⟨.inl ⟨rfl,ws,.inl rd⟩,s1.iT rep1 q1 λrb y M2 H2 e2 rep2 i2 q2=>?_⟩;unfold xS at q2;cases qj:Dk ds rb.d with
  |none=>rw[qj]at q2;exact q2.elim
  |some j=>
   rw[qj]at q2;unfold Dk at qj;by_cases hd:D.iS ds<=50/\rb.d.dep<=50
   .rw[dL hd]at qj;have rd2:Rd H2 b (.lst ws):=rd.imp (λh=>e2.h _ _ h) λ⟨o,h⟩=>⟨o,e2.h _ _ h⟩;exact⟨b,ws,ds,rb.d,_,_,y,j,rfl,rfl,rd2,k.ext e2,i2,hd,qj,q2 _ M2 H2 (Ext.refl _ _) rep2 rfl⟩
   .rw[f7 hd]at qj;cases qj
 |_=>rw[hq]at q1;exact q1.elim
noncomputable def jp(kvs:List (Str×Int))(k:Str):Option Int:=(kvs.find? λp=>decide (p.1=k)).map (·.2)
def GB(kvs:List (Str×Int))(r:R):Res R:=match r.d with
 |.str k=>(match jp kvs k with
  |some v=>.ok (.val (.int v) true [])
  |none=>.stuck)
 |_=>.stuck
def GC(kvs:List (Str×Int))(f:En->Res R):En->Res R:=λenv=>(f env).bind (GB kvs)
noncomputable def ze(w:World):List DictEntry->List (Str×Int)->Prop
 |[],[]=>True
 |e::es,p::ps=>(e.hash=hashStr w p.1/\(∃t,e.key=.str p.1 t)/\∃t,e.val=.int p.2 t)/\ze w es ps
 |_,_=>False
def xT(w:World)(K:Tw)(a:Addr)(kvs:List (Str×Int)):Prop:=∃es ep,K.lookup a=some ⟨.type "dict",none,.dict es ep,#[]⟩/\ze w es.toList kvs/\(kvs.map (·.1)).Nodup
noncomputable def ny:List DictEntry->List (Str×Int)->List (gQ×TB)
 |e::es,p::ps=>(.inr p.1,e.val)::ny es ps
 |_,_=>[]
theorem qu:∀{es:List DictEntry}{kvs:List (Str×Int)},ze w es kvs->Pairs (bS P w) es (ny es kvs)
 |[],[],_=>.nil
 |e::es,p::ps,h=>by obtain⟨⟨_,⟨t,hk⟩,_⟩,h2⟩:=h;exact .cons (by rw[hk];exact l_ P w p.1 t) rfl (qu h2)
 |[],_::_,h=>h.elim
 |_::_,[],h=>h.elim
theorem tE:∀{es:List DictEntry}{kvs:List (Str×Int)},ze w es kvs->∀e∈es,∃k,(bS P w).is k e.key=true/\e.hash=(bS P w).hash k
 |[],[],_,_,h=>by cases h
 |e::es,p::ps,h,x,hx=>by
  obtain⟨⟨hh,⟨t,hk⟩,_⟩,h2⟩:=h;rcases cJ.mp hx with rfl|hx
  .exact⟨.inr p.1,by rw[hk];exact l_ P w p.1 t,hh⟩
  .exact tE h2 x hx
 |[],_::_,h,_,_=>h.elim
 |_::_,[],h,_,_=>h.elim
theorem v6:∀{es:List DictEntry}{kvs:List (Str×Int)},ze w es kvs->(ny es kvs).map (·.1)=kvs.map λp=>(.inr p.1:gQ)
 |[],[],_=>rfl
 |e::es,p::ps,h=>by unfold ny;rw[c7,c7,v6 h.2]
 |[],_::_,h=>h.elim
 |_::_,[],h=>h.elim
theorem Am:∀{es:List DictEntry}{kvs:List (Str×Int)},ze w es kvs->jp kvs k=some v->∃u,valueAt (ny es kvs) (.inr k:gQ)=some u/\RelV (.int v) u
 |[],[],_,e=>by cases e
 |e::es,p::ps,h,q=>by
  obtain⟨⟨_,_,⟨t,hv⟩⟩,h2⟩:=h;unfold jp at q;unfold ny valueAt;by_cases c:p.1=k
  .rw[jk,dM c]at q;have q:p.2=v:=by simpa using q
   refine⟨e.val,?_,t,by rw[hv,q]⟩;rw[jk,dM (by rw[c])];rfl
  .rw[jk,fZ c]at q;obtain⟨u,e1,e2⟩:=Am h2 (show jp ps k=some v from q);refine⟨u,?_,e2⟩;rw[jk,fZ (λz=>c (S9 z))];exact e1
 |[],_::_,h,_=>h.elim
 |_::_,[],h,_=>h.elim
def Km(hg:Gl X x)(hm:X.mg x=some (.ref a))(tb:xT X.w X.K a kvs)(hi:PE X i ty)(hs:JP i)(hd:dB x) :
 PE X (.Subscript (.Name x np) i pos) (λσ H Q=>ty σ H λy H2=>∃k v,y=.str k/\jp kvs k=some v/\Q (.int v) H2):=by
 intro ag s σ H Q I h;have hn:=vH (X:=X) (v:=.ref a) (pos:=np) hg hm rfl hd;refine F6 PySem.F.slot_dict_getitem.lookup hs (eS (hn ag s σ H (λv H1=>v=.ref a/\H1=H) I ⟨rfl,rfl⟩) λu s1 ⟨x,H1,I1,rx,ex,eh⟩=>?_);subst ex eh;obtain rfl:u=Value.ref a:=rx;refine eS (hi ag s1 σ _ _ I1 h) λiv s2 ⟨y,H2,I2,ry,k,v,ey,ht,q⟩=>?_;subst ey;obtain⟨es,ep,lk,te,nd⟩:=tb;have dd:s2.heap.DictOf (bS X.prog X.w) a (ny es.toList kvs):=⟨_,es,ep,I2.sx _ _ lk,⟨rfl,rfl,rfl⟩,rfl,λe he=>tE te e (by simpa using he),qu te,by
  rw[v6 te];have:((kvs.map (·.1)).map λn=>(.inr n:gQ)).Nodup:=by rw[List.Nodup,Tn];exact nd.imp λ{a b} h e=>h (S9 e)
  rw[iA]at this;exact this⟩
 obtain⟨w',hw,rw'⟩:=Am te ht;exact⟨dd.typeIs,wpAny_getItem_of (oB (k:=.inr k) ry) dd.mapOf hw ⟨.int v,H2,I2.tok _,rw',q⟩⟩
def Kn(hg:Gl X x)(tb:∃a,X.mg x=some (.ref a)/\xT X.w X.K a kvs)(hi:PD X E i f)(hs:JP i)(hd:autoParam (dB x) TQ) :
 PD X E (.Subscript (.Name x np) i pos) (GC kvs f):=by
 obtain⟨a,hm,ta⟩:=tb;obtain⟨t,p1,s1⟩:=hi;refine⟨_,Km hg hm ta p1 hs hd,λg M ρ env σ H Q rep p=>s1.iT rep p λr v M1 H1 e1 rep1 i1 q1=>?_⟩;unfold GB at q1;cases hq:r.d with
 |str k=>
  rw[hq]at q1 i1;dsimp only at q1;cases ht:jp kvs k with
  |none=>rw[ht]at q1;exact q1.elim
  |some n=>rw[ht]at q1;exact⟨k,n,i1,ht,q1 _ M1 H1 (Ext.refl _ _) rep1 rfl⟩
 |_=>rw[hq]at q1;exact q1.elim
def qx(a b:R):Res R:=match a.d,b.d with
 |.str x,.str y=>.ok (.val (.bl (!(decide (y.cps.toList<x.cps.toList)))) true [])
 |_,_=>.stuck
def Ko:OpR X (compareOp .LtE) (λx y H Q=>∃i j,x=.str i/\y=.str j/\Q (.bl (!(decide (j.cps.toList<i.cps.toList)))) H):=by intro ag s σ H x y v u Q I rx ry h;obtain⟨i,j,rfl,rfl,q⟩:=h;obtain⟨t,rfl⟩:=rx;obtain⟨t',rfl⟩:=ry;exact P.le_str (Ca I q rfl)
def v7:oG X E (compareOp .LtE) qx:=by
 refine⟨_,Ko,λg M ρ env σ H Q ra rb x y rep i1 i2 p=>?_⟩;unfold qx at p;cases ha:ra.d with
 |str a=>
  cases hb:rb.d with
  |str b=>rw[ha,hb]at p;rw[ha]at i1;rw[hb]at i2;exact⟨a,b,i1,i2,p _ M H (Ext.refl _ _) rep rfl⟩
  |_=>rw[ha,hb]at p;exact p.elim
 |_=>rw[ha]at p;exact p.elim
def uJ:List R->Res R
 |[r]=>match r.d with
  |.int i=>if i.natAbs<1000000 then .ok (.val (.str (toString i)) true [])else .stuck
  |.str x=>.ok (.val (.str x) true [])
  |_=>.stuck
 |_=>.stuck
def Bz:CallR X (.type "str") (λxs H Q=>(∃i,xs=[.int i]/\i.natAbs<1000000/\Q (.str (toString i)) H)\/∃x,xs=[.str x]/\Q (.str x) H):=by
 intro ag s σ H xs us Q I r h;rcases h with⟨i,rfl,hz,q⟩|⟨x,rfl,q⟩
 .obtain⟨u,rfl,t,rfl⟩:=j8 r;have:i.natAbs.log2<1920:=by
   by_cases h0:i.natAbs=0
   .rw[h0];decide
   .exact(Nat.log2_lt h0).mpr (iB hz (jQ (by decide:1000000<=2^20) (Nat.pow_le_pow_right (by decide) (by decide))))
  exact PySem.P.str_of_int this ⟨.str _,H,I.tok _,⟨_,rfl⟩,q⟩
 .obtain⟨u,rfl,t,rfl⟩:=j8 r;exact PySem.P.str_of_str ⟨.str _,H,I,⟨_,rfl⟩,q⟩
def zf:mj X E (.type "str") uJ:=by
 refine⟨_,Bz,λg M ρ env σ H Q rs vs rep i p=>?_⟩;rcases rs with _|⟨r,_|_⟩
 .exact p.elim
 rotate_left
 .exact p.elim
 obtain⟨v,w,rfl,i1,i2⟩:=i;cases i2;have i1:Is H (vmsk g M (bF [r]) ρ (cT [r])) r.d v:=i1;unfold uJ at p;dsimp only at p;cases z:r.d with
 |int n=>
  rw[z]at p i1;dsimp only at p;by_cases hc:n.natAbs<1000000
  .rw[dL hc]at p;cases(show v=.int n from i1);exact .inl ⟨n,rfl,hc,p _ M H (Ext.refl _ _) rep rfl⟩
  .rw[f7 hc]at p;exact p.elim
 |str x=>rw[z]at p i1;cases(show v=.str x from i1);exact .inr ⟨x,rfl,p _ M H (Ext.refl _ _) rep rfl⟩
 |_=>rw[z]at p;exact p.elim
noncomputable def lG:List D->Option (List Str)
 |[]=>some []
 |.str x::ds=>(lG ds).map (x::·)
 |_::_=>none
theorem qy:∀xs:List Str,lG (xs.map .str)=some xs
 |[]=>rfl
 |x::xs=>by rw[c7];unfold lG;rw[qy xs];rfl
theorem tF:∀{ds:List D}{vs:List V}{xs:List Str},IsAll H m ds vs->lG ds=some xs->vs=xs.map V.str
 |[],_,_,h,e=>by cases h;cases e;rfl
 |.str x::ds,_,xs,h,e=>by
  obtain⟨v,r,rfl,h1,h2⟩:=h;unfold lG at e;cases q:lG ds with
  |none=>rw[q]at e;cases e
  |some ys=>rw[q]at e;cases e;rw[tF h2 q,c7,show v=.str x from h1]
 |.gP::_,_,_,_,e=>by cases e
 |.bl _::_,_,_,_,e=>by cases e
 |.int _::_,_,_,_,e=>by cases e
 |.tup _::_,_,_,_,e=>by cases e
 |.lst _::_,_,_,_,e=>by cases e
 |.j7 _ _::_,_,_,_,e=>by cases e
theorem vp:∀{xs:List Str}{its:List TB},Vals (xs.map V.str) its->∃l:List (Str×Tok),its=strValues l/\l.map (·.1)=xs
 |[],its,h=>by cases h;exact⟨[],rfl,rfl⟩
 |x::xs,its,h=>by
  rw[c7]at h;cases h with
  |cons h1 h2=>obtain⟨t,rfl⟩:=h1;obtain⟨l,rfl,rfl⟩:=vp h2;exact⟨(x,t)::l,rfl,rfl⟩
noncomputable def rq(sep:Str)(xs:List Str):Nat:=(xs.map (·.length)).sum+xs.length*sep.length
def Dm(h:rq sep xs<=1000000):JoinOk sep xs=true:=by
 unfold JoinOk;rw[Tj];unfold Builtin.Str.tooLong;rw[StrLaws.joinTotal];have:1000000<=sizeLine:=by decide
 unfold rq at h;exact fZ (by lia)
def NH:V->List V->Hp->VK->Prop:=λx vs H Q=>∃sep p xs,x=.str sep/\vs=[.ref p]/\Rd H p (.lst (xs.map V.str))/\rq sep xs<=1000000/\Q (.str (Txt.join sep xs)) H
def GD:PJ X "str.join" NH:=by intro ag s σ H x vs v us Q I rx rv h;obtain⟨sep,p,xs,rfl,rfl,hH,hj,q⟩:=h;obtain⟨t,rfl⟩:=rx;obtain⟨u,rfl,ru⟩:=rv.one;cases ru;obtain⟨z,its,n,r,e⟩:=(show ObjOk X.prog X.w H s.heap p (.lst (xs.map V.str))from zV I.bP hH);obtain⟨l,rfl,hl⟩:=vp r;exact SC.join (l:=l) ⟨_,e,rfl,n,rfl⟩ hl (Dm hj) λt' k=>⟨.str _,H,I.tok _,⟨_,rfl⟩,q⟩
def qz(sep:Str)(r:R):Res R:=match r.d with
 |.lst ds=>(match lG ds with
  |some xs=>if rq sep xs<=1000000 then .ok (.val (.str (Txt.join sep xs)) true [])else .stuck
  |none=>.stuck)
 |_=>.stuck
def tG(fa:En->Res R)(env:En)(ra:R):Res R:=match ra.d with
 |.str sep=>(fa env).bind (qz sep)
 |_=>.stuck
def xU(fo fa:En->Res R):En->Res R:=λenv=>(fo env).bind (tG fa env)
def v8(ho:PD X E o fo)(ha:PD X E a fa)(hbase:autoParam (attributeBase o "join" X.env (eval o X.env)=eval o X.env) TV)
 (hfew:autoParam (((backTo cpos (starEach [a] X.env)).all (λx=>!x.1)&&(backToKw cpos (keywordEach [] X.env)).all (λx=>x.1.isSome)&&decide (([a]:List Expr).length+([]:List Keyword).length+(if([]:List Keyword).isEmpty then 0 else 1)<30))=true) TV)
 (hline:autoParam ((apos.endLine==cpos.line)=true) TV) (hs:autoParam (starEach [a] X.env=(false,eval a X.env)::starEach [] X.env) TV) (hplain:autoParam (bT X cpos []) TV) :
 PD X E (.Call (.Attribute o "join" apos) [a] [] cpos) (xU fo fa):=by
 obtain⟨to,p0,s0⟩:=ho;obtain⟨t,p1,s1⟩:=ha;refine⟨_,xj PySem.F.plainAttrs_str PySem.F.slot_str_join PySem.F.type_str_join GD p0 (gR p1 jl hs) hbase hfew hline hs hplain,λg M ρ env σ H Q rep p=>?_⟩;have p:PostE X.mg E g M ρ env σ H Q ((fo env).bind (tG fa env)):=p;refine s0.iT rep p λra v M1 H1 e1 rep1 i1 q1=>?_;unfold tG at q1;cases hq:ra.d with
 |str sep=>
  rw[hq]at q1 i1;dsimp only at q1;cases(show v=.str sep from i1);refine⟨rfl,s1.iT rep1 q1 λrb y M2 H2 e2 rep2 i2 q2=>?_⟩;unfold qz at q2;cases hr:rb.d with
  |lst ds=>
   rw[hr]at q2 i2;dsimp only at q2;obtain⟨b,ws,rfl,h,k⟩:=i2;cases hx:lG ds with
   |none=>rw[hx]at q2;exact q2.elim
   |some xs=>
    rw[hx]at q2;dsimp only at q2;by_cases hc:rq sep xs<=1000000
    .rw[dL hc]at q2;cases tF k hx;exact⟨sep,b,xs,rfl,rfl,h.imp (λz=>z.1) (λ⟨o,z,_⟩=>⟨o,z⟩),hc,q2 _ M2 H2 (Ext.refl _ _) rep2 rfl⟩
    .rw[f7 hc]at q2;exact q2.elim
  |_=>rw[hr]at q2;exact q2.elim
 |_=>rw[hq]at q1;exact q1.elim
def Kp:V->List V->Hp->VK->Prop:=λx vs H Q=>∃a b,x=.str a/\vs=[.str b]/\0<b.length/\a.length<=100000/\(Txt.split a b).length<=100000/\(Builtin.Str.partsBetween a (Builtin.Str.occurrences a b 0 a.length (a.length+1)) b.length).length<=100000/\∀p,H p=none->Q (.ref p) (bQ H p (.lst ((Txt.split a b).map V.str)))
theorem oN:∀(l:List (Str×Tok)),Vals ((l.map (·.1)).map V.str) (strValues l)
 |[]=>.nil
 |(x,t)::l=>.cons ⟨t,rfl⟩ (oN l)
def Dn:PJ X "str.split" Kp:=by
 intro ag s σ H x vs v us Q I rx rv h;obtain⟨a,b,rfl,rfl,hb,ha,hn,hp,q⟩:=h;obtain⟨t,rfl⟩:=rx;obtain⟨u,rfl,ru⟩:=rv.one;obtain⟨t',rfl⟩:=ru;have hz:100000<=sizeLine:=by decide
 have hy:(b.length==0)=false:=by grind
 have fin:∀(l:List (Str×Tok))(k:Nat),l.map (·.1)=Txt.split a b->EP X ag σ Q (.ref s.heap.objs.size) { s with heap:=s.heap.push { cls:=.type "list",data:=.seq (strValues l).toArray },toks:=k }:=λl k e=>by have hv:=oN l;rw[e]at hv;exact⟨.ref _,_,I.Mn hv (by grind),rfl,q _ I.fresh⟩
 cases h1:(decide (a.length<b.length) || decide (Builtin.Str.strKind a<Builtin.Str.strKind b))
 .cases hf:(Builtin.Str.occurrences a b 0 a.length (a.length+1)).isEmpty
  .refine S3 F.slot_str_split (Th _ _ _) F.entry_str_split (F.args_str_split_2 _ _) (meets_str_split_sep a b t t' h1 hy hf (by lia) (by lia)) ?_;show EP X ag σ Q _ { s with toks:=_,heap:=s.heap.push { cls:=.type "list",data:=.seq (strsFrom s.toks (Builtin.Str.partsBetween a (Builtin.Str.occurrences a b 0 a.length (a.length+1)) b.length)).toArray } };rw[strsFrom_eq];exact fin (numbered s.toks _) _ ((numbered_texts _ _).trans ((f7 (Ta h1)).trans (f7 (Ta hf))).symm)
  .exact S3 F.slot_str_split (Th _ _ _) F.entry_str_split (F.args_str_split_2 _ _) (meets_str_split_not_found a b t t' h1 hy hf)
    (fin [(a,t)] _ ((f7 (Ta h1)).trans (dL hf)).symm)
 .exact S3 F.slot_str_split (Th _ _ _) F.entry_str_split (F.args_str_split_2 _ _) (meets_str_split_cannot_occur a b t t' h1)
   (fin [(a,t)] _ (dL h1).symm)
def jM(a b:Str):Prop:=0<b.length/\a.length<=100000/\(Txt.split a b).length<=100000/\(Builtin.Str.partsBetween a (Builtin.Str.occurrences a b 0 a.length (a.length+1)) b.length).length<=100000
instance (a b:Str):Decidable (jM a b):=by unfold jM;infer_instance
def cP(a:Str)(r:R):Res R:=match r.d with
 |.str b=>if jM a b then .ok (.new ((Txt.split a b).map .str) true)else .stuck
 |_=>.stuck
def oO(fa:En->Res R)(env:En)(ra:R):Res R:=match ra.d with
 |.str a=>(fa env).bind (cP a)
 |_=>.stuck
def n8(fo fa:En->Res R):En->Res R:=λenv=>(fo env).bind (oO fa env)
theorem tH:∀xs:List Str,IsAll H m (xs.map .str) (xs.map V.str)
 |[]=>rfl
 |x::xs=>⟨_,_,rfl,rfl,tH xs⟩
theorem tI:∀xs:List Str,D.aL (xs.map .str)=true
 |[]=>rfl
 |x::xs=>by rw[c7];unfold D.aL;rw[tI xs];rfl
def ms(ho:PD X E o fo)(ha:PD X E a fa)(hbase:autoParam (attributeBase o "split" X.env (eval o X.env)=eval o X.env) TV)
 (hfew:autoParam (((backTo cpos (starEach [a] X.env)).all (λx=>!x.1)&&(backToKw cpos (keywordEach [] X.env)).all (λx=>x.1.isSome)&&decide (([a]:List Expr).length+([]:List Keyword).length+(if([]:List Keyword).isEmpty then 0 else 1)<30))=true) TV)
 (hline:autoParam ((apos.endLine==cpos.line)=true) TV) (hs:autoParam (starEach [a] X.env=(false,eval a X.env)::starEach [] X.env) TV) (hplain:autoParam (bT X cpos []) TV) :
 PD X E (.Call (.Attribute o "split" apos) [a] [] cpos) (n8 fo fa):=by
 obtain⟨to,p0,s0⟩:=ho;obtain⟨t,p1,s1⟩:=ha;refine⟨_,xj PySem.F.plainAttrs_str PySem.F.slot_str_split PySem.F.type_str_split Dn p0 (gR p1 jl hs) hbase hfew hline hs hplain,λg M ρ env σ H Q rep p=>?_⟩;have p:PostE X.mg E g M ρ env σ H Q ((fo env).bind (oO fa env)):=p;refine s0.iT rep p λra v M1 H1 e1 rep1 i1 q1=>?_;unfold oO at q1;cases hq:ra.d with
 |str a=>
  rw[hq]at q1 i1;dsimp only at q1;cases(show v=.str a from i1);refine⟨rfl,s1.iT rep1 q1 λrb y M2 H2 e2 rep2 i2 q2=>?_⟩;unfold cP at q2;cases hr:rb.d with
  |str b=>
   rw[hr]at q2 i2;dsimp only at q2;cases(show y=.str b from i2);by_cases hc:jM a b
   .rw[dL hc]at q2;obtain⟨c1,c2,c3,c4⟩:=hc;refine⟨a,b,rfl,rfl,c1,c2,c3,c4,λp hp=>?_⟩;have hf:D.aL ((Txt.split a b).map .str)=true:=tI _;have q3:PostE X.mg E g M2 ρ env σ H2 Q (.ok (pU ((Txt.split a b).map .str) true [])):=by unfold pU;rw[dL hf];exact q2
    exact q3.lst rep2 hp (tH _)
   .rw[f7 hc]at q2;exact q2.elim
  |_=>rw[hr]at q2;exact q2.elim
 |_=>rw[hq]at q1;exact q1.elim
noncomputable def QJ(x:Str):It:=⟨λi _=>i<x.cps.size,λi H v H'=>H'=H/\∃c,x.cps[i]?=some c/\v=.str ⟨#[c]⟩,λi _=>x.cps.size<=i⟩
theorem vq{K:Tw}{tg:Expr}(it:Addr)(x:Str)(ty:String)(t:Tok)(hty:["enumerate","zip","dict_itemiterator","dict_reverseitemiterator","odict_iterator","itertools.zip_longest","itertools.pairwise"].contains ty=false)
 (W:∀A':TC,A'.handled=none->Walks P w A' it [it] [it] x.cps.size (SignAt x) (λi h=>h.IsStrIter it ty x t i))
 (hself:∀(A:TC)(i:Nat)(s:Tv)(Q:TB->Tv->Prop)(E:TB->Tv->Prop),s.heap.IsStrIter it ty x t i->Q (.ref it) s->wpAny (model P w) A (pyIter (.ref it)) Q E s):Turn P w K tg (QJ x) [it] it (λi h=>i<=x.cps.size/\h.IsStrIter it ty x t i) where
 mem:=by simp
 obj:=λi h st b hb=>by
  have e:b=it:=by grind
  subst e;obtain⟨_,o,ho,hc,hd⟩:=st;exact⟨o,ho,λv z=>by grind⟩
 keep:=λi h h' st k=>⟨st.1,let ⟨o,ho,r⟩:=st.2;⟨o,k it (by simp) o ho,r⟩⟩
 item:=by intro X hP hw hK hc i ag s σ H E I hf st hg;subst hP hw hK;obtain⟨f0,f1,f2,f3,f4,f5⟩:=hf it (by simp);refine(W X.A (I.ok.hd hc)).item i s _ _ hg st.2 λv h' tk hv st' kk=>?_;obtain⟨c,u,hcu,rfl⟩:=hv;have I1:L2.Inv X ag σ H {s with heap:=h',toks:=tk}:=I.turned (λb o hb e=>kk b o (by grind) e) f0 f1 f3 f4 f5;obtain⟨o,ho,hoc,hod⟩:=st';exact⟨_,rfl,zR (s:={s with heap:=h',toks:=tk}) (n:=ty) ho hoc hod hty ⟨.str ⟨#[c]⟩,H,I1,⟨u,rfl⟩,⟨rfl,c,hcu,rfl⟩,⟨hg,o,ho,hoc,hod⟩,λb hb=>(hf b hb).1⟩⟩
 done:=by intro X hP hw hK hc i ag s σ H E I hf st hg;subst hP hw hK;obtain⟨f0,f1,f2,f3,f4,f5⟩:=hf it (by simp);have e:i=x.cps.size:=Nat.le_antisymm st.1 hg;have st2:=st.2;rw[e]at st2;exact(W X.A (I.ok.hd hc)).done s _ _ st2 λh' tk kk=>⟨rfl,I.turned (λb o hb e=>kk b o (by grind) e) f0 f1 f3 f4 f5⟩
 self:=λA i s Q E st h=>hself A i s Q E st.2 h
def NI(tl:TE):TI:=λσ H R=>tl σ H λx H1=>∃z,x=.str z/\R (QJ z) H1
def GE{tl:TE}(hl:PE X l tl):PI X tg l (NI tl):=by
 intro ag s σ H R I h;refine eS (hl ag s σ H _ I h) λv s1 ⟨x,H1,I1,r1,z,ex,q⟩=>?_;subst ex;obtain⟨t,rfl⟩:=r1;have fp:∀b∈[s1.heap.objs.size],h8 X ag H1 b:=λb hb=>by
  have e:b=s1.heap.objs.size:=by grind
  subst e;exact I1.wQ (dJ _) (I1.bP.fresh (dJ _))
 cases ha:z.cps.all (·< 128)
 .refine wpAny_pyIter_wide ha ?_;exact⟨s1.heap.objs.size,[s1.heap.objs.size],_,_,H1,rfl,I1.kept (t':=s1.toks) λb o e=>c6 _ e,vq s1.heap.objs.size z "str_iterator" t (by decide) (λA' hA=>Walks.strWide hA _ z t) (λ_ _ _ _ _ st h=>wpAny_pyIter_striter_wide st h),⟨lU _,_,gM _ rfl,rfl,rfl⟩,fp,q⟩
 .refine wpAny_pyIter_ascii ha ?_;exact⟨s1.heap.objs.size,[s1.heap.objs.size],_,_,H1,rfl,I1.kept (t':=s1.toks) λb o e=>c6 _ e,vq s1.heap.objs.size z "str_ascii_iterator" t (by decide) (λA' hA=>Walks.strAscii hA _ z t) (λ_ _ _ _ _ st h=>wpAny_pyIter_striter_ascii st h),⟨lU _,_,gM _ rfl,rfl,rfl⟩,fp,q⟩
noncomputable def jS(z:Str):List D:=z.cps.toList.map λc=>.str ⟨#[c]⟩
def An(r:R):Res Src:=match r.d with
 |.str z=>.ok ⟨jS z,true,[]⟩
 |_=>.stuck
def Ao(f:En->Res R):En->Res Src:=λenv=>(f env).bind An
def BA(z:Str):Walk (QJ z) m H (jS z):=by
 refine⟨λH' i d k e=>?_,λH' k=>by show z.cps.size<=(jS z).length;unfold jS;simp⟩;unfold jS at e;rw[kE]at e;obtain⟨c,hc,rfl⟩:=mV.mp e;have hi:=(c5.mp hc).1;refine⟨by show i<z.cps.size;simpa using hi,λx H'' y=>?_⟩;obtain⟨rfl,c',hc',rfl⟩:=y;have:c'=c:=by rw[SR]at hc;rw[hc]at hc';exact(jD hc').symm
 rw[this];exact⟨Same.refl _,rfl⟩
def xV(hl:PD X E l f):CW X E tg l (Ao f):=by
 obtain⟨t,p1,s1⟩:=hl;refine⟨_,GE p1,λg M ρ env σ H Rq rep p=>s1.one rep (P:=λM H r=>PostI X.mg E g M ρ env σ H Rq r) p (λ_ _ z=>z) (λ_ _ _ z=>z) (λ_ _ _ _ _ e p=>p.ext e) λr v M1 H1 e1 rep1 i1 q=>?_⟩;unfold An at q;cases z:r.d with
 |str x=>rw[z]at i1 q;cases(show v=.str x from i1);exact⟨x,rfl,q _ M1 H1 (Ext.refl _ _) rep1 (BA x)⟩
 |_=>rw[z]at q;exact q.elim
def tJ:List R->Res R
 |[r]=>match r.d with
  |.str x=>(match PySem.intText? x with
   |some n=>if x.length<=100 then .ok (.val (.int n) true [])else .stuck
   |none=>.stuck)
  |_=>.stuck
 |_=>.stuck
def BB:CallR X (.type "int") (λxs H Q=>∃x n,xs=[.str x]/\PySem.intText? x=some n/\x.length<=100/\Q (.int n) H):=by intro ag s σ H xs us Q I r h;obtain⟨x,n,rfl,hn,hl,q⟩:=h;obtain⟨u,rfl,t,rfl⟩:=j8 r;exact PySem.W.KIN.call_text hn (by lia) ⟨.int n,H,I.tok _,⟨_,rfl⟩,q⟩
def GF:mj X E (.type "int") tJ:=by
 refine⟨_,BB,λg M ρ env σ H Q rs vs rep i p=>?_⟩;rcases rs with _|⟨r,_|_⟩
 .exact p.elim
 rotate_left
 .exact p.elim
 obtain⟨v,w,rfl,i1,i2⟩:=i;cases i2;have i1:Is H (vmsk g M (bF [r]) ρ (cT [r])) r.d v:=i1;unfold tJ at p;dsimp only at p;cases z:r.d with
 |str x=>
  rw[z]at p i1;dsimp only at p;cases(show v=.str x from i1);cases hn:PySem.intText? x with
  |none=>rw[hn]at p;exact p.elim
  |some n=>
   rw[hn]at p;dsimp only at p;by_cases hc:x.length<=100
   .rw[dL hc]at p;exact⟨x,n,rfl,hn,hc,p _ M H (Ext.refl _ _) rep rfl⟩
   .rw[f7 hc]at p;exact p.elim
 |_=>rw[z]at p;exact p.elim
end
mutual
noncomputable def KtIs(K:Tw):D->V->Prop
 |.str x,v=>v=.str x
 |.tup ds,v=>∃a vs,v=.ref a/\(∃p∈K,xc p.2=some (a,vs))/\KtAll K ds vs
 |_,_=>False
noncomputable def KtAll(K:Tw):List D->List V->Prop
 |[],vs=>vs=[]
 |d::ds,vs=>∃v r,vs=v::r/\KtIs K d v/\KtAll K ds r
end
section
variable{K:Tw}{H:Hp}{m:Addr->Prop}
mutual
theorem KtIs.is(kt:Mr K H):∀{d:D}{v:V},KtIs K d v->Is H m d v
 |.str _,_,h=>h
 |.tup ds,_,h=>by obtain⟨a,vs,e,⟨p,hp,hk⟩,r⟩:=h;exact⟨a,vs,e,kt p hp a vs hk,KtAll.is kt r⟩
 |.gP,_,h=>h.elim
 |.bl _,_,h=>h.elim
 |.int _,_,h=>h.elim
 |.lst _,_,h=>h.elim
 |.j7 _ _,_,h=>h.elim
theorem KtAll.is(kt:Mr K H):∀{ds:List D}{vs:List V},KtAll K ds vs->IsAll H m ds vs
 |[],_,h=>h
 |d::ds,_,h=>by obtain⟨v,r,e,h1,h2⟩:=h;exact⟨v,r,e,KtIs.is kt h1,KtAll.is kt h2⟩
end
end
section
variable{X:Cx}{E:XK}
def Ib(hg:Gl X x)(h:∃a,X.mg x=some (.ref a)/\KtIs X.K d (.ref a))(hd:autoParam (dB x) TQ):PD X E (.Name x np) (vC d):=by obtain⟨a,hm,hk⟩:=h;refine⟨λσ H Q=>Mr X.K H->Q (.ref a) H,λag s σ H Q I h=>vH (v:=.ref a) hg hm rfl hd ag s σ H Q I (h I.kt),λg M ρ env σ H Q rep p kt=>?_⟩;exact p _ M H (Ext.refl M H) rep (hk.is kt)
def Do(kvs:List (Str×Int))(r:R):Res R:=match r.d with
 |.str k=>.ok (.val (.bl (jp kvs k).isSome) true [])
 |_=>.stuck
def zg(kvs:List (Str×Int))(f:En->Res R):En->Res R:=λenv=>(f env).bind (Do kvs)
theorem Ap:∀{es:List DictEntry}{kvs:List (Str×Int)},ze w es kvs->(valueAt (ny es kvs) (.inr k:gQ)).isSome=(jp kvs k).isSome
 |[],[],_=>rfl
 |e::es,p::ps,h=>by
  unfold jp ny valueAt;by_cases c:p.1=k
  .rw[jk,jk,dM c,dM (by rw[c])];rfl
  .rw[jk,jk,fZ c,fZ (λz=>c (S9 z))];exact Ap h.2
 |[],_::_,h=>h.elim
 |_::_,[],h=>h.elim
def Dp(tb:xT X.w X.K a kvs)(hs:(a==sysModules)=false):OpR X (compareOp .In) (λx y H Q=>∃k,x=.str k/\y=.ref a/\Q (.bl (jp kvs k).isSome) H):=by
 intro ag s σ H x y v u Q I rx ry h;obtain⟨k,rfl,rfl,q⟩:=h;cases ry;obtain⟨es,ep,lk,te,nd⟩:=tb;have dd:s.heap.DictOf (bS X.prog X.w) a (ny es.toList kvs):=⟨_,es,ep,I.sx _ _ lk,⟨rfl,rfl,rfl⟩,rfl,λe he=>tE te e (by simpa using he),qu te,by
  rw[v6 te];have:((kvs.map (·.1)).map λn=>(.inr n:gQ)).Nodup:=by rw[List.Nodup,Tn];exact nd.imp λ{a b} h e=>h (S9 e)
  rw[iA]at this;exact this⟩
 refine wpAny_in_of (oB (k:=.inr k) rx) hs dd.mapOf ?_;rw[Ap te];exact⟨.bl _,H,I.tok _,rfl,q⟩
def Dq(hg:Gl X x)(tb:∃a,X.mg x=some (.ref a)/\xT X.w X.K a kvs)(ns:∀a,X.mg x=some (.ref a)->(a==sysModules)=false)(hi:PD X E i f)(hd:autoParam (dB x) TQ)(hb:autoParam (behindInMarks .In (.Name x np)=false) TV) :
 PD X E (.Compare i [.In] [.Name x np] pos) (zg kvs f):=by
 obtain⟨a,hm,ta⟩:=tb;obtain⟨t,p1,s1⟩:=hi;refine⟨_,zS (Dp ta (ns a hm)) p1 (vH (v:=.ref a) hg hm rfl hd) hb,λg M ρ env σ H Q rep p=>s1.iT rep p λr v M1 H1 e1 rep1 i1 q1=>?_⟩;unfold Do at q1;cases hq:r.d with
 |str k=>rw[hq]at q1 i1;exact⟨k,i1,rfl,q1 _ M1 H1 (Ext.refl _ _) rep1 rfl⟩
 |_=>rw[hq]at q1;exact q1.elim
noncomputable def NJ(scope:Scope)(tN:List Str):Bool:=(scope.kind==.function)&&scope.names.all (λy=>y.2 != .cell&&y.2 != .free)&&scope.names.all (λy=>y.2 != .local || scope.names.lookup y.1==some .local)&&tN.all (λx=>scope.names.lookup x==some .local)&&decide tN.Nodup
def bW.nil(h:NJ scope tN=true):bW X scope tN [] []:=by unfold NJ at h;simp only[cH,c8,lV,Sa,bne_iff_ne,cI,ne_eq]at h;obtain⟨⟨⟨⟨a1,a2⟩,a3⟩,a4⟩,a5⟩:=h;exact⟨a1,λy hy=>(a2 y hy).1,λy hy hl=>(a3 y hy).resolve_left λz=>z hl,a4,λy hy hf=>((a2 y hy).2 hf).elim,⟨λk y e=>by simp at e,λy hy=>by simp at hy,λy hy=>by simp at hy,rfl⟩,by simpa using a5⟩
def sd(r:R):Res R:=match r.d with
 |.lst ds=>(match lG ds with
  |some xs=>if xs.length<=1000 then .ok (.val (.int ((nV xs).length:Nat)) true [])else .stuck
  |none=>.stuck)
 |_=>.stuck
def v9(f:En->Res R):En->Res R:=λenv=>(f env).bind sd
def BC(hc:X.calm=true)(h:PD X E e f)
 (hg1:Gl X x1) (hm1:X.mg x1=none) (hv1:bootBuiltins x1=some (.builtin "len")) (hg2:Gl X x2) (hm2:X.mg x2=none) (hv2:bootBuiltins x2=some (.type "set"))
 (hn1:autoParam (x1≠"__name__") TQ) (hdb1:autoParam (dB x1) TQ) (hn2:autoParam (x2≠"__name__") TQ) (hdb2:autoParam (dB x2) TQ)
 (he2:autoParam (starEach [e] X.env=(false,eval e X.env)::starEach [] X.env) TV) (hpl2:autoParam (bT X pos2 []) TV)
 (he1:autoParam (starEach [.Call (.Name x2 p2) [e] [] pos2] X.env=(false,eval (.Call (.Name x2 p2) [e] [] pos2) X.env)::starEach [] X.env) TV) (hpl1:autoParam (bT X pos1 []) TV) :
 PD X E (.Call (.Name x1 p1) [.Call (.Name x2 p2) [e] [] pos2] [] pos1) (v9 f):=by
 obtain⟨t,p1,s1⟩:=h;refine⟨_,sG yZ hg1 hm1 hv1 (gR (u9 (yY hc) hg2 hm2 hv2 (gR p1 jl he2) hn2 hdb2 he2 hpl2) jl he1) hn1 hdb1 he1 hpl1,λg M ρ env σ H Q rep p=>?_⟩;refine s1.iT rep p λr v M1 H1 e1 rep1 i1 q1=>?_;unfold sd at q1;cases qd:r.d with
 |lst ds=>
  rw[qd]at q1 i1;dsimp only at q1;cases qt:lG ds with
  |none=>rw[qt]at q1;exact q1.elim
  |some xs=>
   rw[qt]at q1;dsimp only at q1;by_cases hz:xs.length<=1000
   .rw[dL hz]at q1;obtain⟨a,vs,rfl,h1,h2⟩:=i1;cases tF h2 qt;refine⟨a,xs,rfl,h1.imp (·.1) (λ⟨o,z,_⟩=>⟨o,z⟩),hz,λb hb=>⟨b,xs,rfl,aP,hz,?_⟩⟩;have sm:Same H1 (bQ H1 b (.ext λh=>CA X.prog X.w h b xs)):=bJ hb;exact q1 _ M1 _ ⟨λ_ z=>z,sm,λ_ z=>.inl z⟩ (rep1.grow sm) rfl
   .rw[f7 hz]at q1;exact q1.elim
 |_=>rw[qd]at q1;exact q1.elim
noncomputable def Ds(env:En)(_:R):Res Fl:=.ok (.nx env)
def Dt(f:En->Res R):En->Res Fl:=λenv=>(f env).bind (Ds env)
def Du(h:PD X E e f)(hs:autoParam (swapsWith e none pos.line X.env=pure false) TV):vT X E (.Expr e pos) (Dt f):=by obtain⟨t,p1,s1⟩:=h;refine⟨_,vI p1 hs,λg M ρ env σ H D rep p=>s1.qZ rep p λr v M' H' e rep' ro p'=>?_⟩;exact p' σ M' ρ H' (Ext.refl _ _).dr rep'
end
noncomputable abbrev IP:=Int×Int
noncomputable def dp(l:List IP)(x:IP):List IP:=if x∈l then l else l++[x]
def h1(ts:List QF):List IP:=(ts.map λt=>(t.1,t.2.1)).foldl dp []
end L3
namespace L3
open PySem PySem.Spec PyProof.Rows L2
def bK{K KK:Tw}{mg:Str->Option TB}{x:Str}{st:Stmt}{ps:List Str}{f:Addr}{oc:TB}{od an:Option Addr}{osl:Array (Option TB)}{kV doc pm cdv ct:TB}(U:ot K KK)
 (l:K.lookup f=some ⟨oc,od,.func (fnOf x x (aV st) (aT st) (ar st) .none kV doc pm an cdv ct),osl⟩) (c:codeIn K cdv x=true) (g:mg x=some (.ref f))
 (h:∀(kV doc pm:TB)(an:Option Addr)(cdv ct:TB)(us:List TB),us.length=ps.length->bindArgs (fnOf x x (aV st) (aT st) (ar st) .none kV doc pm an cdv ct) ⟨us,[]⟩=pure (ps.zip us)) :
 Fn KK mg x st ps f (fnOf x x (aV st) (aT st) (ar st) .none kV doc pm an cdv ct):=
 have F:MC KK x x st f _:=JR (U.look _ _ l (λ_ _ z=>nomatch z)) (U.code c) (U.keep l)
 ⟨F,F.binds h,g⟩
section
def aw{st:Stmt}(G:cw X.prog X.w X.K X.mg X.base CX k f fd ps (lE X.mg ps.length F))(hr:j3 k X.A)(hg:Gl X x)(h:Fn X.K X.mg x st ps f fd)(hx:nU CX X E)
 (ha:y3 X E (e::es) fs) (hl:∀env rs,fs env=.ok rs->rs.length=ps.length) (hdb:autoParam (dB x) TQ) (he:autoParam (sE X e es) TV) (hpl:autoParam (bT X pos es) TV) :
 PD X E (.Call (.Name x p) (e::es) [] pos) (aQ F fs):=Gh G hr hg h.gl h.fu.kp h.bi hx ha hl hdb he hpl
end
end L3
namespace L2
open PySem PySem.Spec PySem.Calls PyProof.Rows
section
variable{M:Model}{A:TC}{E:TB->Tv->Prop}{s:Tv}{base:Heap}{env:Env}{outer l:List Env}{L e:Addr}{cls a0 fl:TB}{Q:Unit->Tv->Prop}
theorem GG(hfr:A.frames=some (env::outer))(hf:env.frame=some L)(k1:base.StaysIn s.heap)(k2:base.get? e=none)(k3:s.heap.FunFrames base (env::outer))(k4:s.heap.TracedAtW base e cls a0 fl)
 (hQ:∀h',Heap.FlyingW base outer e cls a0 h'->s.heap.UpToSlots h'->Q () {s with heap:=h'}):wpAny M A (leaving env (.ref e)) Q E s:=by
 have fin:∀{h1:Heap},Heap.HeldW base (env::outer) e cls a0 L h1->s.heap.UpToSlots h1->wpAny M A (setFlight (.ref e) none) Q E {s with heap:=h1}:=λ{h1} hd up=>wpAny_landsW (s:={s with heap:=h1}) hd λh' f u=>hQ h' (by obtain⟨w1,w2,⟨_,_,w3⟩,w4⟩:=f;exact⟨w1,w2,w3,w4⟩) (up.trans u);unfold leaving;by_cases hm:fl=rawInt L
 .subst hm;exact aB (wpAny_noteFrame_againW hf k4 (fin ⟨k1,k2,k3,k4⟩ (Heap.UpToSlots.refl _)))
 .obtain⟨oe,vs,T,oT,ts,he,⟨hc,h0⟩,hd,h1,hn,hne,hT,hdT,h3⟩:=k4;subst hc;unfold noteFrame;simp only[hf];refine aB (aB (lR he hd h1 ?_));rw[dL (by simp)];refine aB (lR hT hdT h3 ?_);rw[f7 (λz=>hm (eq_of_beq z))];refine aB (Tf hT hdT (Sm.mp h3).1 ?_);have far:∀(g:Obj->Obj) b,b≠T->(s.heap.update T g).get? b=s.heap.get? b:=λg b hb=>Sb _ _ (lX hb);have ap:∀b o,s.heap.get? b=some o->(∀ws,o.data≠.fields ws)->b≠T:=λb o hb hx z=>by subst z;cases hT.symm.trans hb;exact hx _ hdT
  refine wpAny_entryW hfr (k3.of_keeps λb o hb hx=>⟨o,(far _ b (ap b o hb hx)).trans hb,rfl⟩) hf ((far _ e (lX hne)).trans he) (λb o hb=>(far _ b λz=>by rw[z,hn]at hb;cases hb).trans (k1 b o hb)) k2 hd (Sm.mp h1).1 h0 λh' ⟨x1,x2,x3,x4⟩=>?_;exact fin ⟨x1,k2,x2,x3⟩ λb o hb hx=>x4 b o ((far _ b (ap b o hb hx)).trans hb) hx
theorem Kq{fr:Option Addr}(k1:base.StaysIn s.heap)(k3:s.heap.FunFrames base l)(k4:s.heap.TracedAtW base e cls a0 fl)
 (hQ:∀h' fl',base.StaysIn h'->h'.FunFrames base l->h'.TracedAtW base e cls a0 fl'->s.heap.UpToSlots h'->Q () {s with heap:=h'}):wpAny M A (setFlight (.ref e) fr) Q E s:=by
 obtain⟨oe,vs,T,oT,ts,he,hc,hd,h1,hn,hne,hT,hdT,h3⟩:=k4;have sz:3<ts.size:=(Sm.mp h3).1;have far:∀(g:Obj->Obj) b,b≠T->(s.heap.update T g).get? b=s.heap.get? b:=λg b hb=>Sb _ _ (lX hb);have ap:∀b o,s.heap.get? b=some o->(∀ws,o.data≠.fields ws)->b≠T:=λb o hb hx z=>by subst z;cases hT.symm.trans hb;exact hx _ hdT
 unfold setFlight;refine aB (lR he hd h1 ?_);rw[dL (by simp)];refine Tf hT hdT sz (hQ _ (fr.elim .none λf=>rawInt f) (λb o hb=>(far _ b λz=>by rw[z,hn]at hb;cases hb).trans (k1 b o hb)) (k3.of_keeps λb o hb hx=>⟨o,(far _ b (ap b o hb hx)).trans hb,rfl⟩) ?_ λb o hb hx=>⟨o.slots,(far _ b (ap b o hb hx)).trans hb⟩);exact⟨oe,vs,T,_,_,(far _ e (lX hne)).trans he,hc,hd,h1,hn,hne,SQ _ hT (Obj.isFreed_of_fields (SE hdT _)),SE hdT _,by simp[sz]⟩
end
def Mv(P:Tz)(w:World)(Z:Addr)(outer:List Env)(H:Hp)(s:Tv)(E:XK)(e:TB)(s':Tv):Prop:=
 ∃(x C t:Addr)(B:Heap)(H':Hp)(fl:TB),e=.ref x/\s'.os=s.os/\AllBare s'.gens/\Un (jJ outer) [Z] H H' s.heap s'.heap/\HOk P w H' s'.heap/\
  (B.StaysIn s'.heap/\B.get? x=none/\s'.heap.FunFrames B outer/\s'.heap.TracedAtW B x (.ref C) (.ref t) fl)/\(∀b u,H' b=some u->∃o,B.get? b=some o)/\(∀b o,s.heap.get? b=some o->Qt H b->b∉jJ outer->b≠Z->B.get? b=some o)/\
  (∀b o,s.heap.get? b=some o->b∉jJ outer->b≠Z->∃o',B.get? b=some o')/\H' x=none/\E (.ref C) none H'
section
variable{P:Tz}{w:World}{K:Tw}{mg:Str->Option TB}{base:Heap}{N:List Str}{qual:Str}{scope:Scope}{f:Addr}{cd:TB}{A:TC}{outer:List Env}{s₀:Tv}{H₀:Hp}{E:XK}
def GH{Z:Addr}{ag:List (Addr×Obj)}{σ:St}{H:Hp}{s:Tv}{e:TB}{s':Tv}(I:Inv (lZ P w K mg base N qual scope f cd A outer s₀ H₀ E) ag σ H s)(hz:s₀.heap.objs.size<=Z)
 (h:Mv P w Z (lZ P w K mg base N qual scope f cd A outer s₀ H₀ E).stack H s E e s'):(lZ P w K mg base N qual scope f cd A outer s₀ H₀ E).xe e s':=by
 obtain⟨x,C,t,B,H',fl,rfl,os,bare,un,bP,⟨f1,f2,f3,f4⟩,sA,unt,inB,hx,hE⟩:=h;show wpAny _ _ (leaving _ _) _ _ s';have nx:∀b:Addr,b∉(lZ P w K mg base N qual scope f cd A outer s₀ H₀ E).ex:=λb z=>absurd (show b∈([]:List Addr)from z) (by simp);have nz:∀{b o},s₀.heap.get? b=some o->b≠Z:=λe z=>by subst z;exact absurd (iB (f6 e) hz) (yI _)
 refine GG I.ok.frames rfl f1 f2 f3 f4 λh' fly' up=>?_;have nf:∀b,b∈jJ outer->∀o,s'.heap.get? b=some o->∀vs,o.data≠.fields vs:=λb hb o e=>by obtain⟨_,o',e',d⟩:=f3.mem (sM (P:=P) (w:=w) (K:=K) (mg:=mg) (base:=base) (N:=N) (H₀:=H₀) (E:=E) (A:=A) hb);rw[e]at e';cases e';exact d
 refine⟨x,C,t,B,H',rfl,os.trans I.os,bare,⟨λb o e n hb _=>?_,λb o e n hb _=>?_,λb o e n _=>?_,λb o e _=>?_,λb xs q=>un.j6 b xs (I.base.j6 b xs q),λb o u q=>un.nt b o u (I.base.nt b o u q),λb ps q=>?_⟩,jf bP sA f1 fly'.1,fly',sA,λb o e n hb=>?_,λb o e hb=>?_,hx,hE⟩
 .exact fly'.1 b o (unt b o (I.base.keep b o e n hb (nx b)) (n.imp (λn=>I.base.free b o e n (nx b)) λ⟨xs,q⟩=>⟨xs,I.base.j6 b xs q⟩) (rO I e hb) (nz e))
 .obtain⟨sl,e1⟩:=I.base.slot b o e n hb (nx b);obtain⟨sl',e2⟩:=un.slot b _ e1 (I.base.free b o e n (nx b)) (sM hb) (by simp[nz e]);obtain⟨sl'',e3⟩:=up b _ e2 (nf b hb _ e2);exact⟨sl'',e3⟩
 .obtain⟨o1,e1⟩:=I.base.there b o e (nx b);exact un.free b o1 e1 (I.base.free b o e n (nx b)) (by simp[nz e])
 .obtain⟨o1,e1⟩:=I.base.there b o e (nx b);by_cases hb:b∈jJ outer
  .obtain⟨o2,e2⟩:=un.there b o1 e1 (by simp[nz e]);obtain⟨sl,e3⟩:=up b _ e2 (nf b hb _ e2);exact⟨_,e3⟩
  .obtain⟨o',q⟩:=inB b o1 e1 (rO I e hb) (nz e);exact⟨o',fly'.1 b o' q⟩
 .obtain⟨m1,e1⟩:=I.base.pM b ps q;obtain⟨m2,e2⟩:=un.pM b _ e1;exact⟨m1++m2,by rw[e2,Array.append_assoc]⟩
 .exact unt b o (I.base.keep b o e n hb (nx b)) (n.imp (λn=>I.base.free b o e n (nx b)) λ⟨xs,q⟩=>⟨xs,I.base.j6 b xs q⟩) (rO I e hb) (nz e)
 .obtain⟨o1,e1⟩:=I.base.there b o e (nx b);exact inB b o1 e1 (rO I e hb) (nz e)
end
theorem nA{base h h':Heap}{C:Addr}(k:∀b,b≠C->h'.get? b=h.get? b):∀{l:List Env},h.FunFrames base l->C∉l.filterMap (·.frame)->h'.FunFrames base l
 |[],_,_=>trivial
 |env::l,⟨hk,⟨L,o,hf,hn,ho,hd⟩,hr⟩,hc=>by have hL:L≠C:=λz=>hc (nM.mpr ⟨env,rM,by rw[hf,z]⟩);exact⟨hk,⟨L,o,hf,hn,(k L hL).trans ho,hd⟩,nA k hr λz=>hc (by obtain⟨e,h1,h2⟩:=nM.mp z;exact nM.mpr ⟨e,gO _ h1,h2⟩)⟩
section
variable{X:Cx}{ag:List (Addr×Obj)}{σ:St}{H1:Hp}{s1 s':Tv}{C:Addr}{E:XK}{e:TB}{scope:Scope}{cl:List (Str×Addr)}{use:Option (TB->Sem Unit)}{Qv:TB->Tv->Prop}{acc:TB}
def Dv(hst:X.stack=X.env::X.outer)(hf:X.env.frame=some X.env.locals)(I:Inv X ag σ H1 s1)(fo:h8 X ag H1 C)(hn:∃m,s1.heap.Ns C m)(h:jI X.prog X.w X.stack H1 s1 E e s')(hP:∀e s'',Mv X.prog X.w C X.stack H1 s1 E e s''->X.xe e s'') :
 notedBy (model X.prog X.w) X.A (compEnvC scope cl C X.env) (λe s'=>compPost (model X.prog X.w) X.A X.xe use Qv acc C (.error e) s') e s':=by
 obtain⟨x,C0,t,B,H',rfl,os,bare,un,bP,fly,sA,unt,inB,hxn,hE⟩:=h;have fr:X.A.frames=some (X.env::X.outer):=hst▸I.ok.frames;have nC:C∉(X.env::X.outer).filterMap (·.frame):=λz=>by
  obtain⟨en,h1,h2⟩:=nM.mp z;rcases cJ.mp h1 with rfl|h1
  .rw[hf]at h2;exact fo.2.1 (jD h2).symm
  .exact fo.2.2.1 (nM.mpr ⟨en,h1,h2⟩)
 obtain⟨m,oC,es,ep,hC,hdC,hr⟩:=hn;have bC:B.get? C=some oC:=unt C oC hC (.inl fo.1) (by rw[hst];exact nC);show wpAny _ _ (noteFrame (.ref x) X.env) _ _ _;refine wpAny_looks_onW fr hf (hst▸fly) λh4 held up4=>?_;obtain⟨k1,k2,k3,k4⟩:=held;have key:(∃m,h4.Ns C m)/\∀h',Heap.SameBut C h4 h'->∀cenv:Env,cenv.locals=C->wX X (PySem.passOn "comprehension.variables-let-go" (.ref x) cenv:Sem TB) (λ_ _=>False) X.xe {s' with heap:=h'}:=by
  refine⟨⟨m,oC,es,ep,k1 C oC bC,hdC,hr⟩,λh' sb cenv _=>?_⟩;have far:∀b,b≠C->h'.get? b=h4.get? b:=sb.2;have hst':(hideAll B [C]).StaysIn B:=λb o q=>Sv _ q;have nb:∀{b o},(hideAll B [C]).get? b=some o->b≠C:=λ{b o} q z=>by rw[z,PySem.W.hideAll_none _ (nP.mpr rfl)]at q;cases q
  obtain⟨oe,vs,T,oT,ts,he,hc,hd,h1,hnT,hne,hT,hdT,h3⟩:=k4;have xC:x≠C:=λz=>by rw[z,bC]at k2;cases k2
  have tC:T≠C:=λz=>by rw[z,bC]at hnT;cases hnT
  have t':h'.TracedAtW (hideAll B [C]) x (.ref C0) (.ref t) (rawInt X.env.locals):=⟨oe,vs,T,oT,ts,(far x xC).trans he,hc,hd,h1,PySem.W.fresh_of_stays hst' hnT,hne,(far T tC).trans hT,hdT,h3⟩;have s'':(hideAll B [C]).StaysIn h':=λb o q=>(far b (nb q)).trans (k1 b o (hst' b o q));have f':h'.FunFrames (hideAll B [C]) (X.env::X.outer):=PySem.W.funFrames_base hst' (nA far k3 nC);unfold PySem.passOn;refine aB (lR ((far x xC).trans he) hd h1 ?_);rw[f7 (show ¬((Value.ref T==Value.none)=true)from by simp)];refine aB (Kq (s:={s' with heap:=h'}) s'' f' t' λh5 fl' a1 a2 a3 a4=>wpAny_throw (hP _ _ ?_));have nf:∀b,b∈jJ X.stack->∀o,h4.get? b=some o->∀vs,o.data≠.fields vs:=λb hb o e=>by obtain⟨_,o',e',d⟩:=k3.mem (hst▸hb);rw[e]at e';cases e';exact d
  have nf':∀b,b∈jJ X.stack->∀o,s'.heap.get? b=some o->∀vs,o.data≠.fields vs:=λb hb o e=>by obtain⟨_,o',e',d⟩:=fly.2.2.1.mem hb;rw[e]at e';cases e';exact d
  have H'C:H' C=none:=un.free C oC hC fo.1 (by simp);have trk':∀b u,H' b=some u->∃o,(hideAll B [C]).get? b=some o:=λb u q=>by obtain⟨o,ho⟩:=sA b u q;exact⟨o,pL _ ho (by simp;rintro rfl;rw[H'C]at q;cases q)⟩
  have nfr:∀b∈jJ X.stack,b≠C:=λb hb z=>nC (by rw[<- z,<- hst];exact hb);have sl:∀b o,s'.heap.get? b=some o->b∈jJ X.stack->∃sl,h5.get? b=some {o with slots:=sl}:=λb o q hb=>by obtain⟨l4,q4⟩:=up4 b o q (nf' b hb o q);obtain⟨l5,q5⟩:=a4 b _ ((far b (nfr b hb)).trans q4) (nf b hb _ q4);exact⟨l5,q5⟩
  refine⟨x,C0,t,hideAll B [C],H',fl',rfl,os,bare,⟨λb o q n hb hx=>?_,λb o q n hb hx=>?_,λb o q n _=>un.free b o q n (by simp),λb o q hx=>?_,un.j6,un.nt,un.pM⟩,jf (jf bP sA fly.1 k1) trk' (λb o q=>k1 b o (hst' b o q)) a1,⟨a1,PySem.W.fresh_of_stays hst' k2,hst▸a2,a3⟩,trk',λb o q n hb hx=>pL _ (unt b o q n hb) (by simp[hx]),λb o q hb hx=>?_,hxn,hE⟩
  .exact a1 b o (pL _ (unt b o q n hb) hx)
  .obtain⟨l1,q1⟩:=un.slot b o q n hb (by simp);obtain⟨l2,q2⟩:=sl b _ q1 hb;exact⟨l2,q2⟩
  .by_cases hb:b∈jJ X.stack
   .obtain⟨o1,q1⟩:=un.there b o q (by simp);obtain⟨l2,q2⟩:=sl b _ q1 hb;exact⟨_,q2⟩
   .obtain⟨o',q1⟩:=inB b o q hb;exact⟨o',a1 b o' (pL _ q1 hx)⟩
  .obtain⟨o',q1⟩:=inB b o q hb;exact⟨o',pL _ q1 (by simp[hx])⟩
 obtain⟨⟨m',hm'⟩,key⟩:=key;cases use<;>exact⟨m',hm',key⟩
end
end L2
namespace L3
open PySem PySem.Spec PyProof.Rows L2
abbrev gf(X:Cx)(E:XK)(scope:Scope)(N:List Str)(cl:List (Str×Addr))(C:Addr)(s:Tv)(H:Hp)(ex:List Addr):Cx:=(d6 X scope N cl C s H ex).uq λe s'=>∃ag σ H1 s1,L2.Inv (d6 X scope N cl C s H ex) ag σ H1 s1/\jI X.prog X.w X.stack H1 s1 E e s'
section
variable{X:Cx}{H3:Hp}{s3:Tv}{scope:Scope}{tg:Expr}{tN:List Str}{capN:List Str}{cl:List (Str×Addr)}{C:Addr}{fp:List Addr}{elt iter:Expr}{pos:Pos}{ifs:List Expr}
def zh{E:XK}{J:It}{it Dl:Addr}{tn:Nat->Heap->Prop}{X':Cx}(hX:X'=gf X E scope (tN++capN) cl C s3 H3 fp)(T:Turn X.prog X.w X.K tg J fp it tn)(hcalm:X.calm=true)
 {σc:St} {s4:Tv} (I4:L2.Inv X' [] (List.replicate tN.length none++σc) H3 s4) (cj:X'.N.length=tN.length+σc.length) (st4:tn 0 s4.heap) (hf:∀b∈fp,h8 X' [] H3 b)
 {tt:TT} {te:TE} {gt:TG} (hg:PG X' tg gt) (ht:J6 X' ifs tt) (he:PE X' elt te)
 (W:Nat->Nat->List V->Hp->Prop) (Fin:List V->Hp->Prop) (w0:∃m,W 0 m [] H3)
 (turn:∀i m acc H,W i m acc H->H Dl=some (.lst acc)/\((J.stop i H/\Fin acc H)\/(J.go i H/\∀xv H' o,J.Jc i H xv H'->o.length=tN.length->gt xv (o++σc) H' λσ2 H1=>(∀j:Nat,tN.length<=j->σ2[j]?=(o++σc)[j]?)/\tt σ2 H1 λb H2=>if b=true then
   te σ2 H2 λy H5=>H5 Dl=some (.lst acc)/\acc.length<sizeLine/\∃m',m'<m/\W (i+1) m' (acc++[y]) (bQ H5 Dl (.lst (acc++[y])))else ∃m',m'<m/\W (i+1) m' acc H2)))
 (R:Result->Tv->Prop) (hER:∀e s',X'.xe e s'->notedBy (model X.prog X.w) X.A (compEnvC scope cl C X.env) (λe s'=>R (.error e) s') e s') (hR:∀σ' H' acc s',L2.Inv X' [] σ' H' s'->H' Dl=some (.lst acc)->Fin acc H'->R (.ok .next) s') :
 codeAny (model X.prog X.w) X.A (.compLoop (.ListComp elt [⟨tg,iter,ifs,0⟩] scope pos) 0 (.ref it) (.ref Dl) (compEnvC scope cl C X.env)) R s4:=by
 obtain⟨m0,w0⟩:=w0;have eA:X'.A=X.A:=by rw[hX];rfl
 have eP:X'.prog=X.prog:=by rw[hX];rfl
 have eW:X'.w=X.w:=by rw[hX];rfl
 have eK:X'.K=X.K:=by rw[hX];rfl
 have eE:X'.env=compEnvC scope cl C X.env:=by rw[hX];rfl
 have eC:X'.calm=true:=by rw[hX];exact hcalm
 have stat:∀{H':Hp},(∀b∈fp,H' b=none)->∀b∈fp,h8 X' [] H' b:=λhn b hb=>⟨hn b hb,(hf b hb).2⟩;refine codeAny_loop rfl (λn s=>∃i o acc H,L2.Inv X' [] (o++σc) H s/\o.length=tN.length/\tn i s.heap/\(∀b∈fp,H b=none)/\W i n acc H) ?_ m0 ⟨0,List.replicate tN.length none,[],H3,I4,by simp,st4,λb hb=>(hf b hb).1,w0⟩;rintro n s5 ⟨i,o,acc,H5,I5,lo,st5,fr5,w5⟩;show wpAny _ X.A ((compTurn (.ListComp elt [⟨tg,iter,ifs,0⟩] scope pos) 0 (.ref it) (.ref Dl) (compEnvC scope cl C X.env)).onRaise (λx=>do noteFrame x (compEnvC scope cl C X.env);theTreesLotGoes x)) _ _ s5;refine wpAny_noted (kU (E:=X'.xe) ?_ (λ_ _ z=>z) hER);rw[compTurn_list];obtain⟨hD,alt⟩:=turn i n acc H5 w5;rcases alt with⟨stop,fin⟩|⟨go,step⟩
 .refine aB (Sx (aB (kU (eA▸T.done X' eP eW eK eC i [] s5 _ H5 _ I5 (stat fr5) st5 stop) (λr s6 ⟨hr,I6⟩=>?_) λ_ _ z=>z)));subst hr;exact fW (hR _ H5 acc s6 I6 hD fin)
 .refine aB (Sx (aB (kU (eA▸T.item X' eP eW eK eC i [] s5 _ H5 _ I5 (stat fr5) st5 go) (λr s6 ⟨u,hr,h6⟩=>?_) λ_ _ z=>z)));subst hr;refine aB (kU h6 (λ_ s7 ⟨xv,H7,I7,r7,y7,st7,fr7⟩=>?_) λ_ _ z=>z);have I7':=I7.pinned (stat fr7) (T.obj _ _ st7);have hg':=hg _ s7 _ H7 xv u _ I7' r7 (step xv H7 o y7 lo);rw[eP,eW,eA,eE]at hg';refine aB (kU hg' (λ_ s8 ⟨σ8,H8,I8,shp,q8⟩=>?_) λ_ _ z=>z);obtain⟨o2,lo2,eσ⟩ : ∃o2:St,o2.length=tN.length/\σ8=o2++σc:=by
   have l8:σ8.length=tN.length+σc.length:=I8.len.trans cj;refine⟨σ8.take tN.length,by rw[lC];lia,?_⟩;have ed:σ8.drop tN.length=σc:=by
    apply SJ
    intro j;rw[Te,shp (tN.length+j) (by lia),jP (by lia),lo,nO]
   rw[<- ed,Sg]
  subst eσ;have ht':=ht _ s8 _ H8 _ I8 q8;rw[eP,eW,eA,eE]at ht';refine aB (kU ht' (λok s9 ⟨H9,I9,q9⟩=>?_) λ_ _ z=>z);have again:∀{s':Tv}{H':Hp},L2.Inv X' ([]++pY fp s7.heap) (o2++σc) H' s'->L2.Inv X' [] (o2++σc) H' s'/\tn (i+1) s'.heap/\∀b∈fp,H' b=none:=λ{s' H'} J'=>by refine⟨J'.mT,T.keep _ _ _ st7 λb hb ob e=>(J'.pin (b,ob) (f_ _ (f_ _ (ib hb e)))).1,λb hb=>?_⟩;obtain⟨ob,e,d⟩:=T.obj _ _ st7 b hb;exact(J'.pin (b,ob) (f_ _ (f_ _ (ib hb e)))).2.1
  cases ok with
  |false=>obtain⟨m',hm,w9⟩:=(show ∃m',m'<n/\W (i+1) m' acc H9 from by simpa using q9);obtain⟨a1,a2,a3⟩:=again I9;exact fW ⟨rfl,m',hm,i+1,o2,acc,H9,a1,lo2,a2,a3,w9⟩
  |true=>
   have q9:te (o2++σc) H9 λy H5=>H5 Dl=some (.lst acc)/\acc.length<sizeLine/\∃m',m'<n/\W (i+1) m' (acc++[y]) (bQ H5 Dl (.lst (acc++[y]))):=by simpa using q9
   have he':=he _ s9 _ H9 _ I9 q9;rw[eP,eW,eA,eE]at he';refine aB (aB (kU he' (λv s10 ⟨y,H10,I10,ry,eD,hl,m',hm,w10⟩=>?_) λ_ _ z=>z));have hm':=mX (X:=X') _ s10 _ H10 (.ref Dl) [y] (.ref Dl) [v] (λw H'=>w=.gP/\H'=bQ H10 Dl (.lst (acc++[y]))) I10 rfl (.cons ry .nil) ⟨Dl,acc,y,rfl,rfl,eD,hl,rfl,rfl⟩;rw[eP,eW,eA]at hm';refine aB (kU hm' (λ_ s11 ⟨w,H11,I11,_,_,eH⟩=>?_) λ_ _ z=>z);subst eH;obtain⟨a1,a2,a3⟩:=again I11;exact fW (fW ⟨rfl,m',hm,i+1,o2,acc++[y],_,a1,lo2,a2,a3,w10⟩)
end
section
variable{X:Cx}{ag:List (Addr×Obj)}{σ:St}{H:Hp}{s:Tv}{scope:Scope}{tg:Expr}{tN:List Str}{capN:List Str}{caps:List Nat}{elt iter:Expr}{pos:Pos}{ifs:List Expr}{wi:TI}
def mZ(X:Cx)(E:XK)(scope:Scope)(tg:Expr)(tN:List Str)(capN:List Str)(caps:List Nat)(elt:Expr)(ifs:List Expr)(σ:St)(Fin:Addr->List V->Hp->Prop)(J:It)(H2:Hp):Prop:=
 ∀(Dl:Addr),H2 Dl=none->∀(cl:List (Str×Addr))(C:Addr)(s3:Tv)(fp:List Addr),∃(gt:TG)(tt:TT)(te:TE)(W:Nat->Nat->List V->Hp->Prop),
  PG (gf X E scope (tN++capN) cl C s3 (bQ H2 Dl (.lst [])) fp) tg gt/\J6 (gf X E scope (tN++capN) cl C s3 (bQ H2 Dl (.lst [])) fp) ifs tt/\PE (gf X E scope (tN++capN) cl C s3 (bQ H2 Dl (.lst [])) fp) elt te/\(∃m,W 0 m [] (bQ H2 Dl (.lst [])))/\
  ∀i m acc H,W i m acc H->H Dl=some (.lst acc)/\((J.stop i H/\Fin Dl acc H)\/(J.go i H/\∀xv H' (o:St),J.Jc i H xv H'->o.length=tN.length->gt xv (o++lY σ caps) H' λσ2 H1=>(∀j:Nat,tN.length<=j->σ2[j]?=(o++lY σ caps)[j]?)/\tt σ2 H1 λb H2=>if b=true then
   te σ2 H2 λy H5=>H5 Dl=some (.lst acc)/\acc.length<sizeLine/\∃m',m'<m/\W (i+1) m' (acc++[y]) (bQ H5 Dl (.lst (acc++[y])))else ∃m',m'<m/\W (i+1) m' acc H2))
def zi{E:XK}{use:Option (TB->Sem Unit)}{Qv:TB->Tv->Prop}{Fin:Addr->List V->Hp->Prop}(hst:X.stack=X.env::X.outer)(hf:X.env.frame=some X.env.locals)(hP:∀ag σ H s C e s',L2.Inv X ag σ H s->h8 X ag H C->Mv X.prog X.w C X.stack H s E e s'->X.xe e s')(hc:X.calm=true)(S:bW X scope tN capN caps)(I:L2.Inv X ag σ H s)(hi:PI X tg iter wi)
 (h:wi σ H (mZ X E scope tg tN capN caps elt ifs σ Fin))
 (hu:∀(Dl C:Addr)(acc:List V)(H':Hp)(s':Tv),L2.Inv X ag σ H' s'->h8 X ag H' C->H' Dl=some (.lst acc)->Fin Dl acc H'->(∃m,s'.heap.Ns C m)->compPost (model X.prog X.w) X.A X.xe use Qv (.ref Dl) C (.ok .next) s')
 (hs:autoParam (∀x,foldedSetIterable iter X.env x=pure x) TU) :
 wX X (comprehension (.ListComp elt [⟨tg,iter,ifs,0⟩] scope pos) scope X.env (firstIterPos [⟨tg,iter,ifs,0⟩] pos) (newList []) false (eval iter X.env) use) Qv X.xe s:=by
 obtain⟨cl,ecl,hcl,hhas⟩:=nv (scope:=scope) (env:=X.env) λy hy hf=>I.ok.has y.1 (S.free y hy hf);refine wpAny_comprehension_free rfl hs ecl S.kind S.names (eS (hi ag s σ H _ I h) λv s1 h1=>eS h1 λitv s2 h2=>?_);obtain⟨it,fp,tn,J,H2,rfl,I2,T,st2,f2,goal⟩:=h2;refine pO (wpAny_newFunctionEnv S.AS (by intro y hy;simp at hy) (λh₁ hns₁ hsb₁=>?_) S.kind);dsimp only at hns₁ hsb₁ ⊢;have hD:H2 s2.heap.objs.size=none:=I2.bP.fresh (dJ _);have I3:L2.Inv X ag σ (bQ H2 s2.heap.objs.size (.lst [])) { s2 with heap:=s2.heap.push { cls:=.type "list",dict:=none,data:=.seq ([]:List TB).toArray } }:=I2.laid (t':=s2.toks) (λb u e=>c6 _ e) (dJ _) ⟨lU _,[],0,.nil,gM _ rfl⟩;generalize hs3:({ s2 with heap:=s2.heap.push { cls:=.type "list",dict:=none,data:=.seq ([]:List TB).toArray } }:Tv)=s3 at I3;have e3:s2.heap.push { cls:=.type "list",dict:=none,data:=.seq ([]:List TB).toArray }=s3.heap:=by rw[<- hs3]
 rw[e3]at hns₁ hsb₁ ⊢;have kp:∀b o,s3.heap.get? b=some o->h₁.get? b=some o:=λb o e=>hsb₁.extBut b o (je (f6 e)) (c6 _ e);have k23:∀b o,s2.heap.get? b=some o->s3.heap.get? b=some o:=λb o e=>by rw[<- e3];exact c6 _ e
 have hex:∀b∈fp,h8 X ag (bQ H2 s2.heap.objs.size (.lst [])) b/\b<s3.heap.objs.size:=λb hb=>by obtain⟨o,ho,_⟩:=T.obj 0 _ st2 b hb;have hlt:b<s2.heap.objs.size:=f6 ho;refine⟨⟨?_,(f2 b hb).2⟩,f6 (k23 b o ho)⟩;rw[aH (je hlt)];exact(f2 b hb).1
 have es:({s2 with heap:=h₁,toks:=s2.toks+([]:List (Str×TB)).length}:Tv)={s3 with heap:=h₁,toks:=s2.toks+([]:List (Str×TB)).length}:=by rw[<- hs3]
 have I4:L2.Inv (gf X E scope (tN++capN) cl s3.heap.objs.size s3 (bQ H2 s2.heap.objs.size (.lst [])) fp) [] (List.replicate tN.length none++lY σ caps) (bQ H2 s2.heap.objs.size (.lst [])) {s3 with heap:=h₁,toks:=s2.toks+([]:List (Str×TB)).length}:=(xy I3 S.kind S.AS hcl hhas (dJ _) hex S.cap kp hns₁).uq _;obtain⟨gt,tt,te,W,hg,ht,he,w0,turn⟩:=goal s2.heap.objs.size hD cl s3.heap.objs.size s3 fp;have st4:tn 0 h₁:=T.keep 0 _ _ st2 λb hb o e=>kp b o (k23 b o e);have f4:∀b∈fp,h8 (gf X E scope (tN++capN) cl s3.heap.objs.size s3 (bQ H2 s2.heap.objs.size (.lst [])) fp) [] (bQ H2 s2.heap.objs.size (.lst [])) b:=λb hb=>by
  obtain⟨f,hlt⟩:=hex b hb;refine⟨f.1,je hlt,λhfs=>?_,.inl hb,λy c e=>f.2.2.2.2.1 y c (hcl y c e),λp hp=>absurd (show p∈([]:List (Addr×Obj))from hp) (by simp)⟩;rcases cJ.mp (I3.qU b hfs)with z|z
  .exact f.2.1 z
  .exact f.2.2.1 z
 have loop:codeAny (model X.prog X.w) X.A (.compLoop (.ListComp elt [⟨tg,iter,ifs,0⟩] scope pos) 0 (.ref it) (.ref s2.heap.objs.size) (compEnvC scope cl s3.heap.objs.size X.env)) (compPost (model X.prog X.w) X.A X.xe use Qv (.ref s2.heap.objs.size) s3.heap.objs.size)
  {s3 with heap:=h₁,toks:=s2.toks+([]:List (Str×TB)).length}:=by
  refine zh rfl T hc I4 (by show(tN++capN).length=_;simp[lY,S.cap.len]) st4 f4 hg ht he W (Fin s2.heap.objs.size) w0 turn _ (λe s' hx=>?_) λσ' H' acc s' I' hD' fin=>?_
  .obtain⟨p1,σ1,H1,s1,I1,hx⟩:=hx;obtain⟨Io,fo⟩:=qh I3 rfl (dJ _) hex I1;obtain⟨m1,hn1,_⟩:=I1.loc;exact Dv hst hf Io fo ⟨m1,hn1⟩ hx λe s'' h=>hP ag σ H1 s1 _ e s'' Io fo h
  obtain⟨Io,fo⟩:=qh I3 rfl (dJ _) hex I'.ux;obtain⟨m',hn',_⟩:=I'.loc;exact hu _ _ acc H' s' Io fo hD' fin ⟨m',hn'⟩
 rw[es];exact codeAny_compStart_list loop (T.self _ 0 _ _ _ st4 loop)
def Dw{E:XK}{Q:VK}(hst:X.stack=X.env::X.outer)(hf:X.env.frame=some X.env.locals)(hP:∀ag σ H s C e s',L2.Inv X ag σ H s->h8 X ag H C->Mv X.prog X.w C X.stack H s E e s'->X.xe e s')(hc:X.calm=true)(S:bW X scope tN capN caps)(I:L2.Inv X ag σ H s)(hi:PI X tg iter wi)(h:wi σ H (mZ X E scope tg tN capN caps elt ifs σ λDl _ H'=>Q (.ref Dl) H'))
 (hs:autoParam (∀x,foldedSetIterable iter X.env x=pure x) TU):wX X (eval (.ListComp elt [⟨tg,iter,ifs,0⟩] scope pos) X.env) (EP X ag σ Q) X.xe s:=by
 rw[eval_ListComp];refine zi (use:=none) hst hf hP hc S I hi h (λDl C acc H' s' Io fo hD fin hn=>?_) hs;obtain⟨m,hn⟩:=hn;exact⟨m,hn,λh' sb=>⟨.ref Dl,H',vZ Io fo sb,rfl,fin⟩⟩
end
def qA(n:Nat)(caps:List Nat)(src:En->Res Src)(asg:D->Bool->En->Option En)(test:En->Res Bool)(elt:En->Res R):En->Res R:=λenv=>(src env).bind λs=>if s.xs.length<=lim then
 (cy (λd=>asg d s.fr (c_ env n caps)) test elt s.xs).bind λrs=>.ok (pU (rs.map R.d) (bF rs) (s.al++caps.filter (fq env)))else .stuck
structure R7(g:Gd) (M:Addr->Prop) (H1:Hp) (Dl:Addr) (C:Nat->Res (List R)) (res:Res (List R)) (i:Nat) (acc:List V) (H:Hp) (M':Addr->Prop) (rs:List R):Prop where
 sm:Same H1 H
 hD:H Dl=some (.lst acc)
 mi:∀a,M a->M' a
 mo:∀a,M' a->M a\/H1 a=none
 nD:¬M' Dl
 fz:∀a,M' a->H a≠none
 fl:∀a,M' a->g.H₀ a=none->MuZ g H a
 rl:rs.length<=i
 is:IsAll H (jm g M' (bF rs)) (rs.map R.d) acc
 qr:res=(C i).bind λbd=>.ok (rs++bd)
section
variable{X:Cx}{E:XK}{scope:Scope}{tg:Expr}{tN:List Str}{capN:List Str}{caps:List Nat}{ix:List Nat}{asg:D->Bool->En->Option En}{elt iter:Expr}{pos:Pos}{ifs:List Expr}{wi:TI}{src:En->Res Src}{ft:En->Res Bool}{fe:En->Res R}
def zk{g:Gd}{M1:Addr->Prop}{ρ:Pr}{env:En}{σ:St}{H1:Hp}{Q:VK}{J:It}{s:Src}{res:Res (List R)}(hix:∀j∈ix,j<tN.length)(hg:∀cl C s3 H3 fp,CV (gf X E scope (tN++capN) cl C s3 H3 fp) ix tg asg)(ht:∀cl C s3 H3 fp,v3 (gf X E scope (tN++capN) cl C s3 H3 fp) E ifs ft)(he:∀cl C s3 H3 fp,PD (gf X E scope (tN++capN) cl C s3 H3 fp) E elt fe)(rep1:Rep g M1 ρ env σ H1)(wk:Walk J (vmsk g M1 s.fr ρ s.al) H1 s.xs)(hlim:s.xs.length<=lim)(qc:cy (λd=>asg d s.fr (c_ env tN.length caps)) ft fe s.xs=res)
 (p:PostE X.mg E g M1 ρ env σ H1 Q (res.bind λfull=>.ok (pU (full.map R.d) (bF full) (s.al++caps.filter (fq env))))):mZ X E scope tg tN capN caps elt ifs σ (λDl _ H'=>Q (.ref Dl) H') J H1:=by
 have pS:res=.stuck->False:=λe=>by rw[e]at p;exact p
 have pX:∀c,res=.exc c->FJ X.mg E g c:=λc e=>by rw[e]at p;exact p
 intro Dl hDl cl C s3 fp;obtain⟨gt,pg,sg⟩:=hg cl C s3 (bQ H1 Dl (.lst [])) fp;obtain⟨tt,pt,st⟩:=ht cl C s3 (bQ H1 Dl (.lst [])) fp;obtain⟨te,pe,se⟩:=he cl C s3 (bQ H1 Dl (.lst [])) fp;obtain⟨d0,dm,dow⟩:=rep1.free hDl;refine⟨gt,tt,te,λi m acc H=>m=s.xs.length-i/\i<=s.xs.length/\∃(M':Addr->Prop)(rs:List R),R7 g (λa=>M1 a\/∃j,j∈s.al++caps/\ρ j a) H1 Dl (λi=>cy (λd=>asg d s.fr (c_ env tN.length caps)) ft fe (s.xs.drop i)) res i acc H M' rs,
  pg,pt,pe,⟨_,rfl,lU _,(λa=>M1 a\/∃j,j∈s.al++caps/\ρ j a),[],bJ hDl,aP,λ_ z=>z,λ_ z=>.inl z,?_,?_,?_,dJ _,rfl,by rw[List.drop_zero,qc];cases res<;>rfl⟩,?_⟩
 .rintro (z|⟨j,_,z⟩)
  .exact dm z
  .exact dow j z
 .rintro a (z|⟨j,_,z⟩) hn
  .exact rep1.lA a z ((bJ hDl).free hn)
  .obtain⟨_,_,uo,hz,_⟩:=rep1.ck j a z;rw[(bJ hDl) a _ hz]at hn;cases hn
 .rintro a (z|⟨j,_,z⟩) h0
  .exact(rep1.fl a z h0).same λo e=>bJ hDl _ _ e
  .exact .inl ((rep1.ck j a z).2.2.same λo e=>bJ hDl _ _ e)
 .rintro i m acc H2 ⟨rfl,hle,M',rs,sm,hD2,hMi,hMo,nD,frz2,fl2,hrs,isA,qr⟩;refine⟨hD2,?_⟩;have kp:∀a o,H1 a=some o->(vmsk g M1 s.fr ρ s.al a\/gS o)->H2 a=some o:=λa o e _=>sm a o e;have inn2:∀{M'':Addr->Prop}{a:Addr},(M1 a\/∃j,j∈s.al++caps/\ρ j a)\/H1 a=none->g.H₀ a=none\/g.Ma a:=λ{M'' a} z=>by
   rcases z with(z|⟨j,_,z⟩)|z
   .exact rep1.w8 a z
   .exact .inl (rep1.ck j _ z).2.1
   .exact .inl (rep1.same.free z)
  by_cases hlt:i<s.xs.length
  .have ed:s.xs[i]?=some s.xs[i]:=by simp[hlt]
   obtain⟨go,yl⟩:=wk.go H2 i _ kp ed;refine .inr ⟨go,λxv H3 o y lo=>?_⟩;obtain⟨s23,isx⟩:=yl xv H3 y;have edrop:s.xs.drop i=s.xs[i]::s.xs.drop (i+1):=pQ hlt;rw[edrop]at qr;unfold cy at qr;have isx':Is H3 (jm g M' s.fr) s.xs[i] xv:=isx.weak λa z=>by
    rcases z with z|⟨j,hj,z⟩
    .exact⟨hMi a (.inl z.1),z.2⟩
    .exact⟨hMi a (.inr ⟨j,by simp[hj],z⟩),λ_=>(rep1.ck j _ z).2.1⟩
   have repI:Rep g M' (λ_ _=>False) (c_ env tN.length caps) (o++lY σ caps) H3:=HZ rep1 (sm.trans s23) lo (λa z=>hMi a (z.imp id λ⟨j,hj,w⟩=>⟨j,by simp[hj],w⟩)) (λa z hn=>frz2 a z (s23.free hn)) (λa z=>inn2 (M'':=M') (hMo a z)) (λa z h0=>(fl2 a z h0).same λo e=>s23 _ _ e);cases qa:asg s.xs[i] s.fr (c_ env tN.length caps)with
   |none=>simp only[qa]at qr;exact(pS qr).elim
   |some envT=>
   simp only[qa]at qr;refine sg g M' _ _ envT _ H3 _ s.fr xv _ repI isx' qa λσ2 ρ2 repT shp nρ=>⟨λj hj=>shp j λz=>absurd (hix j z) (by lia),?_⟩;refine st g M' ρ2 _ _ H3 _ repT ?_;cases qt:ft envT with
   |stuck=>rw[qt]at qr;exact(pS qr).elim
   |exc c=>rw[qt]at qr;exact pX c qr
   |ok b=>
    rw[qt]at qr;intro M4 H4 e4 rep4;cases b with
    |false=>refine vN ⟨s.xs.length-(i+1),by lia,rfl,hlt,M',rs,(sm.trans s23).trans e4.h,e4.h _ _ (s23 _ _ hD2),hMi,hMo,nD,λa z hn=>frz2 a z (s23.free (e4.h.free hn)),λa z h0=>(fl2 a z h0).same λo e=>e4.h _ _ (s23 _ _ e),by lia,?_,by simpa using qr⟩;exact IsAll.same e4.h (IsAll.same s23 isA)
    |true=>
     refine uE ?_;simp only[Res.fY,Sd]at qr;refine se g M4 ρ2 _ _ H4 _ rep4 ?_;cases qe:fe envT with
     |stuck=>rw[qe]at qr;exact(pS qr).elim
     |exc c=>rw[qe]at qr;exact pX c qr
     |ok r=>
      rw[qe]at qr;simp only[Res.fY]at qr;have qd:res=(cy (λd=>asg d s.fr (c_ env tN.length caps)) ft fe (s.xs.drop (i+1))).bind λbd=>.ok ((rs++[r])++bd):=(by rw[qr];cases cy (λd=>asg d s.fr (c_ env tN.length caps)) ft fe (s.xs.drop (i+1))<;>simp[Res.bind]);intro yv M5 H5 e5 rep5 ro;obtain⟨M6,e6,m56,rep6,is6⟩:=ro.is rep5 e5 rep4.same;have D3:H3 Dl=some (.lst acc):=s23 _ _ hD2;have D4:H4 Dl=some (.lst acc):=e4.h _ _ D3;have D5:H5 Dl=some (.lst acc):=e5.h _ _ D4;have nD4:¬M4 Dl:=λz=>(e4.n Dl z).elim nD λw=>by rw[D3]at w;cases w
      have nD6:¬M6 Dl:=λz=>(e6.n Dl z).elim nD4 λw=>by rw[D4]at w;cases w
      have M46:∀a,M4 a->M6 a:=e6.m;have up:∀a o,H5 a=some o->a≠Dl->bQ H5 Dl (.lst (acc++[yv])) a=some o:=λa o e n=>by rw[aH n];exact e
      have kp5:∀(fr:Bool) a o,H5 a=some o->(jm g M6 fr a\/gS o)->bQ H5 Dl (.lst (acc++[yv])) a=some o:=λfr a o e z=>up a o e λw=>by
       subst w;rcases z with z|z
       .exact nD6 z.1
       .rw[D5]at e;cases e;exact z
      refine⟨D5,?_,s.xs.length-(i+1),by lia,rfl,hlt,M6,rs++[r],?_,aP,λa z=>M46 a (e4.m a (hMi a z)),λa z=>?_,nD6,λa z=>?_,λa z h0=>?_,by simp;lia,?_,qd⟩
      .have:acc.length=rs.length:=by rw[isA.length,cc]
       exact nY (by lia)
      .intro b o e;exact up b o (e5.h _ _ (e4.h _ _ (s23 _ _ (sm _ _ e)))) (aD e hDl)
      .rcases e6.n a z with z|z
       .rcases e4.n a z with z|z
        .exact hMo a z
        .exact .inr (sm.free (s23.free z))
       .exact .inr (sm.free (s23.free (e4.h.free z)))
      .by_cases hw:a=Dl
       .rw[hw,aP];simp
       .rw[aH hw];exact rep6.lA a z
      .have hw:a≠Dl:=λe=>nD6 (e▸z);exact(rep6.fl a z h0).same λo e=>by rw[aH hw];exact e
      .rw[rK];refine IsAll.append ?_ ⟨yv,[],rfl,?_,rfl⟩
       .have i5:IsAll H5 (jm g M' (bF rs)) (rs.map R.d) acc:=((isA.same s23).same e4.h).same e5.h;refine(i5.weak λa z=>(⟨M46 a (e4.m a z.1),λe=>z.2 (by simp[bF]at e ⊢;exact e.1)⟩ : jm g M6 (bF (rs++[r])) a)).mono (kp5 _) λ_ _ _ z=>z
       .refine(is6.weak λa z=>?_:Is H5 (jm g M6 (bF (rs++[r]))) r.d yv).mono (kp5 _) λ_ _ _ z=>z;rcases z with z|⟨j,_,z⟩
        .exact⟨z.1,λe=>z.2 (by simp[bF]at e;exact e.2)⟩
        .exact(nρ _ _ z).elim
  .have ei:i=s.xs.length:=by lia
   subst ei;refine .inl ⟨wk.stop H2 kp,?_⟩;rw[Ts]at qr;unfold cy at qr;have qr:res=.ok rs:=by rw[qr];simp[Res.bind]
   subst qr;have p:PostE X.mg E g M1 ρ env σ H1 Q (.ok (pU (rs.map R.d) (bF rs) (s.al++caps.filter (fq env)))):=p;have RM:Rep g (λa=>M1 a\/(nl H1 H2 a/\M' a)) ρ env σ H2:=rep1.came sm M';have XM:Ext M1 H1 (λa=>M1 a\/(nl H1 H2 a/\M' a)) H2:=⟨λ_=>.inl,sm,λ_ z=>z.imp id (·.1.1)⟩;have nDl:¬(M1 Dl\/(nl H1 H2 Dl/\M' Dl)):=λz=>z.elim dm λz=>nD z.2;have nwD:∀b,V.ref Dl=.ref b->H1 b=none:=λb e=>by cases e;exact hDl
   unfold pU at p;by_cases hfl:D.aL (rs.map R.d)=true
   .rw[dL hfl]at p;exact p _ _ H2 XM RM ⟨Dl,acc,rfl,hD2,nDl,hDl,dow,IsAll.flat hfl isA⟩
   .rw[f7 hfl]at p;by_cases hal:(s.al++caps.filter (fq env)).isEmpty=true
    .rw[dL hal]at p;refine p _ _ H2 XM RM ⟨Dl,acc,rfl,hD2,nDl,hDl,dow,isA.weak λa z=>⟨?_,z.2⟩⟩;rcases hMo a z.1 with(w|⟨j,hj,w⟩)|w
     .exact .inl w
     .exfalso;have he:s.al++caps.filter (fq env)=[]:=by simpa using hal
      rcases ir.mp hj with hj|hj
      .have:j∈s.al++caps.filter (fq env):=nQ _ hj;rw[he]at this;simp at this
      .have:j∈s.al++caps.filter (fq env):=f_ _ (q_.mpr ⟨hj,rep1.ow j a w⟩);rw[he]at this;simp at this
     .exact .inr ⟨⟨w,(fl2 a z.1 (rep1.same.free w)).elim id λq=>(rep1.zz a q.1 w).elim⟩,z.1⟩
    .rw[f7 hal]at p;refine p _ (λa=>(M1 a\/(nl H1 H2 a/\M' a))\/a=Dl) H2 ⟨λ_ z=>.inl (.inl z),sm,λa z=>z.elim (XM.n a) λe=>.inr (e▸hDl)⟩ (RM.more hD2 d0 dow) ⟨Dl,acc,rfl,.inl ⟨hD2,.inl ⟨.inr rfl,λ_=>d0⟩⟩,isA.weak λa z=>?_⟩;rcases hMo a z.1 with(w|⟨j,hj,w⟩)|w
     .exact .inl ⟨.inl (.inl w),z.2⟩
     .refine .inr ⟨j,?_,w⟩;rcases ir.mp hj with hj|hj
      .exact nQ _ hj
      .exact f_ _ (q_.mpr ⟨hj,rep1.ow j a w⟩)
     .exact .inl ⟨.inl (.inr ⟨⟨w,(fl2 a z.1 (rep1.same.free w)).elim id λq=>(rep1.zz a q.1 w).elim⟩,z.1⟩),z.2⟩
def BD(si:J4 X.mg E wi src)(hix:∀j∈ix,j<tN.length)(hg:∀cl C s3 H3 fp,CV (gf X E scope (tN++capN) cl C s3 H3 fp) ix tg asg)(ht:∀cl C s3 H3 fp,v3 (gf X E scope (tN++capN) cl C s3 H3 fp) E ifs ft)(he:∀cl C s3 H3 fp,PD (gf X E scope (tN++capN) cl C s3 H3 fp) E elt fe) :
 Snd X.mg E (λσ H Q=>wi σ H (mZ X E scope tg tN capN caps elt ifs σ λDl _ H'=>Q (.ref Dl) H')) (qA tN.length caps src asg ft fe):=by
 intro g M ρ env σ H Q rep p;refine si g M ρ env σ H _ rep ?_;unfold qA at p;cases q:src env with
 |stuck=>rw[q]at p;exact p
 |exc c=>rw[q]at p;exact p
 |ok s=>
  rw[q]at p;simp only[Res.fY]at p;intro J M1 H1 e1 rep1 wk;by_cases hlim:s.xs.length<=lim
  .rw[dL hlim]at p;exact zk hix hg ht he rep1 wk hlim rfl (PostE.ext e1 p)
  .rw[f7 hlim]at p;exact p.elim
theorem xW(hst:X.stack=X.env::X.outer)(hf:X.env.frame=some X.env.locals)(hP:∀ag σ H s C e s',L2.Inv X ag σ H s->h8 X ag H C->Mv X.prog X.w C X.stack H s E e s'->X.xe e s')(hc:X.calm=true)(S:bW X scope tN capN caps)(hi:CW X E tg iter src)(hix:∀j∈ix,j<tN.length)(hg:∀cl C s3 H3 fp,CV (gf X E scope (tN++capN) cl C s3 H3 fp) ix tg asg)(ht:∀cl C s3 H3 fp,v3 (gf X E scope (tN++capN) cl C s3 H3 fp) E ifs ft)(he:∀cl C s3 H3 fp,PD (gf X E scope (tN++capN) cl C s3 H3 fp) E elt fe)
 (hs:autoParam (∀x,foldedSetIterable iter X.env x=pure x) TU):PD X E (.ListComp elt [⟨tg,iter,ifs,0⟩] scope pos) (qA tN.length caps src asg ft fe):=by
 obtain⟨wi,p1,s1⟩:=hi;exact⟨_,λag s σ H Q I h=>Dw hst hf hP hc S I p1 h hs,BD s1 hix hg ht he⟩
end
def Dx{X:Cx}{E:XK}{scope:Scope}{N:List Str}{cl:List (Str×Addr)}{C:Addr}{s:Tv}{H:Hp}{ex:List Addr}:nU (jI X.prog X.w) (gf X E scope N cl C s H ex) E:=λag σ H1 s1 _ _ I h=>⟨ag,σ,H1,s1,I.ux,h⟩
def Dy{P:Tz}{w:World}{K:Tw}{mg:Str->Option TB}{base:Heap}{N:List Str}{qual:Str}{scope:Scope}{f:Addr}{cd:TB}{A:TC}{outer:List Env}{s₀:Tv}{H₀:Hp}{E:XK} :
 ∀ag σ H s C e s',L2.Inv (lZ P w K mg base N qual scope f cd A outer s₀ H₀ E) ag σ H s->h8 (lZ P w K mg base N qual scope f cd A outer s₀ H₀ E) ag H C->Mv (lZ P w K mg base N qual scope f cd A outer s₀ H₀ E).prog (lZ P w K mg base N qual scope f cd A outer s₀ H₀ E).w C (lZ P w K mg base N qual scope f cd A outer s₀ H₀ E).stack H s E e s'->(lZ P w K mg base N qual scope f cd A outer s₀ H₀ E).xe e s':=
 λag σ H s C e s' I fo h=>GH I (fo.2.2.2.1.elim (λz=>absurd (show C∈([]:List Addr)from z) (by simp)) id) h
end L3
namespace L2
open PySem PySem.Spec PyProof.Rows
noncomputable def n9(mro:List TB)(l:List (Addr×Str)):Option Str:=(l.find? λp=>mro.contains (.ref p.1)).map (·.2)
def BE{mro:List TB}{c:Addr}{s s':Str}{l:List (Addr×Str)}(h:n9 mro ((c,s')::l)=some s):(mro.contains (.ref c)=true/\s'=s)\/(mro.contains (.ref c)=false/\n9 mro l=some s):=by
 unfold n9 at h ⊢;rw[jk]at h;cases q:mro.contains (.ref c)with
 |true=>rw[q]at h;exact .inl ⟨rfl,jD h⟩
 |false=>rw[q]at h;exact .inr ⟨rfl,h⟩
inductive rV(X:Cx) (z:Str):List ExceptHandler->List (Addr×Str)->Prop
 |nil:rV X z [] []
 |cons {hc:Str} {Ch:Addr} {np hpos pz cp ap:Pos} {s:Str} {j:Nat} {hs:List ExceptHandler} {l:List (Addr×Str)} (hx:XC X.K X.mg hc Ch) (hg:Gl X hc) (r:rV X z hs l) (hsw:autoParam (swapsWith (.Constant (.str s) j cp) (some (.Name z pz)) ap.line X.env=pure false) TV) (hdb:autoParam (dB hc) TQ) :
  rV X z (.ExceptHandler (some (.Name hc np)) none [.Assign [.Name z pz] (.Constant (.str s) j cp) ap] hpos::hs) ((Ch,s)::l)
def Dz(X:Cx)(m:Nat)(l:List (Addr×Str)) (D:Ends) (σ:St):XK:=λcls _ H1=>∃C s,cls=.ref C/\excIn X.K C uF "ValueError.__new__"=true/\n9 (me X.K C) l=some s/\D.nx (σ.set m (some (.str s))) H1
section
variable{X:Cx}{pos epos:Pos}{te:TX}{e:Expr}{m:Nat}{z:Str}{hs:List ExceptHandler}{l:List (Addr×Str)}
def Kr{ag:List (Addr×Obj)}{σ:St}{D:Ends}{ev:TB}{s':Tv}(hN:X.N.Nodup)(hm:X.N[m]?=some z)(hz:B4 X.env.scope z)(hfz:X.fn z=true\/X.env.scope.names.lookup z=some .local)(hst:X.stack=X.env::X.outer)(hf:X.env.frame=some X.env.locals)(hh:rV X z hs l)
 (h:∃H1 s1,Inv X ag σ H1 s1/\jI X.prog X.w X.stack H1 s1 (Dz X m l D σ) ev s') :
 wX X (noteFrame ev X.env) (λ_ s2=>wX X (setFlight ev none) (λ_ s3=>wX X (handleBy ev X.env hs) (SP X ag D) X.xe s3) X.xe s2) X.xe s':=by
 obtain⟨H1,s1,I1,x,C,t,B,H',rfl,os,bare,un,bP,fly,sA,unt,inB,hxn,C0,w,ec,hex,hmr,q⟩:=h;cases ec;have fly':Heap.FlyingW B (X.env::X.outer) x (.ref C) (.ref t) s'.heap:=hst▸fly;have fr:X.A.frames=some (X.env::X.outer):=hst▸I1.ok.frames;refine wpAny_looks_onW fr hf fly' λh4 held up4=>?_;refine wpAny_landsW held λh5 fly5 up5=>?_;have up45:=up4.trans up5;have I5:Inv X ag σ H' {s' with heap:=h5}:=I1.landed (l:=[]) (g6:=#[]) os bare un bP fly sA unt inB fly5.1 up45;obtain⟨bm,em,hC⟩:=sN I5.sx hex;obtain⟨oe,he,hcls⟩:=fly5.there;rw[em]at hmr;induction hh with
 |nil=>cases hmr
 |@cons hc Ch np hpos pz cp ap s j hs l hx hg r hsw hdb ih=>
  obtain⟨bm',em',hC'⟩:=sN I5.sx hx.ex;refine wpAny_handleBy_cons (codeAny_handlers_test (oy (X:=X.caught x) (I5.caught x) hg hx.gl ?_ hdb)) (by intro z;cases z);refine uG hC hC' he hcls ?_;rcases BE hmr with⟨h1,rfl⟩|⟨h1,h2⟩
  .rw[h1];refine codeAny_handlers_suite ?_;refine lands_againW fly5 λh6 fly6 up6=>?_;have I6:Inv X ag σ H' {s' with heap:=h6}:=I1.landed (l:=[]) (g6:=#[]) os bare un bP fly sA unt inB fly6.1 (up45.trans up6);exact kU (zP (yM (X:=X.caught x) hN hm hz B8 hsw hfz) ag _ σ H' D (I6.caught x) q) (λf s7 h7=>h7.uncaught I6.ok) λ_ _ z=>False.elim z
  .rw[h1];exact ih h2
def GI{h₀:ExceptHandler}{i:Nat}{y:Str}{py:Pos}(hN:X.N.Nodup)(hi:X.N[i]?=some y)(hy:B4 X.env.scope y)(hm:X.N[m]?=some z)(hz:B4 X.env.scope z)(hst:X.stack=X.env::X.outer)(hf:X.env.frame=some X.env.locals)(hh:rV X z (h₀::hs) l)(he:Rj X e te)
 (hsw:autoParam (swapsWith e (some (.Name y py)) epos.line X.env=pure false) TV) (hfn:autoParam (X.fn y=true\/X.env.scope.names.lookup y=some .local) TR) (hfz:autoParam (X.fn z=true\/X.env.scope.names.lookup z=some .local) TR) :
 PS X (.Try [.Assign [.Name y py] e epos] (h₀::hs) [] [] pos) (λD σ H=>te σ H (λv H1=>D.nx (σ.set i (some v)) H1) (Dz X m l D σ)):=by
 intro ag s σ H D I h;refine wpAny_Try_except ?_;refine wpAny_execs_cons (wpAny_Assign_Name (kU (he ag s σ H _ _ I h) (λv s1 ⟨z,H1,I1,r1,q1⟩=>?_) λev s' z=>?_) hsw)
 .exact sB I1 hN hi hy r1 (λs2 I2=>Sw (Sw ⟨_,H1,I2,q1⟩)) hfn
 .exact Kr hN hm hz hfz hst hf hh z
end
end L2
namespace L3
open PySem PySem.Spec PyProof.Rows L2
def DA(K:Tw)(mg:Str->Option TB)(l:List (Addr×Str))(tab:List (Str×Str)):Prop:=∀c s,tab.lookup c=some s->∃C,XC K mg c C/\n9 (me K C) l=some s
def rz(i m:Nat)(tab:List (Str×Str))(rs:List R)(env:En):Res R->Res Fl
 |.ok r=>if i<env.length then .ok (.nx (put env i (j9 rs r)))else .stuck
 |.exc c=>(match tab.lookup c with|some s=>(if m<env.length then .ok (.nx (put env m (.val (.str s) true [])))else .stuck)|none=>.stuck)
 |.stuck=>.stuck
def rA(i m:Nat)(F:List D->Res R)(fs:En->Res (List R))(tab:List (Str×Str)):En->Res Fl:=λenv=>(fs env).P3.bind λrs=>rz i m tab rs env (F (rs.map R.d))
section
variable{X:Cx}{E:XK}{pos epos p cpos:Pos}{hs:List ExceptHandler}{l:List (Addr×Str)}{tab:List (Str×Str)}{k m i:Nat}{f:Addr}{fd:FuncData}{ps:List Str}{F:List D->Res R}{x y z:Str}{py:Pos}{e:Expr}{es:List Expr}{fs:En->Res (List R)}
theorem DB{h₀:ExceptHandler}(hN:X.N.Nodup)(hi:X.N[i]?=some y)(hy:B4 X.env.scope y)(hm':X.N[m]?=some z)(hz:B4 X.env.scope z)(hst:X.stack=X.env::X.outer)(hf:X.env.frame=some X.env.locals)(hh:rV X z (h₀::hs) l)(ht:DA X.K X.mg l tab)
 (G:cw X.prog X.w X.K X.mg X.base (jI X.prog X.w) k f fd ps (lE X.mg ps.length F)) (hr:j3 k X.A) (hg:Gl X x) (hm:X.mg x=some (.ref f)) (hk:keepIn X.K (.ref f)=true) (hb:Binds X.K fd ps [])
 (ha:y3 X.Rz E0 (e::es) fs) (hl:∀env rs,fs env=.ok rs->rs.length=ps.length)
 (hsw:autoParam (swapsWith (.Call (.Name x p) (e::es) [] cpos) (some (.Name y py)) epos.line X.env=pure false) TV)
 (hdb2:autoParam (dB x) TQ) (he:autoParam (sE X e es) TV) (hpl:autoParam (bT X cpos es) TV)
 (hfn:autoParam (X.fn y=true\/X.env.scope.names.lookup y=some .local) TR) (hfz:autoParam (X.fn z=true\/X.env.scope.names.lookup z=some .local) TR) :
 vT X E (.Try [.Assign [.Name y py] (.Call (.Name x p) (e::es) [] cpos) epos] (h₀::hs) [] [] pos) (rA i m F fs tab):=by
 obtain⟨ta,p1,s1⟩:=ha;refine⟨_,GI hN hi hy hm' hz hst hf hh (Cs (dvs:=[]) (ds:=[]) G hr hg hm hk hb .nil p1 hdb2 he hpl) hsw hfn hfz,λg M ρ env σ H D rep p=>?_⟩;refine s1 g M ρ env σ H _ rep ?_;unfold rA at p;cases q:fs env with
 |stuck=>rw[q]at p;exact p.elim
 |exc c'=>rw[q]at p;exact p.elim
 |ok rs=>
  rw[q]at p;have p:PostS X.mg E g M H D (rz i m tab rs env (F (rs.map R.d))):=p;intro vs M1 H1 e1 rep1 is;rw[lT];refine⟨by rw[is.length,cc];exact hl env rs q,rs.map R.d,_,is,?_⟩;cases qF:F (rs.map R.d)with
  |stuck=>rw[qF]at p;exact p
  |exc c=>
   rw[qF]at p;unfold rz at p;dsimp only at p;intro cls dx H' hmc s;cases ql:tab.lookup c with
   |none=>rw[ql]at p;exact p.elim
   |some w=>
    rw[ql]at p;dsimp only at p;obtain⟨C,hX,hmr⟩:=ht c w ql;have ee:=hX.gl;rw[hmc]at ee;cases ee;by_cases hil:m<env.length
    .rw[dL hil]at p;obtain⟨M4,ρ4,f4,rep4⟩:=(rep1.grow s).store (i:=m) (r:=.val (.str w) true []) (v:=.str w) (rep1.grow s).same hil rfl;exact⟨C,w,rfl,hX.ex,hmr,p _ M4 ρ4 H' ((e1.dr.trans ⟨λ_ z=>z,λa o e _=>s a o e⟩).trans f4) rep4⟩
    .rw[f7 hil]at p;exact p.elim
  |ok r=>
   rw[qF]at p;unfold rz at p;dsimp only at p;intro v H2 s2 ro;by_cases hil:i<env.length
   .rw[dL hil]at p;obtain⟨M3,e3,rep3,ro3⟩:=RetOk.caller rs rep1 s2 ro;obtain⟨M4,ρ4,f4,rep4⟩:=rep3.store rep1.same hil ro3;exact p _ M4 ρ4 H2 ((e1.dr.trans e3.dr).trans f4) rep4
   .rw[f7 hil]at p;exact p.elim
end
noncomputable def PY(i j:Str):Bool:=!(Builtin.Str.occurrences j i 0 j.length 1).isEmpty
def GJ(a b:R):Res R:=match a.d,b.d with
 |.str i,.str j=>.ok (.val (.bl (PY i j)) true [])
 |_,_=>.stuck
section
variable{X:Cx}{E:XK}
def Ks:oG X E (compareOp .In) GJ:=by
 refine⟨_,A0,λg M ρ env σ H Q ra rb x y rep i1 i2 p=>?_⟩;unfold GJ at p;cases ha:ra.d with
 |str a=>
  cases hb:rb.d with
  |str b=>rw[ha,hb]at p;rw[ha]at i1;rw[hb]at i2;exact⟨a,b,i1,i2,p _ M H (Ext.refl _ _) rep rfl⟩
  |_=>rw[ha,hb]at p;exact p.elim
 |_=>rw[ha]at p;exact p.elim
def vt(ra rb:R):Res R:=match ra.d,rb.d with
 |.str a,.int k=>if 0<=k/\k<=2 then .ok (.new (List.replicate k.toNat (.str a)) true)else .stuck
 |_,_=>.stuck
def Aq(fa fb:En->Res R):En->Res R:=λenv=>(fa env).bind λra=>(fb env).bind λrb=>vt ra rb
def GK{a b:Expr}{fa fb:En->Res R}{lp pos:Pos}(ha:PD X E a fa)(hb:PD X E b fb)(hs:autoParam (starEach [a] X.env=[(false,eval a X.env)]) TV):PD X E (.BinOp (.List [a] lp) .Mult b pos) (Aq fa fb):=by
 obtain⟨ta,pa,sa⟩:=ha;obtain⟨tb,pb,sb⟩:=hb;refine⟨_,HM JN (yS (gR pa jl hs)) pb,λg M ρ env σ H Q rep p=>?_⟩;refine sa g M ρ env σ H _ rep ?_;unfold Aq at p;cases qa:fa env with
 |stuck=>rw[qa]at p;exact p
 |exc c=>rw[qa]at p;exact p
 |ok ra=>
  rw[qa]at p;intro x M1 H1 e1 rep1 ro1;refine⟨by rw[SH];show 1<=_;lia,λq hq=>?_⟩;have e1':Ext M1 H1 M1 (bQ H1 q (.lst [x])):=⟨λ_ z=>z,bJ hq,λ_ z=>.inl z⟩;refine sb g M1 ρ env σ _ _ (rep1.grow (bJ hq)) ?_;simp only[Res.fY]at p;cases qb:fb env with
  |stuck=>rw[qb]at p;exact p
  |exc c=>rw[qb]at p;exact p
  |ok rb=>
   rw[qb]at p;simp only[Res.fY]at p;intro y M2 H2 e2 rep2 ro2;obtain⟨_,_,_,_,i1⟩:=ro1.is rep1 e1 rep.same;obtain⟨_,_,_,_,i2⟩:=ro2.is rep2 e2 (rep1.grow (bJ hq)).same;unfold vt at p;cases da:ra.d with
   |str sa'=>
    cases db:rb.d with
    |int k=>
     rw[da,db]at p;rw[da]at i1;rw[db]at i2;dsimp only at p;obtain rfl:x=.str sa':=i1;obtain rfl:y=.int k:=i2;by_cases hk:0<=k/\k<=2
     .rw[dL hk]at p;refine⟨q,k,[.str sa'],rfl,rfl,e2.h _ _ aP,by lia,by lia,by rw[SH];show 1*k.toNat<=_;lia,λp2 hp2=>?_⟩;refine(PostE.ext ((e1.trans e1').trans e2) p).new rep2 hp2 ?_;have:k=0\/k=1\/k=2:=by lia
      rcases this with rfl|rfl|rfl
      .exact rfl
      .exact⟨_,_,rfl,rfl,rfl⟩
      .exact⟨_,_,rfl,rfl,_,_,rfl,rfl,rfl⟩
     .rw[f7 hk]at p;exact p.elim
    |_=>rw[da,db]at p;exact p.elim
   |_=>rw[da]at p;exact p.elim
end
end L3
namespace L3
open PySem L2
section
variable{env bn:En}{i j:Nat}{d:D}{ds es:List D}{f g:Bool}{al bl:List Nat}{x y:Int}
noncomputable def kS(k:En->Res Fl):Fl->Res Fl
 |.nx bn=>k bn
 |r=>.ok r
theorem xX(f k:En->Res Fl)(env:En):aI f k env=(f env).bind (kS k):=by rfl
def QK(k:En->Res Fl)(e:En):kS k (.nx e)=k e:=(rfl)
def QL(k:En->Res Fl)(r:R):kS k (.rt r)=.ok (.rt r):=(rfl)
noncomputable def Mw(a b:En->Res Fl)(env:En)(k:Bool):Res Fl:=if k then a env else b env
theorem zl(c:En->Res Bool)(a b:En->Res Fl)(env:En):fj c a b env=(c env).bind (Mw a b env):=(rfl)
theorem NK(a b:En->Res Fl)(env:En):Mw a b env true=a env:=(rfl)
theorem NL(a b:En->Res Fl)(env:En):Mw a b env false=b env:=(rfl)
theorem NM(env:En):bw env=.ok (.nx env):=(rfl)
def NN(r:R):Res Fl:=.ok (.rt r)
theorem NO(a:En->Res R)(env:En):br a env=(a env).bind NN:=(rfl)
def Kt(r:R):NN r=.ok (.rt r):=(rfl)
def NP(i:Nat)(env:En)(r:R):Res Fl:=if i<env.length then .ok (.nx (put env i r))else .stuck
theorem NQ(i:Nat)(a:En->Res R)(env:En):bN i a env=(a env).bind (NP i env):=(rfl)
def Ku(r:R)(h:i<env.length):NP i env r=.ok (.nx (put env i r)):=dL h
def Kv:put env i (.val d f [])=env.set i (some (.val d f)):=(rfl)
def Kw:put env i (.new ds f)=env.set i (some (.own ds f)):=(rfl)
def Mx(i:Nat):Option (Option Sl)->Res R
 |some (some (.val d fr))=>.ok (l6 d fr [])
 |some (some (.own ds fr))=>.ok (.val (.lst ds) fr [i])
 |some (some (.pW d))=>.ok (.val d true [i])
 |some (some (.pin d))=>.ok (.val d true [i])
 |some (some (.lz d))=>.ok (.val d true [i])
 |some (some (.fix _ (.tr d)))=>.ok (.val d true [i])
 |some (some (.fix _ (.ds d)))=>.ok (.val d true [i])
 |_=>.stuck
theorem NR(i:Nat)(env:En):ak i env=Mx i env[i]?:=by unfold ak Mx;rfl
def NS:Mx i (some (some (.val d f)))=.ok (l6 d f []):=(rfl)
def NT:Mx i (some (some (.own ds f)))=.ok (.val (.lst ds) f [i]):=(rfl)
def NU:Mx i (some (some (.pW d)))=.ok (.val d true [i]):=(rfl)
def GL:Mx i (some (some (.lz d)))=.ok (.val d true [i]):=(rfl)
theorem RS(d:D)(env:En):vC d env=.ok (.val d true []):=(rfl)
def Kx(h:d.flat=true):l6 d f al=.val d true []:=by unfold l6;rw[dL h]
def Ky(h:d.flat=false):l6 d f al=.val d f al:=by unfold l6;rw[f7 (by rw[h];simp)]
def bO(h:D.aL ds=true):pU ds f al=.new ds true:=by unfold pU;rw[dL h]
def sh:pU ds true []=.new ds true:=by unfold pU;split<;>rfl
def Ro(op:R->R->Res R)(fb:En->Res R)(env:En)(ra:R):Res R:=(fb env).bind (op ra)
theorem QM(op:R->R->Res R)(fa fb:En->Res R)(env:En):v2 op fa fb env=(fa env).bind (Ro op fb env):=(rfl)
theorem NV(op:R->R->Res R)(fb:En->Res R)(env:En)(ra:R):Ro op fb env ra=(fb env).bind (op ra):=(rfl)
def NW:bU (.val (.int x) f al) (.val (.int y) g bl)=.ok (.val (.int (x+y)) true []):=(rfl)
def NY:sU (.val (.int x) f al) (.val (.int y) g bl)=.ok (.val (.int (x-y)) true []):=(rfl)
def Kz(h1:-18446744073709551616<y)(h2:y<18446744073709551616):xt (.val (.int x) f al) (.val (.int y) g bl)=.ok (.val (.int (x*y)) true []):=by
 have:CQ x y=true:=by unfold CQ;rw[lV,cH,cH];exact .inr ⟨dM (by lia),dM (by lia)⟩
 show(if CQ x y=true then _ else _)=_;rw[dL this]
def NZ(h:0<y):xu (.val (.int x) f al) (.val (.int y) g bl)=.ok (.val (.int (x%y)) true []):=by show(if decide (0<y)=true then _ else _)=_;rw[dL (dM h)]
def N0(h:0<y)(h2:y<1073741824):JX (.val (.int x) f al) (.val (.int y) g bl)=.ok (.val (.int (x/y)) true []):=by show(if(decide (0<y)&&decide (y<1073741824))=true then _ else _)=_;rw[dL (by rw[dM h,dM h2];rfl)]
def QN:PP (.val (.int x) f al) (.val (.int y) g bl)=.ok (.val (.bl (decide (x<y))) true []):=(rfl)
def DC:uI (.val (.int x) f al) (.val (.int y) g bl)=.ok (.val (.bl (decide (x<=y))) true []):=(rfl)
def QO:Bi (.val (.int x) f al) (.val (.int y) g bl)=.ok (.val (.bl (decide (y<=x))) true []):=(rfl)
def bu(h:a.d.dep<=50)(h2:b.d.dep<=50):ga a b=.ok (.val (.bl (dq a.d b.d)) true []):=by unfold ga;rw[dL ⟨h,h2⟩]
def iI(h:a.d.dep<=50)(h2:b.d.dep<=50):rY a b=.ok (.val (.bl (!dq a.d b.d)) true []):=by unfold rY;rw[dL ⟨h,h2⟩]
def aY:dq (.int x) (.int y)=(x==y):=(rfl)
def GM(xs ys:List D)(f:Bool)(al:List Nat):Res R:=if xs.length+ys.length<=lim then .ok (pU (xs++ys) f al)else .stuck
def GN:bU (.val (.lst ds) f al) (.new es g)=GM ds es (f&&g) (al++[]):=(rfl)
def GO:bU (.new ds f) (.val (.lst es) g bl)=GM ds es (f&&g) ([]++bl):=(rfl)
def GP:bU (.new ds f) (.new es g)=GM ds es (f&&g) []:=(rfl)
def tL(h:ds.length+es.length<=1000000):GM ds es f al=.ok (pU (ds++es) f al):=dL h
def Ic(fs:En->Res (List R))(env:En)(r:R):Res (List R):=(fs env).bind (λrs=>.ok (r::rs))
noncomputable def DD(r:R)(rs:List R):Res (List R):=.ok (r::rs)
theorem KA(env:En):au env=.ok []:=(rfl)
theorem GQ(a:En->Res R)(fs:En->Res (List R))(env:En):ac a fs env=(a env).bind (Ic fs env):=(rfl)
theorem GR(fs:En->Res (List R))(env:En)(r:R):Ic fs env r=(fs env).bind (DD r):=(rfl)
def DE(r:R)(rs:List R):DD r rs=.ok (r::rs):=(rfl)
def N1(rs:List R):Res R:=if rs.length<=lim then .ok (l6 (.tup (rs.map R.d)) (bF rs) (cT rs))else .stuck
theorem N2(fs:En->Res (List R))(env:En):gg fs env=(fs env).bind N1:=(rfl)
def KB(rs:List R)(h:rs.length<=1000000):N1 rs=.ok (l6 (.tup (rs.map R.d)) (bF rs) (cT rs)):=dL h
def N3(rs:List R):Res R:=if rs.length<=lim then .ok (pU (rs.map R.d) (bF rs) (cT rs))else .stuck
theorem N4(fs:En->Res (List R))(env:En):dt fs env=(fs env).bind N3:=(rfl)
def KC(rs:List R)(h:rs.length<=1000000):N3 rs=.ok (pU (rs.map R.d) (bF rs) (cT rs)):=dL h
def DF:bF []=true:=(rfl)
def vv(r:R)(rs:List R):bF (r::rs)=(r.fr&&bF rs):=(rfl)
def DG:cT []=[]:=(rfl)
def BF(r:R)(rs:List R):cT (r::rs)=r.al++cT rs:=(rfl)
def Ie(F:List D->Res R)(rs:List R):Res R:=(F (rs.map R.d)).bind (λr=>.ok (j9 rs r))
def DH(rs:List R)(r:R):Res R:=.ok (j9 rs r)
theorem KD(F:List D->Res R)(fs:En->Res (List R))(env:En):aQ F fs env=(fs env).bind (Ie F):=(rfl)
def GS(F:List D->Res R)(rs:List R):Ie F rs=(F (rs.map R.d)).bind (DH rs):=(rfl)
def DI(rs:List R)(r:R):DH rs r=.ok (j9 rs r):=(rfl)
def DJ(rs:List R)(h:d.flat=true):j9 rs (.val d f al)=.val d true []:=dL h
def mw(rs:List R)(h:d.flat=false):j9 rs (.val d true al)=.sy d:=by show HX d true rs=_;unfold HX;rw[f7 (by rw[h];simp),dL rfl]
def xY(rs:List R)(h:d.flat=false):j9 rs (.val d false al)=.val d (bF rs) (cT rs):=by show HX d false rs=_;unfold HX;rw[f7 (by rw[h];simp),f7 (by simp)]
def tM(rs:List R)(h:D.aL ds=true):j9 rs (.new ds f)=.new ds true:=by show(if D.aL ds=true then _ else _)=_;rw[dL h]
theorem QP(k:List R->Res R)(fs:En->Res (List R))(env:En):gy k fs env=(fs env).bind k:=(rfl)
def DL:D->Res R
 |.lst ds=>.ok (.val (.int ds.length) true [])
 |.tup ds=>.ok (.val (.int ds.length) true [])
 |.str z=>if z.length<=lim then .ok (.val (.int z.length) true [])else .stuck
 |_=>.stuck
def N5(r:R):cr [r]=DL r.d:=by unfold cr DL;rfl
def KF:DL (.lst ds)=.ok (.val (.int ds.length) true []):=(rfl)
def KG:DL (.tup ds)=.ok (.val (.int ds.length) true []):=(rfl)
def kB(ra:R):Res Bool:=match ra.d with
 |.bl b=>.ok b
 |_=>.stuck
theorem QQ(a:En->Res R)(env:En):vB a env=(a env).bind kB:=(rfl)
def QR(b:Bool):kB (.val (.bl b) f al)=.ok b:=(rfl)
def N6(ra:R):Res Bool:=HV ra.d
theorem KH(a:En->Res R)(env:En):k_ a env=(a env).bind N6:=(rfl)
def KI(b:Bool):N6 (.val (.bl b) f al)=.ok b:=(rfl)
noncomputable def Ig(b:Bool):Res Bool:=.ok (!b)
theorem KJ(a:En->Res Bool)(env:En):nk a env=(a env).bind Ig:=(rfl)
def GT(b:Bool):Ig b=.ok (!b):=(rfl)
noncomputable def DM(b:En->Res Bool)(env:En)(k:Bool):Res Bool:=if k then b env else .ok false
noncomputable def KL(b:En->Res Bool)(env:En)(k:Bool):Res Bool:=if k then .ok true else b env
theorem KM(a b:En->Res Bool)(env:En):h_ a b env=(a env).bind (DM b env):=(rfl)
theorem N7(a b:En->Res Bool)(env:En):rZ a b env=(a env).bind (KL b env):=(rfl)
theorem KN(b:En->Res Bool)(env:En):DM b env true=b env:=(rfl)
theorem KO(b:En->Res Bool)(env:En):DM b env false=.ok false:=(rfl)
theorem N8(b:En->Res Bool)(env:En):KL b env true=.ok true:=(rfl)
theorem N9(b:En->Res Bool)(env:En):KL b env false=b env:=(rfl)
def DN(b:En->Res R)(env:En)(ra:R):Res R:=match ra.d with
 |.bl true=>b env
 |.bl false=>.ok (.val (.bl false) true [])
 |_=>.stuck
theorem KP(a b:En->Res R)(env:En):CS a b env=(a env).bind (DN b env):=(rfl)
theorem GU(b:En->Res R)(env:En):DN b env (.val (.bl true) f al)=b env:=(rfl)
theorem GV(b:En->Res R)(env:En):DN b env (.val (.bl false) f al)=.ok (.val (.bl false) true []):=(rfl)
def KQ(b:En->Res R)(env:En)(ra:R):Res R:=match ra.d with
 |.bl true=>.ok (.val (.bl true) true [])
 |.bl false=>b env
 |_=>.stuck
theorem N_(a b:En->Res R)(env:En):Qz a b env=(a env).bind (KQ b env):=(rfl)
theorem KR(b:En->Res R)(env:En):KQ b env (.val (.bl true) f al)=.ok (.val (.bl true) true []):=(rfl)
theorem KS(b:En->Res R)(env:En):KQ b env (.val (.bl false) f al)=b env:=(rfl)
def Ih(ra:R):Res R:=match ra.d with
 |.bl b=>.ok (.val (.bl (!b)) true [])
 |_=>.stuck
theorem KU(a:En->Res R)(env:En):J1 a env=(a env).bind Ih:=(rfl)
def KW(b:Bool):Ih (.val (.bl b) f al)=.ok (.val (.bl (!b)) true []):=(rfl)
def Ii(f:Bool)(al:List Nat):Option D->Res R
 |some d=>.ok (l6 d f al)
 |none=>.stuck
def oP(a b:D)(f:Bool)(al:List Nat):Res R:=match a,b with
 |.lst xs,.int i=>Ii f al (bI xs i)
 |.tup xs,.int i=>Ii f al (bI xs i)
 |.str z,.int i=>if z.length<=lim then(match bI z.cps.toList i with
  |some c=>.ok (.val (.str ⟨#[c]⟩) true [])
  |none=>.stuck)else .stuck
 |_,_=>.stuck
def QS(a b:R):l7 a b=oP a.d b.d a.fr a.al:=by unfold l7 oP Ii;rfl
def Oa:oP (.lst ds) (.int k) f al=Ii f al (bI ds k):=(rfl)
def Ob:oP (.tup ds) (.int k) f al=Ii f al (bI ds k):=(rfl)
def Oc:Ii f al (some d)=.ok (l6 d f al):=(rfl)
def GW(ds:List D)(fr:Bool)(rb:R):Res R:=match rb.d with
 |.int k=>match bI ds k with
  |some d=>.ok (l6 d fr [])
  |none=>.stuck
 |_=>.stuck
def DO(i:Nat)(fb:En->Res R)(env:En):Option (Option Sl)->Res R
 |some (some (.own ds fr))=>(fb env).bind (GW ds fr)
 |_=>v2 l7 (ak i) fb env
theorem Od(i:Nat)(fb:En->Res R)(env:En):aR i fb env=DO i fb env env[i]?:=by unfold aR DO;rfl
def KY(fb:En->Res R):DO i fb env (some (some (.own ds f)))=(fb env).bind (GW ds f):=(rfl)
def KZ(fb:En->Res R):DO i fb env (some (some (.val d f)))=v2 l7 (ak i) fb env:=(rfl)
def K1:GW ds f (.val (.int k) g al)=Ii f [] (bI ds k):=by unfold GW Ii;rfl
def Rk{α:Type}(a:α)(l:List α):bI (a::l) 0=some a:=by unfold bI pZ;rw[dL (by lia),dL (by simp)];rfl
def RT{α:Type}(a b:α)(l:List α):bI (a::b::l) 1=some b:=by unfold bI pZ;rw[dL (by lia),dL (by simp;lia)];rfl
def RU{α:Type}(a b c:α)(l:List α):bI (a::b::c::l) 2=some c:=by unfold bI pZ;rw[dL (by lia),dL (by simp;lia)];rfl
def kO(r:R):Res (Option Int):=match r.d with
 |.int i=>.ok (some i)
 |_=>.stuck
theorem GX(env:En):d7 env=.ok none:=(rfl)
theorem GY(a:En->Res R)(env:En):dw a env=(a env).bind kO:=(rfl)
def QT:kO (.val (.int x) f al)=.ok (some x):=(rfl)
def Oe(T:String)(r:R):Res R:=.ok (.val (.bl (Af T r.d)) true [])
theorem Of(T:String)(a:En->Res R)(env:En):oJ T a env=(a env).bind (Oe T):=(rfl)
def K2(T:String)(r:R):Oe T r=.ok (.val (.bl (Af T r.d)) true []):=(rfl)
def DP:Af "int" (.int x)=true:=(rfl)
def K3:Af "bool" (.int x)=false:=(rfl)
def K4:Af "list" (.lst ds)=true:=(rfl)
def K5:Af "tuple" (.tup ds)=true:=(rfl)
def Og(asg:D->Bool->En->Option En)(body:En->Res Fl)(env:En)(s:Src):Res Fl:=de asg s.fr body s.xs (dr env s.al)
theorem Oh(src:En->Res Src)(asg:D->Bool->En->Option En)(body:En->Res Fl)(env:En):ml src asg body env=(src env).bind (Og asg body env):=(rfl)
theorem K6(asg:D->Bool->En->Option En)(body:En->Res Fl)(env:En)(xs:List D):Og asg body env ⟨xs,f,al⟩=de asg f body xs (dr env al):=(rfl)
def GZ(r:R):Res Src:=match r.d with
 |.lst ds=>.ok ⟨ds,r.fr,r.al⟩
 |.tup ds=>.ok ⟨ds,r.fr,r.al⟩
 |_=>.stuck
theorem K7(a:En->Res R)(env:En):nn a env=(a env).bind GZ:=(rfl)
def DQ:GZ (.val (.lst ds) f al)=.ok ⟨ds,f,al⟩:=(rfl)
def DR:GZ (.val (.tup ds) f al)=.ok ⟨ds,f,al⟩:=(rfl)
def G0:GZ (.new ds f)=.ok ⟨ds,f,[]⟩:=(rfl)
def Rp(rs:List R):Res Src:=match rs.map R.d with
 |[.int j]=>if cR j then .ok ⟨jo 0 j.toNat,true,[]⟩else .stuck
 |_=>.stuck
theorem Oi(fs:En->Res (List R))(env:En):HY fs env=(fs env).bind Rp:=(rfl)
def DS(h1:-4611686018427387904<=x)(h2:x<4611686018427387904):cR x=true:=by unfold cR;rw[cH];exact⟨dM (by lia),dM (by lia)⟩
def nB(h1:-4611686018427387904<=x)(h2:x<4611686018427387904):Rp [.val (.int x) f al]=.ok ⟨jo 0 x.toNat,true,[]⟩:=dL (DS h1 h2)
def Rr(rs:List R):Res Src:=match rs.map R.d with
 |[.int i,.int j]=>if cR i&&cR j then .ok ⟨jo i (j-i).toNat,true,[]⟩else .stuck
 |_=>.stuck
theorem Oj(fs:En->Res (List R))(env:En):QB fs env=(fs env).bind Rr:=(rfl)
def Ol(h1:-4611686018427387904<=x)(h2:x<4611686018427387904)(h3:-4611686018427387904<=y)(h4:y<4611686018427387904):Rr [.val (.int x) f al,.val (.int y) g bl]=.ok ⟨jo x (y-x).toNat,true,[]⟩:=by show(if(cR x&&cR y)=true then _ else _)=_;rw[dL (by rw[DS h1 h2,DS h3 h4];rfl)]
def Ij(rs:List R):Res Src:=match rs with
 |[r]=>match r.d with
  |.lst ds=>.ok ⟨iH 0 ds,r.fr,r.al⟩
  |_=>.stuck
 |_=>.stuck
theorem G1(fs:En->Res (List R))(env:En):xG fs env=(fs env).bind Ij:=(rfl)
def DT:Ij [.val (.lst ds) f al]=.ok ⟨iH 0 ds,f,al⟩:=(rfl)
def tO:dr env []=env:=(rfl)
def xZ(n:Nat)(caps:List Nat)(asg:D->Bool->En->Option En)(test:En->Res Bool)(elt:En->Res R)(env:En)(s:Src):Res R:=if s.xs.length<=lim then
 (cy (λd=>asg d s.fr (c_ env n caps)) test elt s.xs).P3.bind λrs=>.ok (pU (rs.map R.d) (bF rs) (s.al++caps.filter (fq env)))else .stuck
theorem K8(n:Nat)(caps:List Nat)(src:En->Res Src)(asg:D->Bool->En->Option En)(test:En->Res Bool)(elt:En->Res R)(env:En) :
 gU n caps src asg test elt env=(src env).bind (xZ n caps asg test elt env):=(rfl)
def bZ(hl:xs.length<=1000000)
 (h:cy (λd=>asg d f (c_ env n caps)) test elt xs=.ok rs):xZ n caps asg test elt env ⟨xs,f,al⟩=.ok (pU (rs.map R.d) (bF rs) (al++caps.filter (fq env))):=by
 unfold xZ;dsimp only;rw[dL (show xs.length<=lim from hl),h];rfl
theorem bX{α:Type}{mk:D->Option En}{test:En->Res Bool}{elt:En->Res R}(g:α->D)(k:α->R):∀(xs:List α),(∀a∈xs,∃e,mk (g a)=some e/\test e=.ok true/\elt e=.ok (k a))->cy mk test elt (xs.map g)=.ok (xs.map k)
 |[],_=>rfl
 |a::r,h=>by obtain⟨e,h1,h2,h3⟩:=h a (by simp);rw[c7,c7];unfold cy;rw[h1];dsimp only;rw[h2];dsimp only[Res.bind];rw[dL rfl,h3,bX g k r λb hb=>h b (by simp[hb])]
theorem lc{α:Type}{mk:D->Option En}{test:En->Res Bool}{elt:En->Res R}(g:α->D)(p:α->Bool)(k:α->R):∀(xs:List α),(∀a∈xs,∃e,mk (g a)=some e/\test e=.ok (p a)/\(p a=true->elt e=.ok (k a)))->cy mk test elt (xs.map g)=.ok ((xs.filter p).map k)
 |[],_=>rfl
 |a::r,h=>by
  obtain⟨e,h1,h2,h3⟩:=h a (by simp);rw[c7];unfold cy;rw[h1];dsimp only;rw[h2];dsimp only[Res.bind];have ih:=lc g p k r λb hb=>h b (by simp[hb]);cases hp:p a with
  |true=>rw[dL rfl,h3 hp,Tr,dL hp,ih];rfl
  |false=>rw[f7 (by simp),Tr,f7 (by rw[hp];simp),ih]
def DU(i:Nat)(env:En)(ds:List D)(fr:Bool)(r:R):Res Fl:=if ds.length<lim/\¬i∈r.al then .ok (.nx ((dr env r.al).set i (some (.own (ds++[r.d]) (fr&&r.fr)))))else .stuck
def DV(i:Nat)(a:En->Res R)(env:En):Option (Option Sl)->Res Fl
 |some (some (.own ds fr))=>(a env).bind (DU i env ds fr)
 |some (some (.pW (.lst ds)))=>(a env).bind (DU i env ds true)
 |_=>.stuck
theorem Om(a:En->Res R)(env:En):vX i a env=DV i a env env[i]?:=by
 unfold vX lF DV;cases env[i]? with
 |none=>rfl
 |some o=>cases o with
  |none=>rfl
  |some s=>cases s with
   |pW d=>cases d<;>rfl
   |_=>rfl
def K9(a:En->Res R):DV i a env (some (some (.own ds f)))=(a env).bind (DU i env ds f):=(rfl)
def n_(h:ds.length<1000000)(hr:r.al=[]):DU i env ds f r=.ok (.nx (env.set i (some (.own (ds++[r.d]) (f&&r.fr))))):=by unfold DU;rw[hr];rw[dL ⟨h,by simp⟩];rfl
end
def tP(x:Int):(D.int x).flat=true:=(rfl)
def G2(x:Bool):(D.bl x).flat=true:=(rfl)
def mx(x:Str):(D.str x).flat=true:=(rfl)
def DW:D.gP.flat=true:=(rfl)
def kg(ds:List D):(D.tup ds).flat=D.aL ds:=(rfl)
def my(ds:List D):(D.lst ds).flat=false:=(rfl)
def BG:D.aL []=true:=(rfl)
def a_(d:D)(ds:List D):D.aL (d::ds)=(d.flat&&D.aL ds):=(rfl)
def G3(x:Int):(D.int x).dep=0:=(rfl)
def G4(x:Str):(D.str x).dep=0:=(rfl)
def Ar(ds:List D):(D.tup ds).dep=D.iS ds+1:=(rfl)
def x0:D.iS []=0:=(rfl)
def vw(d:D)(ds:List D):D.iS (d::ds)=max d.dep (D.iS ds):=(rfl)
def K_(r:R):sZ (.ok (.rt r))=.ok r:=(rfl)
def G5(d:D)(f:Bool)(al:List Nat):(R.val d f al).d=d:=(rfl)
def G6(ds:List D)(f:Bool):(R.new ds f).d=.lst ds:=(rfl)
def G7(d:D):(R.sy d).d=d:=(rfl)
def DX(d:D)(f:Bool)(al:List Nat):(R.val d f al).fr=f:=(rfl)
def DY(ds:List D)(f:Bool):(R.new ds f).fr=f:=(rfl)
def DZ(d:D):(R.sy d).fr=true:=(rfl)
def D1(d:D)(f:Bool)(al:List Nat):(R.val d f al).al=al:=(rfl)
def D2(ds:List D)(f:Bool):(R.new ds f).al=[]:=(rfl)
def D6(d:D):(R.sy d).al=[]:=(rfl)
def jK{α β:Type}(a:α)(k:α->Res β):(Res.ok a).bind k=k a:=(rfl)
def G8:D->Res R
 |.lst ds=>match ia ds with
  |some bs=>.ok (.val (.bl (bs.all id)) true [])
  |none=>.stuck
 |_=>.stuck
def nE(r:R):xF [r]=G8 r.d:=by rcases r with⟨d,f,al⟩|⟨ds,f⟩|⟨d⟩<;>first|rfl|(cases d<;>rfl)
def m5{α:Type}(xs:List α):G8 (.lst (xs.map λ_=>D.bl true))=.ok (.val (.bl true) true []):=by
 have:∀xs:List α,ia (xs.map λ_=>D.bl true)=some (xs.map λ_=>true):=by
  intro xs;induction xs with
  |nil=>rfl
  |cons a r ih=>rw[c7];unfold ia;rw[ih];rfl
 show(match ia (xs.map λ_=>D.bl true)with|some bs=>Res.ok (R.val (D.bl (bs.all id)) true [])|none=>Res.stuck)=_;rw[this];dsimp only;congr 3;rw[c8];intro x hx;obtain⟨_,_,rfl⟩:=eR.mp hx;rfl
def v_(i:Nat)(env:En)(ds:List D)(fr:Bool)(fk:En->Res R)(r:R):Res Fl:=(fk env).bind λk=>match k.d with
 |.int z=>match pZ ds.length z with
  |some j=>if ¬i∈r.al then .ok (.nx ((dr env r.al).set i (some (.own (ds.set j r.d) (fr&&r.fr)))))else .stuck
  |none=>.stuck
 |_=>.stuck
def zn(i:Nat)(env:En)(ds:List D)(fr:Bool)(r k:R):Res Fl:=match k.d with
 |.int z=>match pZ ds.length z with
  |some j=>if ¬i∈r.al then .ok (.nx ((dr env r.al).set i (some (.own (ds.set j r.d) (fr&&r.fr)))))else .stuck
  |none=>.stuck
 |_=>.stuck
def zp(i:Nat)(fk fv:En->Res R)(env:En):Option (Option Sl)->Res Fl
 |some (some (.own ds fr))=>(fv env).bind (v_ i env ds fr fk)
 |some (some (.pW (.lst ds)))=>(fv env).bind (v_ i env ds true fk)
 |_=>.stuck
def D7(i:Nat)(fk fv:En->Res R)(env:En):tj i fk fv env=zp i fk fv env env[i]?:=by
 unfold tj lF zp;cases env[i]? with
 |none=>rfl
 |some o=>cases o with
  |none=>rfl
  |some s=>cases s with
   |pW d=>cases d<;>rfl
   |_=>rfl
def As:zp i fk fv env (some (some (.own ds f)))=(fv env).bind (v_ i env ds f fk):=(rfl)
def x8(i:Nat)(env:En)(ds:List D)(fr:Bool)(fk:En->Res R)(r:R):v_ i env ds fr fk r=(fk env).bind (zn i env ds fr r):=(rfl)
def D8(h:pZ ds.length z=some j):zn i env ds fr (.val d g []) (.val (.int z) f2 al)=.ok (.nx (env.set i (some (.own (ds.set j d) (fr&&g))))):=by unfold zn;dsimp only[R.Pw];rw[h];rfl
def RV:((0:Nat):Int)=0:=(rfl)
def RX:((1:Nat):Int)=1:=(rfl)
def RY:((2:Nat):Int)=2:=(rfl)
def RZ:((3:Nat):Int)=3:=(rfl)
def R0:((4:Nat):Int)=4:=(rfl)
def On{α β:Type}(c:Str)(k:α->Res β):(Res.exc c:Res α).bind k=.exc c:=(rfl)
def G9(c:Str):sZ (.exc c)=.exc c:=(rfl)
def D9(c:Str)(rs:List R):Res Fl:=if rs.length<=lim then .exc c else .stuck
def G_(c:Str)(fs:En->Res (List R))(env:En):gb c fs env=(fs env).bind (D9 c):=(rfl)
def D_(h:rs.length<=1000000):D9 c rs=.exc c:=dL h
noncomputable def QU:D->Res R
 |.int i=>.ok (.val (.int (-i)) true [])
 |_=>.stuck
def Oo(r:R):Res R:=QU r.d
def Oq(fa:En->Res R)(env:En):xJ fa env=(fa env).bind Oo:=by unfold xJ;congr 1
def La:Oo (.val (.int x) f al)=.ok (.val (.int (-x)) true []):=(rfl)
def Ea:Gq [.val (.int x) f al,.val (.int y) g bl]=.ok (.val (.int (if y<x then y else x)) true []):=(rfl)
def qB(neg:Bool)(a b:D):Res R:=match b with
 |.j7 ks _=>C_ neg a ks
 |.lst ds=>B6 neg a ds
 |.tup ds=>B6 neg a ds
 |_=>.stuck
def Ik(neg:Bool)(a b:R):Bu neg a b=qB neg a.d b.d:=by unfold Bu zc qB;cases b.d<;>rfl
def QV(a b:R):tu a b=qB false a.d b.d:=Ik false a b
def wa(a b:R):gV a b=qB true a.d b.d:=Ik true a b
def Eb(i:Nat)(fk fv:En->Res R)(env:En):xP i fk fv env=v5 i fk fv env env[i]?:=(rfl)
def Au:v5 i fk fv env (some (some (.own ds f)))=tj i fk fv env:=(rfl)
def Il(i:Nat)(env:En)(r:R):Res Fl:=if i<env.length then .ok (.nx ((dr env r.al).set i (some (.val r.d r.fr))))else .stuck
def Lb(i:Nat)(a:En->Res R)(env:En):dy i a env=(a env).bind (Il i env):=(rfl)
def jN(h:i<env.length):Il i env r=.ok (.nx ((dr env r.al).set i (some (.val r.d r.fr)))):=dL h
def wb(a b:R):Ai [a,b]=Gq [a,b]:=(rfl)
def Im(fl fh:En->Res (Option Int))(env:En)(r:R):Res R:=(fl env).bind λlo=>(fh env).bind λhi=>nw r lo hi
def Ip(fh:En->Res (Option Int))(env:En)(r:R)(lo:Option Int):Res R:=(fh env).bind λhi=>nw r lo hi
def Ec(fa:En->Res R)(fl fh:En->Res (Option Int))(env:En):bG fa fl fh env=(fa env).bind (Im fl fh env):=(rfl)
def Hb(fl fh:En->Res (Option Int))(env:En)(r:R):Im fl fh env r=(fl env).bind (Ip fh env r):=(rfl)
def Hc(fh:En->Res (Option Int))(env:En)(r:R)(lo:Option Int):Ip fh env r lo=(fh env).bind (nw r lo):=(rfl)
def Hd(lo hi:Option Int):nw (.val (.lst ds) f al) lo hi=.ok (pU (dN ds lo hi) f al):=(rfl)
def He(lo hi:Option Int):nw (.val (.tup ds) f al) lo hi=.ok (l6 (.tup (dN ds lo hi)) f al):=(rfl)
def Hf(lo hi:Option Int)(h:z.length<=1000000):nw (.val (.str z) f al) lo hi=.ok (.val (.str (Txt.slice z lo hi)) true []):=dL h
def Hg:Gw (.val (.int 10) f al) (.val (.int 60) g bl)=.ok (.val (.int 1000000000000000000000000000000000000000000000000000000000000) true []):=(rfl)
def Os(i:Nat)(env:En)(s:Src):Res Fl:=if s.xs.length<=lim/\i<env.length then .ok (.nx (env.set i (some (.lz (.lst (s.xs.map λ_=>.lst []))))))else .stuck
def Ot(i:Nat)(src:En->Res Src)(env:En):Gx i src env=(src env).bind (Os i env):=(rfl)
def Lc(h:xs.length<=1000000)(h2:i<env.length):Os i env ⟨xs,f,al⟩=.ok (.nx (env.set i (some (.lz (.lst (xs.map λ_=>.lst [])))))):=dL ⟨h,h2⟩
def tQ(i:Nat)(fe fv:En->Res R)(env:En):Option (Option Sl)->Res Fl
 |some (some (.lz (.lst ds)))=>(fe env).bind (kf i fv env ds)
 |_=>.stuck
def Ed(i:Nat)(fe fv:En->Res R)(env:En):oM i fe fv env=tQ i fe fv env env[i]?:=by unfold oM tQ;rfl
def zq:tQ i fe fv env (some (some (.lz (.lst ds))))=(fe env).bind (kf i fv env ds):=(rfl)
def zr(h:pZ ds.length k=some j)(h2:ds[j]?=some (.lst es)):kf i fv env ds (.val (.int k) f al)=(fv env).bind (mq i env ds j es):=by show oK i fv env ds (pZ ds.length k)=_;rw[h];unfold oK;dsimp only;rw[h2]
def zt(h:r.d.flat=true)(h2:es.length<1000000)(h3:ds.all mY=true):mq i env ds j es r=.ok (.nx (env.set i (some (.lz (.lst (ds.set j (.lst (es++[r.d])))))))):=dL ⟨h,h2,h3⟩
def Hh(fs:En->Res (List R))(env:En):tD fs env=(fs env).bind vn:=(rfl)
def Ee:vn [.val (.lst ds) f al,.val (.lst es) g bl]=.ok ⟨i_ ds es,f&&g,al++bl⟩:=(rfl)
def Ef:vn [.val (.tup ds) f al,.val (.tup es) g bl]=.ok ⟨i_ ds es,f&&g,al++bl⟩:=(rfl)
def Eg:DO i fb env (some (some (.lz d)))=v2 l7 (ak i) fb env:=(rfl)
def Eh(fo fa:En->Res R)(env:En):GA fo fa env=(fo env).bind (vo fa env):=(rfl)
def Ei(fa:En->Res R)(env:En):D->Res R
 |.lst ds=>(fa env).bind (xS ds)
 |_=>.stuck
def wc(fa:En->Res R)(env:En)(ra:R):vo fa env ra=Ei fa env ra.d:=by unfold vo Ei;rfl
def Ou(kvs:List (Str×Int))(f:En->Res R)(env:En):GC kvs f env=(f env).bind (GB kvs):=(rfl)
def Ej(h:jp kvs k=some v):GB kvs (.val (.str k) f al)=.ok (.val (.int v) true []):=by show(match jp kvs k with|some v=>(Res.ok (R.val (.int v) true []):Res R)|none=>.stuck)=_;rw[h]
end L3
local macro_rules|`(tactic| simp_arith[$as,*] $[$l:location]?)=>do
 let ls←("L3.fy L3.n5 L3.Eh L3.wc L3.Ou L3.Ej L3.Eg L3.GL L3.Ec L3.Hb L3.Hc L3.Hd L3.He L3.Hf L3.Hg L3.Ot L3.Lc L3.Ed L3.zq L3.Hh L3.Ee L3.Ef L3.N_ L3.KR L3.KS L3.Lb L3.jN L3.wb decide_true decide_false List.map_cons List.map_nil List.length_cons List.length_nil List.replicate List.cons_append List.nil_append List.append_nil Nat.reduceAdd Nat.max_self Nat.zero_max Nat.max_zero Nat.zero_add Nat.reduceSub L3.xX L3.NQ L3.QM L3.NV L3.NR L3.NS L3.NT L3.NU L3.Kx L3.Ky L3.tP L3.G2 L3.mx L3.DW L3.kg L3.my L3.BG L3.a_ L3.G3 L3.G4 L3.Ar L3.x0 L3.vw L3.RS L3.jK List.getElem?_cons_zero List.getElem?_cons_succ L3.NZ L3.N0 L3.NW L3.NY L3.Kz Int.reduceLT Int.reduceLE Int.reduceNeg L3.Ku L3.Kv L3.Kw L3.QK L3.QL List.set_cons_zero List.set_cons_succ Nat.reduceLT Nat.reduceLeDiff L3.zl L3.NK L3.NL L3.NM L3.NO L3.Kt L3.QN L3.DC L3.QO L3.aY L3.GN L3.GO L3.GP L3.KA L3.GQ L3.GR L3.DE L3.N2 L3.KB L3.N4 L3.KC L3.DF L3.vv L3.DG L3.BF L3.KD L3.GS L3.DI L3.DJ L3.mw L3.xY L3.tM L3.QP L3.N5 L3.KF L3.KG L3.QQ L3.QR L3.KH L3.KI L3.KJ L3.GT L3.KM L3.N7 L3.KN L3.KO L3.N8 L3.N9 L3.KP L3.GU L3.GV L3.KU L3.KW L3.QS L3.Oa L3.Ob L3.Oc L3.Od L3.KY L3.KZ L3.K1 L3.Rk L3.RT L3.RU L3.GX L3.GY L3.QT L3.Of L3.K2 L3.DP L3.K3 L3.K4 L3.K5 L3.Oh L3.K6 L3.K7 L3.DQ L3.DR L3.G0 L3.Oi L3.Oj L3.G1 L3.DT L3.tO L3.On L3.G9 L3.G_ L3.D_ L3.Oq L3.La L3.Ea L3.RV L3.RX L3.RY L3.RZ L3.R0 Int.reduceBEq L3.nE L3.D7 L3.As L3.x8 Bool.not_not Nat.reduceEqDiff L3.K8 L3.Om L3.K9 L3.G5 L3.G6 L3.G7 L3.DX L3.DY L3.DZ L3.D1 L3.D2 L3.D6 Bool.and_true Bool.true_and Bool.and_false Bool.false_and Bool.and_self Bool.not_true Bool.not_false L3.K_ L3.bO L3.sh L3.QV L3.wa L3.Eb L3.Au".splitOn " ").toArray.mapM λs=>`(Lean.Parser.Tactic.simpLemma| $(Lean.mkIdent s.toName):ident)
 `(tactic| simp only[$[$ls:simpLemma],*,$as,*] $[$l]?)
local macro_rules|`(tactic| simp_arith $[$l:location]?)=>`(tactic| simp_arith[L3.jK] $[$l]?)
namespace L3
open PySem L2
def x9(d:D)(f:Bool)(al:List Nat):(l6 d f al).d=d:=by unfold l6;split<;>rfl
def Ek{α β:Type}(g:α->β)(xs:List α)(lo hi:Option Int):dN (xs.map g) lo hi=(dN xs lo hi).map g:=by unfold dN;rw[cc,List.map_take,List.map_drop]
def El{α:Type}(xs:List α):dN xs (some 1) none=xs.tail:=by
 unfold dN;have h1:HT.sIx xs.length 0 (some 1)=min 1 xs.length:=HT.sIx_nat xs.length 0 1;have h2:HT.sIx xs.length xs.length none=xs.length:=rfl;rw[h1,h2];cases xs with
 |nil=>rfl
 |cons a r=>
  have:min 1 (a::r).length=1:=by simp
  rw[this];simp
def fA:(∀d∈ds,d.flat=true)->D.aL ds=true:=by
 induction ds with
 |nil=>intro _;rfl
 |cons d r ih=>intro h;rw[a_,h d (by simp),ih λx hx=>h x (by simp[hx])];rfl
def aX{α:Type}(g:α->D)(xs:List α)(h:∀a,(g a).flat=true):D.aL (xs.map g)=true:=fA λd hd=>by obtain⟨a,_,rfl⟩:=eR.mp hd;exact h a
def jq(xs:List Int):D.aL (xs.map D.int)=true:=aX _ _ tP
def Av:(∀d∈ds,d.dep<=n)->D.iS ds<=n:=by
 induction ds with
 |nil=>intro _;rw[x0];lia
 |cons d r ih=>intro h;have h1:=h d (by simp);have h2:=ih λx hx=>h x (by simp[hx]);rw[vw];lia
def x_{α:Type}{g:α->D}{xs:List α}{n:Nat}(h:∀a,(g a).dep<=n):D.iS (xs.map g)<=n:=Av λd hd=>by obtain⟨a,_,rfl⟩:=eR.mp hd;exact h a
def tR{α:Type}(g:α->D)(xs:List α):bF (xs.map λa=>.val (g a) true [])=true:=by unfold bF;rw[c8];intro r h;obtain⟨a,_,rfl⟩:=eR.mp h;rfl
def fC{α:Type}(g:α->D)(fr:Bool)(al:List Nat)(xs:List α):(xs.map λa=>R.val (g a) fr al).map R.d=xs.map g:=by rw[iA];rfl
theorem m6{α:Type}(g:α->D):∀(xs:List α)(n:Nat),iH n (xs.map g)=(xs.zipIdx n).map λp=>.tup [.int (p.2:Nat),g p.1]
 |[],_=>rfl
 |a::r,n=>by rw[c7,Tq,c7];unfold iH;rw[m6 g r (n+1)]
def iD(n:Nat):jo 0 n=(List.range n).map λk=>.int (k:Nat):=by unfold jo;congr 1;funext k;simp
theorem ya{α:Type}(g:α->D){asg:D->Bool->En->Option En}{fr:Bool}{body:En->Res Fl}(P:List α->En->Prop):∀(xs pre:List α)(env:En),P pre env->
 (∀(pre post:List α)(a:α)(env:En),(∀b∈pre,b∈pre)->P pre env->a∈xs->∃ip env2,asg (g a) fr env=some ip/\body ip=.ok (.nx env2)/\P (pre++[a]) env2)->
 ∃bn,de asg fr body (xs.map g) env=.ok (.nx bn)/\P (pre++xs) bn
 |[],pre,env,h,_=>⟨env,rfl,by rw[lT];exact h⟩
 |a::r,pre,env,h,st=>by obtain⟨ip,env2,h1,h2,h3⟩:=st pre [] a env (λ_ z=>z) h (by simp);obtain⟨bn,e1,e2⟩:=ya g P r (pre++[a]) env2 h3 λp q b e z hp hb=>st p q b e z hp (by simp[hb]);refine⟨bn,?_,by rw[kI]at e2;exact e2⟩;rw[c7];unfold de;rw[h1];dsimp only;rw[h2];exact e1
theorem lf{α:Type}(g:α->D){asg:D->Bool->En->Option En}{fr:Bool}{body:En->Res Fl}(all:List α)(P:List α->En->Prop):∀(xs pre:List α)(env:En),all=pre++xs->P pre env->
 (∀(pre post:List α)(a:α)(env:En),all=pre++a::post->P pre env->∃ip env2,asg (g a) fr env=some ip/\body ip=.ok (.nx env2)/\P (pre++[a]) env2)->
 ∃bn,de asg fr body (xs.map g) env=.ok (.nx bn)/\P all bn
 |[],pre,env,e,h,_=>⟨env,rfl,by rw[e,lT];exact h⟩
 |a::r,pre,env,e,h,st=>by obtain⟨ip,env2,h1,h2,h3⟩:=st pre r a env e h;obtain⟨bn,e1,e2⟩:=lf g all P r (pre++[a]) env2 (by rw[e];simp) h3 st;refine⟨bn,?_,e2⟩;rw[c7];unfold de;rw[h1];dsimp only;rw[h2];exact e1
def m7{α β:Type}(g:α->β)(xs:List α)(k:Int):bI (xs.map g) k=(bI xs k).map g:=by
 unfold bI;rw[cc];cases pZ xs.length k with
 |none=>rfl
 |some j=>simp
def mz{α:Type}{xs:List α}{k:Int}(h0:0<=k)(h:k<xs.length):∃a,bI xs k=some a/\xs[k.toNat]?=some a:=by
 unfold bI pZ;rw[dL h0,dL h];have:k.toNat<xs.length:=by lia
 exact⟨xs[k.toNat],by simp[this],by simp[this]⟩
structure Rl where
 room:Int
 sign:Int
 to:Int
 put:List Int
def Rl.d(r:Rl):D:=.tup [.int r.room,.int r.sign,.int r.to,.tup (r.put.map .int)]
end L3
namespace W
open PySem PySem.Spec PyProof.Rows L2 L3
noncomputable def top(i:Nat):Stmt:=PySem.Challenge.pw_callwalk_k53_refused_programs.main.body.getD i (.Pass ⟨0,0,0,0⟩)
abbrev dz:Stmt:=top 23
noncomputable abbrev mB:List Str:=["_law_script","_law_k"]
noncomputable abbrev fE:List Str:=["_law_script","_law_k"]
def rP:aZ mB fE (ar dz):=⟨rfl,rfl,rfl,by decide +kernel,rfl,by decide +kernel,by decide +kernel⟩
def jr:En->Res Fl:=
 (aI (fj (vB (v2 PP (ak 1) (gy cr (ac (ak 0) au)))) (br (v2 xu (aR 0 (ak 1)) (v2 Gw (vC (.int 10)) (vC (.int 60))))) bw)
 (br (vC (.int 0))))
def dA:List D->Res R:=fy mB jr
abbrev fQ:Stmt:=top 24
noncomputable abbrev oQ:List Str:=["_law_cell","_law_prime","_law_many"]
noncomputable abbrev gW:List Str:=["_law_cell","_law_prime","_law_many"]
def uK:aZ oQ gW (ar fQ):=⟨rfl,rfl,rfl,by decide +kernel,rfl,by decide +kernel,by decide +kernel⟩
def oR:En->Res Fl:=(br (v2 xu (v2 xu (v2 bU (v2 xt (v2 xu (ak 0) (v2 Gw (vC (.int 10)) (vC (.int 60)))) (vC (.int 48271))) (vC (.int 11))) (ak 1)) (ak 2)))
def ay:List D->Res R:=fy oQ oR
abbrev dR:Stmt:=top 42
noncomputable abbrev lg:List Str:=["_law_cell","_law_names_here","_law_lot"]
noncomputable abbrev gX:List Str:=["_law_cell","_law_names_here"]
def sc__law_named:aZ lg gX (ar dR):=⟨rfl,rfl,rfl,by decide +kernel,rfl,by decide +kernel,by decide +kernel⟩
def qC:((["_law_name"]:List Str)++([]:List Str)).Nodup:=by decide +kernel
def gY:En->Res R:=λenv=>(v2 l7 (dt (ac (vC (.str "q")) (ac (ak 0) au))) (gy Gr (ac (v2 rY (ak 0) (vC (.str "main"))) au))) env
def dS:En->Res Fl:=
 (aI (dy 2 (aQ ay (ac (ak 0) (ac (vC (.int 1097)) (ac (vC (.int 9)) au)))))
 (aI (fj (vB (v2 ga (ak 2) (vC (.int 3)))) (br (v2 bU (bG (ak 1) d7 (dw (xJ (vC (.int 1))))) (Aq (aR 1 (vC (.int 0))) (v2 bU (vC (.int 1)) (gy Gr (ac (v2 ga (gy cr (ac (ak 1) au)) (vC (.int 1))) au)))))) bw)
 (aI (fj (vB (v2 ga (ak 2) (vC (.int 5)))) (br (gU 1 [] (nn (ak 1)) (gN 0) (λ_=>.ok true) gY)) bw)
 (br (ak 1)))))
def ce:List D->Res R:=fy lg dS
abbrev fR:Stmt:=top 25
noncomputable abbrev oS:List Str:=["_law_cell","_law_others","_law_size","_law_base","_law_k","_law_spot","_law_lot","_law_sign","_law_name","_law_at"]
noncomputable abbrev gZ:List Str:=["_law_cell"]
def sc__law_names:aZ oS gZ (ar fR):=⟨rfl,rfl,rfl,by decide +kernel,rfl,by decide +kernel,by decide +kernel⟩
def g9:En->Res Fl:=λenv=>(bN 3 (v2 bU (ak 3) (v2 l7 (vC (.str "abcdefghijklmnopqrstuvwxyz")) (aQ ay (ac (v2 bU (ak 0) (v2 xt (v2 xt (vC (.int 5)) (ak 4)) (ak 4))) (ac (vC (.int 1093)) (ac (vC (.int 26)) au))))))) env
def dC:En->Res Fl:=λenv=>
 (aI (bN 7 (v2 l7 (vC (.str "bcdefghjklopqrstuvwxyz")) (v2 xu (v2 bU (ak 0) (v2 xt (ak 4) (v2 bU (vC (.int 1)) (v2 xu (v2 JX (ak 0) (vC (.int 22))) (vC (.int 7)))))) (vC (.int 22)))))
 (aI (bN 8 (v2 bU (v2 bU (bG (ak 3) d7 (dw (ak 5))) (ak 7)) (bG (ak 3) (dw (v2 bU (ak 5) (vC (.int 1)))) d7)))
 (aI (fj (vB (v2 ga (ak 6) (vC (.int 2)))) (bN 8 (v2 bU (vC (.str "main")) (ak 7))) bw)
 (aI (fj (vB (v2 ga (ak 6) (vC (.int 3)))) (bN 8 (bG (vC (.str "main")) d7 (dw (v2 bU (vC (.int 1)) (ak 4))))) bw)
 (vX 1 (ak 8)))))) env
def oU:En->Res Fl:=
 (aI (bN 1 (dt au))
 (aI (bN 2 (v2 bU (vC (.int 1)) (aQ ay (ac (ak 0) (ac (vC (.int 1063)) (ac (vC (.int 8)) au))))))
 (aI (bN 3 (vC (.str "")))
 (aI (ml (HY (ac (ak 2) au)) (gN 4) g9)
 (aI (dy 5 (aQ ay (ac (ak 0) (ac (vC (.int 1069)) (ac (ak 2) au)))))
 (aI (dy 6 (aQ ay (ac (ak 0) (ac (vC (.int 1087)) (ac (vC (.int 4)) au)))))
 (aI (ml (HY (ac (aQ ay (ac (ak 0) (ac (vC (.int 1061)) (ac (vC (.int 4)) au)))) au)) (gN 4) dC)
 (aI (dy 9 (aQ ay (ac (ak 0) (ac (vC (.int 1091)) (ac (v2 bU (gy cr (ac (ak 1) au)) (vC (.int 1))) au)))))
 (br (v2 bU (v2 bU (bG (ak 1) d7 (dw (ak 9))) (dt (ac (vC (.str "main")) au))) (bG (ak 1) (dw (ak 9)) d7)))))))))))
def ja:List D->Res R:=fy oS oU
abbrev ig:Stmt:=top 26
noncomputable abbrev tS:List Str:=["_law_cell","_law_values","_law_many","_law_names_here","_law_last","_law_lot","_law_side","_law_which","_law_number","_law_goal"]
noncomputable abbrev js:List Str:=["_law_cell","_law_values","_law_many","_law_names_here","_law_last"]
def sc__law_row:aZ tS js (ar ig):=⟨rfl,rfl,rfl,by decide +kernel,rfl,by decide +kernel,by decide +kernel⟩
def uL:En->Res Fl:=λenv=>(br (gg (ac (vC (.str "skip")) au))) env
def uM:En->Res Fl:=λenv=>
 (aI (fj (vB (v2 Bi (ak 5) (vC (.int 10)))) (br (gg (ac (v2 l7 (dt (ac (vC (.str "back")) (ac (vC (.str "stop")) au))) (v2 sU (ak 5) (vC (.int 10)))) au))) bw)
 uL) env
def uN:En->Res Fl:=λenv=>
 (aI (fj (h_ (vB (v2 Bi (ak 5) (vC (.int 7)))) (vB (v2 uI (ak 5) (vC (.int 9))))) (br (gg (ac (v2 l7 (dt (ac (vC (.str "go")) (ac (vC (.str "fork")) (ac (vC (.str "fork")) au)))) (v2 sU (ak 5) (vC (.int 7)))) (ac (ak 9) au)))) bw)
 uM) env
def uO:En->Res Fl:=λenv=>
 (aI (fj (rZ (vB (v2 ga (ak 5) (vC (.int 5)))) (vB (v2 ga (ak 5) (vC (.int 6))))) (br (gg (ac (vC (.str "if")) (ac (ak 7) (ac (ak 8) (ac (ak 9) au)))))) bw)
 uN) env
def we:En->Res Fl:=λenv=>
 (aI (fj (rZ (vB (v2 ga (ak 5) (vC (.int 3)))) (vB (v2 ga (ak 5) (vC (.int 4))))) (br (gg (ac (v2 l7 (dt (ac (vC (.str "any")) (ac (vC (.str "turn")) au))) (v2 sU (ak 5) (vC (.int 3)))) (ac (ak 7) au)))) bw)
 uO) env
def wf:En->Res Fl:=λenv=>
 (aI (fj (rZ (vB (v2 ga (ak 5) (vC (.int 1)))) (vB (v2 ga (ak 5) (vC (.int 2))))) (br (gg (ac (vC (.str "set")) (ac (ak 7) (ac (ak 8) au))))) bw)
 we) env
def lh:En->Res Fl:=λenv=>
 (aI (fj (vB (v2 Bi (ak 5) (vC (.int 12)))) (br (gg (ac (vC (.str "call")) (ac (aR 3 (aQ ay (ac (ak 0) (ac (vC (.int 1031)) (ac (gy cr (ac (ak 3) au)) au))))) au)))) bw)
 wf) env
def oV:En->Res Fl:=λenv=>
 (aI (dy 9 (aQ ay (ac (ak 0) (ac (vC (.int 1021)) (ac (ak 2) au)))))
 lh) env
def oW:En->Res Fl:=λenv=>
 (aI (dy 8 (aQ ay (ac (ak 0) (ac (vC (.int 1019)) (ac (aR 1 (ak 6)) au)))))
 oV) env
def oX:En->Res Fl:=λenv=>
 (aI (bN 7 (v2 l7 (dt (ac (vC (.str "shared")) (ac (vC (.str "own")) au))) (ak 6)))
 oW) env
def li:En->Res Fl:=λenv=>
 (aI (dy 6 (aQ ay (ac (ak 0) (ac (vC (.int 1013)) (ac (vC (.int 2)) au)))))
 oX) env
def lj:En->Res Fl:=λenv=>
 (aI (fj (k_ (ak 4)) (bN 5 (v2 l7 (dt (ac (vC (.int 7)) (ac (vC (.int 10)) (ac (vC (.int 11)) au)))) (aQ ay (ac (ak 0) (ac (vC (.int 1009)) (ac (vC (.int 3)) au)))))) bw)
 li) env
def oa:En->Res Fl:=
 (aI (dy 5 (aQ ay (ac (ak 0) (ac (vC (.int 1009)) (ac (vC (.int 14)) au)))))
 lj)
def jt:List D->Res R:=fy tS oa
abbrev cU:Stmt:=top 31
noncomputable abbrev lH:List Str:=["_law_names_here","_law_name"]
noncomputable abbrev d8:List Str:=["_law_names_here"]
def sc__law_stranger:aZ lH d8 (ar cU):=⟨rfl,rfl,rfl,by decide +kernel,rfl,by decide +kernel,by decide +kernel⟩
def cm:En->Res Fl:=λenv=>(fj (vB (v2 gV (ak 1) (ak 0))) (br (ak 1)) bw) env
def iV:En->Res Fl:=
 (aI (ml (nn (dt (ac (vC (.str "mains")) (ac (vC (.str "mai")) (ac (vC (.str "o")) (ac (vC (.str "other")) (ac (vC (.str "zzzzzzzz")) (ac (vC (.str "maim")) au)))))))) (gN 1) cm)
 (br (vC (.str "nobody"))))
def d9:List D->Res R:=fy lH iV
abbrev cE:Stmt:=top 32
noncomputable abbrev kh:List Str:=["_law_cell","_law_values","_law_many","_law_names_here","_law_side","_law_which","_law_more","_law_lot"]
noncomputable abbrev dD:List Str:=["_law_cell","_law_values","_law_many","_law_names_here"]
def sc__law_wrong_row:aZ kh dD (ar cE):=⟨rfl,rfl,rfl,by decide +kernel,rfl,by decide +kernel,by decide +kernel⟩
def b8:En->Res Fl:=
 (aI (dy 4 (aQ ay (ac (ak 0) (ac (vC (.int 1013)) (ac (vC (.int 2)) au)))))
 (aI (bN 5 (v2 l7 (dt (ac (vC (.str "shared")) (ac (vC (.str "own")) au))) (ak 4)))
 (aI (bN 6 (v2 l7 (dt (ac (vC (.int 0)) (ac (vC (.int 1)) (ac (vC (.int 900)) au)))) (aQ ay (ac (ak 0) (ac (vC (.int 1019)) (ac (vC (.int 3)) au))))))
 (aI (dy 7 (aQ ay (ac (ak 0) (ac (vC (.int 1109)) (ac (vC (.int 6)) au)))))
 (aI (fj (vB (v2 ga (ak 7) (vC (.int 0)))) (br (gg (ac (vC (.str "call")) (ac (aQ d9 (ac (ak 3) au)) au)))) bw)
 (aI (fj (vB (v2 ga (ak 7) (vC (.int 1)))) (br (gg (ac (vC (.str "set")) (ac (ak 5) (ac (v2 bU (aR 1 (ak 4)) (ak 6)) au))))) bw)
 (aI (fj (vB (v2 ga (ak 7) (vC (.int 2)))) (br (gg (ac (v2 l7 (dt (ac (vC (.str "go")) (ac (vC (.str "fork")) au))) (ak 4)) (ac (v2 bU (ak 2) (ak 6)) au)))) bw)
 (aI (fj (vB (v2 ga (ak 7) (vC (.int 3)))) (br (gg (ac (vC (.str "if")) (ac (ak 5) (ac (v2 bU (aR 1 (ak 4)) (ak 6)) (ac (v2 bU (ak 2) (ak 6)) au)))))) bw)
 (aI (fj (vB (v2 ga (ak 7) (vC (.int 4)))) (br (gg (ac (vC (.str "if")) (ac (ak 5) (ac (vC (.int 0)) (ac (v2 bU (ak 2) (ak 6)) au)))))) bw)
 (br (gg (ac (vC (.str "skip")) au))))))))))))
def bE:List D->Res R:=fy kh b8
abbrev dU:Stmt:=top 33
noncomputable abbrev lm:List Str:=["_law_cells","_law_values","_law_names_here","_law_seed","_law_rare","_law_dealt","_law_cell","_law_procedures","_law_k","_law_name","_law_own","_law_rows","_law_at","_law_row_here"]
noncomputable abbrev g_:List Str:=["_law_cells","_law_values","_law_names_here","_law_seed"]
def sc__law_loose:aZ lm g_ (ar dU):=⟨rfl,rfl,rfl,by decide +kernel,rfl,by decide +kernel,by decide +kernel⟩
def qE:((["_law_name"]:List Str)++([]:List Str)).Nodup:=by decide +kernel
def hI:En->Res Fl:=λenv=>(oM 5 (aQ ay (ac (ak 6) (ac (vC (.int 1051)) (ac (gy cr (ac (ak 2) au)) au)))) (ak 6)) env
def dE:En->Res Fl:=λenv=>
 (aI (dy 13 (aQ jt (ac (ak 6) (ac (ak 1) (ac (gy cr (ac (ak 10) au)) (ac (ak 2) (ac (v2 ga (ak 12) (v2 sU (gy cr (ac (ak 10) au)) (vC (.int 1)))) au)))))))
 (aI (fj (vB (v2 ga (aQ ay (ac (ak 6) (ac (vC (.int 1117)) (ac (ak 4) au)))) (vC (.int 4)))) (dy 13 (aQ bE (ac (ak 6) (ac (ak 1) (ac (gy cr (ac (ak 10) au)) (ac (ak 2) au)))))) bw)
 (vX 11 (ak 13)))) env
def hJ:En->Res Fl:=λenv=>
 (aI (bN 10 (v2 bU (aR 5 (ak 8)) (dt (ac (v2 bU (ak 3) (v2 xt (v2 xt (vC (.int 7)) (ak 8)) (ak 8))) au))))
 (aI (bN 11 (dt au))
 (aI (ml (xG (ac (ak 10) au)) (gT 2 (aJ (gN 12) (aJ (gN 6) cg))) dE)
 (vX 7 (gg (ac (ak 9) (ac (ak 11) au))))))) env
def oY:En->Res Fl:=
 (aI (bN 4 (v2 l7 (dt (ac (vC (.int 9)) (ac (vC (.int 61)) au))) (aQ ay (ac (ak 3) (ac (vC (.int 1163)) (ac (vC (.int 2)) au))))))
 (aI (Gx 5 (nn (ak 2)))
 (aI (ml (nn (ak 0)) (gN 6) hI)
 (aI (bN 7 (dt au))
 (aI (ml (xG (ac (ak 2) au)) (gT 2 (aJ (gN 8) (aJ (gN 9) cg))) hJ)
 (br (gg (ac (aR 1 (vC (.int 0))) (ac (aR 1 (vC (.int 1))) (ac (ak 7) au))))))))))
def jb:List D->Res R:=fy lm oY
abbrev cG:Stmt:=top 37
noncomputable abbrev kj:List Str:=["_law_cell","_law_some"]
noncomputable abbrev dF:List Str:=["_law_cell"]
def sc__law_odd_first:aZ kj dF (ar cG):=⟨rfl,rfl,rfl,by decide +kernel,rfl,by decide +kernel,by decide +kernel⟩
def kq:En->Res Fl:=
 (aI (bN 1 (dt (ac (vC (.str "values 0 1")) (ac (vC (.str "values 1 5")) (ac (vC (.str "values 2")) (ac (vC (.str "values")) (ac (vC (.str "values 1 1 1")) (ac (vC (.str "value 1 1")) (ac (vC (.str "values 01 1")) (ac (vC (.str "values 1 -1")) au))))))))))
 (aI (bN 1 (v2 bU (ak 1) (dt (ac (vC (.str "values 10 1")) (ac (vC (.str "Values 1 1")) (ac (vC (.str "")) (ac (vC (.str "values x 1")) (ac (vC (.str "1 1")) (ac (vC (.str "values 1 1 ")) au)))))))))
 (br (aR 1 (aQ ay (ac (ak 0) (ac (vC (.int 1123)) (ac (vC (.int 14)) au))))))))
def ii:List D->Res R:=fy kj kq
abbrev dG:Stmt:=top 36
noncomputable abbrev mC:List Str:=["_law_cell","_law_some"]
noncomputable abbrev fG:List Str:=["_law_cell"]
def sc__law_odd_row:aZ mC fG (ar dG):=⟨rfl,rfl,rfl,by decide +kernel,rfl,by decide +kernel,by decide +kernel⟩
def mD:En->Res Fl:=
 (aI (bN 1 (dt (ac (vC (.str "")) (ac (vC (.str "skip 1")) (ac (vC (.str "skip ")) (ac (vC (.str "set own")) (ac (vC (.str "set 1")) (ac (vC (.str "set both 1")) (ac (vC (.str "set own 01")) (ac (vC (.str "set own 1000")) (ac (vC (.str "set shared -1")) au)))))))))))
 (aI (bN 1 (v2 bU (ak 1) (dt (ac (vC (.str "set shared x")) (ac (vC (.str "any")) (ac (vC (.str "any mine")) (ac (vC (.str "any own 1")) (ac (vC (.str "turn")) (ac (vC (.str "if own 1")) (ac (vC (.str "if own 1 2 3")) (ac (vC (.str "if own 01 2")) au)))))))))))
 (aI (bN 1 (v2 bU (ak 1) (dt (ac (vC (.str "if own 1 02")) (ac (vC (.str "if 1 2")) (ac (vC (.str "go")) (ac (vC (.str "go f")) (ac (vC (.str "go 00")) (ac (vC (.str "go 1 2")) (ac (vC (.str "fork")) (ac (vC (.str "fork 0001")) (ac (vC (.str "call")) (ac (vC (.str "call F")) au)))))))))))))
 (aI (bN 1 (v2 bU (ak 1) (dt (ac (vC (.str "call f1")) (ac (vC (.str "call abcdefghi")) (ac (vC (.str "call f f")) (ac (vC (.str "back 0")) (ac (vC (.str "stop 0")) (ac (vC (.str "Stop")) (ac (vC (.str "jump 1")) (ac (vC (.str "values 1 1")) (ac (vC (.str "go +1")) au))))))))))))
 (aI (bN 1 (v2 bU (ak 1) (dt (ac (vC (.str "1")) au))))
 (br (aR 1 (aQ ay (ac (ak 0) (ac (vC (.int 1123)) (ac (vC (.int 37)) au)))))))))))
def fH:List D->Res R:=fy mC mD
abbrev df:Stmt:=top 39
noncomputable abbrev jT:List Str:=["_law_program","_law_lot","_law_cell","_law_parts","_law_at","_law_k","_law_told","_law_head"]
noncomputable abbrev gh:List Str:=["_law_program","_law_lot","_law_cell"]
def sc__law_pieces:aZ jT gh (ar df):=⟨rfl,rfl,rfl,by decide +kernel,rfl,by decide +kernel,by decide +kernel⟩
def oZ:((["_law_row_here"]:List Str)++([]:List Str)).Nodup:=by decide +kernel
def o0:((["_law_word_here"]:List Str)++([]:List Str)).Nodup:=by decide +kernel
def iW:En->Res R:=λenv=>(gy uJ (ac (ak 0) au)) env
def cW:En->Res R:=λenv=>(xU (vC (.str " ")) (gU 1 [] (nn (ak 0)) (gN 0) (λ_=>.ok true) iW)) env
def gn:En->Res Fl:=λenv=>
 (aI (bN 6 (gU 1 [] (nn (v2 l7 (v2 l7 (aR 0 (vC (.int 2))) (ak 5)) (vC (.int 1)))) (gN 0) (λ_=>.ok true) cW))
 (aI (fj (h_ (vB (v2 ga (ak 1) (vC (.int 3)))) (vB (v2 ga (ak 5) (ak 4)))) (xP 6 (aQ ay (ac (ak 2) (ac (vC (.int 1151)) (ac (gy cr (ac (ak 6) au)) au)))) (aQ fH (ac (ak 2) au))) bw)
 (aI (bN 7 (v2 l7 (v2 l7 (aR 0 (vC (.int 2))) (ak 5)) (vC (.int 0))))
 (aI (fj (h_ (vB (v2 ga (ak 1) (vC (.int 5)))) (vB (v2 ga (ak 5) (ak 4)))) (bN 7 (v2 l7 (dt (ac (vC (.str "")) (ac (vC (.str "F")) (ac (vC (.str "f1")) (ac (vC (.str "abcdefghi")) (ac (vC (.str "f f")) (ac (vC (.str "main ")) (ac (vC (.str "1")) au)))))))) (aQ ay (ac (ak 2) (ac (vC (.int 1123)) (ac (vC (.int 7)) au)))))) bw)
 (vX 3 (v2 bU (v2 bU (ak 7) (vC (.str ": "))) (xU (vC (.str ", ")) (ak 6)))))))) env
def jU:En->Res Fl:=
 (aI (bN 3 (dt (ac (v2 bU (v2 bU (v2 bU (vC (.str "values ")) (gy uJ (ac (aR 0 (vC (.int 0))) au))) (vC (.str " "))) (gy uJ (ac (aR 0 (vC (.int 1))) au))) au)))
 (aI (fj (vB (v2 ga (ak 1) (vC (.int 4)))) (bN 3 (dt (ac (aQ ii (ac (ak 2) au)) au))) bw)
 (aI (dy 4 (aQ ay (ac (ak 2) (ac (vC (.int 1129)) (ac (gy cr (ac (aR 0 (vC (.int 2))) au)) au)))))
 (aI (ml (HY (ac (gy cr (ac (aR 0 (vC (.int 2))) au)) au)) (gN 5) gn)
 (br (xU (vC (.str "; ")) (ak 3)))))))
def gi:List D->Res R:=fy jT jU
abbrev cX:Stmt:=top 34
noncomputable abbrev lI:List Str:=["_law_program","_law_names_here","_law_rows","_law_at","_law_row_here"]
noncomputable abbrev d_:List Str:=["_law_program","_law_names_here","_law_rows","_law_at"]
def sc__law_row_word:aZ lI d_ (ar cX):=⟨rfl,rfl,rfl,by decide +kernel,rfl,by decide +kernel,by decide +kernel⟩
def iX:En->Res Fl:=
 (aI (bN 4 (aR 2 (ak 3)))
 (aI (fj (h_ (vB (v2 ga (aR 4 (vC (.int 0))) (vC (.str "call")))) (vB (v2 gV (aR 4 (vC (.int 1))) (ak 1)))) (br (vC (.str "name"))) bw)
 (aI (fj (rZ (vB (v2 ga (aR 4 (vC (.int 0))) (vC (.str "set")))) (vB (v2 ga (aR 4 (vC (.int 0))) (vC (.str "if"))))) (fj (vB (v2 Bi (aR 4 (vC (.int 2))) (v2 l7 (dt (ac (aR 0 (vC (.int 0))) (ac (aR 0 (vC (.int 1))) au))) (GA (dt (ac (vC (.str "shared")) (ac (vC (.str "own")) au))) (aR 4 (vC (.int 1))))))) (br (vC (.str "value"))) bw) bw)
 (aI (fj (rZ (vB (v2 ga (aR 4 (vC (.int 0))) (vC (.str "go")))) (rZ (vB (v2 ga (aR 4 (vC (.int 0))) (vC (.str "fork")))) (vB (v2 ga (aR 4 (vC (.int 0))) (vC (.str "if")))))) (fj (vB (v2 Bi (aR 4 (xJ (vC (.int 1)))) (gy cr (ac (ak 2) au)))) (br (vC (.str "row"))) bw) bw)
 (aI (fj (h_ (vB (v2 ga (ak 3) (v2 sU (gy cr (ac (ak 2) au)) (vC (.int 1))))) (h_ (vB (v2 rY (aR 4 (vC (.int 0))) (vC (.str "go")))) (h_ (vB (v2 rY (aR 4 (vC (.int 0))) (vC (.str "back")))) (vB (v2 rY (aR 4 (vC (.int 0))) (vC (.str "stop"))))))) (br (vC (.str "row"))) bw)
 (br (vC (.str "none"))))))))
def gp:List D->Res R:=fy lI iX
abbrev fJ:Stmt:=top 35
noncomputable abbrev mE:List Str:=["_law_program","_law_names_here","_law_k","_law_name","_law_rows","_law_at","_law_word_here"]
noncomputable abbrev iJ:List Str:=["_law_program"]
def sc__law_word:aZ mE iJ (ar fJ):=⟨rfl,rfl,rfl,by decide +kernel,rfl,by decide +kernel,by decide +kernel⟩
def lJ:((["_law_name","_law_rows"]:List Str)++([]:List Str)).Nodup:=by decide +kernel
def jV:En->Res R:=λenv=>(ak 0) env
def eJ:En->Res Fl:=λenv=>(fj (vB (v2 tu (ak 3) (bG (ak 1) d7 (dw (ak 2))))) (br (vC (.str "twice"))) bw) env
def eL:En->Res Fl:=λenv=>
 (aI (dy 6 (aQ gp (ac (ak 0) (ac (ak 1) (ac (ak 4) (ac (ak 5) au))))))
 (fj (vB (v2 rY (ak 6) (vC (.str "none")))) (br (ak 6)) bw)) env
def eM:En->Res Fl:=λenv=>(ml (HY (ac (gy cr (ac (ak 4) au)) au)) (gN 5) eL) env
def gF:En->Res Fl:=
 (aI (bN 1 (gU 2 [] (nn (aR 0 (vC (.int 2)))) (gT 2 (aJ (gN 0) (aJ (gN 1) cg))) (λ_=>.ok true) jV))
 (aI (ml (xG (ac (ak 1) au)) (gT 2 (aJ (gN 2) (aJ (gN 3) cg))) eJ)
 (aI (fj (vB (v2 gV (vC (.str "main")) (ak 1))) (br (vC (.str "name"))) bw)
 (aI (ml (nn (aR 0 (vC (.int 2)))) (gT 2 (aJ (gN 3) (aJ (gN 4) cg))) eM)
 (br (vC (.str "none")))))))
def dO:List D->Res R:=fy mE gF
abbrev cA:Stmt:=top 40
noncomputable abbrev iE:List Str:=["_law_signs","_law_lot","_law_cell","_law_odd","_law_at","_law_counts","_law_blanks"]
noncomputable abbrev gj:List Str:=["_law_signs","_law_lot","_law_cell"]
def sc__law_spoilt:aZ iE gj (ar cA):=⟨rfl,rfl,rfl,by decide +kernel,rfl,by decide +kernel,by decide +kernel⟩
def o5:((["_law_at"]:List Str)++(["_law_signs"]:List Str)).Nodup:=by decide +kernel
def o6:((["_law_at"]:List Str)++(["_law_signs"]:List Str)).Nodup:=by decide +kernel
def gq:En->Res Bool:=λenv=>(h_ (vB (v2 ga (aR 1 (v2 sU (ak 0) (vC (.int 1)))) (vC (.str " ")))) (vB (v2 GJ (aR 1 (ak 0)) (vC (.str "0123456789"))))) env
def iY:En->Res R:=λenv=>(ak 0) env
def iZ:En->Res Bool:=λenv=>(vB (v2 ga (aR 1 (ak 0)) (vC (.str " ")))) env
def i4:En->Res R:=λenv=>(ak 0) env
def gk:En->Res Fl:=
 (aI (fj (vB (v2 ga (ak 1) (vC (.int 0)))) (aI (bN 3 (vC (.str "!\"#$&'()*+-./<=>?@ABCDEFGHIJKLMNOPQRSTUVWXYZ[\\]^_`{|}~\n\t")))
 (aI (dy 4 (aQ ay (ac (ak 2) (ac (vC (.int 9973)) (ac (v2 bU (gy cr (ac (ak 0) au)) (vC (.int 1))) au)))))
 (br (v2 bU (v2 bU (bG (ak 0) d7 (dw (ak 4))) (aR 3 (aQ ay (ac (ak 2) (ac (vC (.int 1123)) (ac (gy cr (ac (ak 3) au)) au)))))) (bG (ak 0) (dw (ak 4)) d7))))) bw)
 (aI (fj (vB (v2 ga (ak 1) (vC (.int 8)))) (aI (bN 5 (gU 1 [0] (QB (ac (vC (.int 1)) (ac (gy cr (ac (ak 0) au)) au))) (gN 0) gq iY))
 (aI (bN 4 (aR 5 (aQ ay (ac (ak 2) (ac (vC (.int 9973)) (ac (gy cr (ac (ak 5) au)) au))))))
 (br (v2 bU (v2 bU (bG (ak 0) d7 (dw (ak 4))) (vC (.str "0"))) (bG (ak 0) (dw (ak 4)) d7))))) bw)
 (aI (bN 6 (gU 1 [0] (HY (ac (gy cr (ac (ak 0) au)) au)) (gN 0) iZ i4))
 (aI (bN 4 (aR 6 (aQ ay (ac (ak 2) (ac (vC (.int 9973)) (ac (gy cr (ac (ak 6) au)) au))))))
 (aI (fj (vB (v2 ga (ak 1) (vC (.int 1)))) (br (v2 bU (v2 bU (bG (ak 0) d7 (dw (ak 4))) (vC (.str " "))) (bG (ak 0) (dw (ak 4)) d7))) bw)
 (br (v2 bU (bG (ak 0) d7 (dw (ak 4))) (bG (ak 0) (dw (v2 bU (ak 4) (vC (.int 1)))) d7))))))))
def cf:List D->Res R:=fy iE gk
abbrev cY:Stmt:=top 38
noncomputable abbrev lK:List Str:=["_law_cell","_law_some"]
noncomputable abbrev eB:List Str:=["_law_cell"]
def sc__law_odd_text:aZ lK eB (ar cY):=⟨rfl,rfl,rfl,by decide +kernel,rfl,by decide +kernel,by decide +kernel⟩
def lL:En->Res Fl:=
 (aI (bN 1 (dt (ac (vC (.str "")) (ac (vC (.str "values 2 1")) (ac (vC (.str "values 2 1; ")) (ac (vC (.str "values 2 1;")) (ac (vC (.str "main: stop")) (ac (vC (.str "values 1 1; main")) (ac (vC (.str "values 1 1; main:")) au)))))))))
 (aI (bN 1 (v2 bU (ak 1) (dt (ac (vC (.str "values 1 1; main: ")) (ac (vC (.str "values 1 1; main: stop, ")) (ac (vC (.str "values 1 1; main: stop;")) au))))))
 (aI (bN 1 (v2 bU (ak 1) (dt (ac (vC (.str "values 1 1; main: stop; ")) (ac (vC (.str "values 1 1, main: stop")) (ac (vC (.str "values 1 1; main: stop, f: stop")) au))))))
 (aI (bN 1 (v2 bU (ak 1) (dt (ac (vC (.str "values 1 1; main: f: stop")) (ac (vC (.str "; values 1 1; main: stop")) (ac (vC (.str "values 1 1; values 1 1; main: stop")) au))))))
 (br (aR 1 (aQ ay (ac (ak 0) (ac (vC (.int 1123)) (ac (vC (.int 16)) au))))))))))
def i6:List D->Res R:=fy lK lL
abbrev dW:Stmt:=top 16
noncomputable abbrev lq:List Str:=["text","form","words","rest"]
noncomputable abbrev hU:List Str:=["text","form"]
def sc_words_kept:aZ lq hU (ar dW):=⟨rfl,rfl,rfl,by decide +kernel,rfl,by decide +kernel,by decide +kernel⟩
def ku:((["letter","word"]:List Str)++([]:List Str)).Nodup:=by decide +kernel
def bL:En->Res R:=fun env=>(PQ (vB (v2 tu (ak 0) (gg (ac (vC (.str "F")) (ac (vC (.str "V")) au))))) (ak 1) (gy tJ (ac (ak 1) au))) env
def lr:En->Res Fl:=
 (aI (bN 2 (n8 (ak 0) (vC (.str " "))))
 (aI (bN 3 (gU 2 [] (tD (ac (bG (ak 1) (dw (vC (.int 1))) d7) (ac (bG (ak 2) (dw (vC (.int 1))) d7) au))) (gT 2 (aJ (gN 0) (aJ (gN 1) cg))) (fun _=>.ok true) bL))
 (br (gy v4 (ac (v2 bU (bG (ak 2) d7 (dw (vC (.int 1)))) (ak 3)) au)))))
def cx:List D->Res R:=fy lq lr
abbrev ij:Stmt:=top 11
noncomputable abbrev qG:List Str:=["word"]
noncomputable abbrev kx:List Str:=["word"]
def zu:aZ qG kx (ar ij):=⟨rfl,rfl,rfl,by decide +kernel,rfl,by decide +kernel,by decide +kernel⟩
def uP:((["sign"]:List Str)++([]:List Str)).Nodup:=by decide +kernel
def mF:En->Res R:=fun env=>(gc qx qx (vC (.str "a")) (ak 0) (vC (.str "z"))) env
def m8:En->Res Fl:=(br (CS (gc uI uI (vC (.int 1)) (gy cr (ac (ak 0) au)) (vC (.int 8))) (gy xF (ac (gU 1 [] (Ao (ak 0)) (gN 0) (fun _=>.ok true) mF) au))))
def gG:List D->Res R:=fy qG m8
abbrev gz:Stmt:=top 12
noncomputable abbrev og:List Str:=["word"]
noncomputable abbrev ju:List Str:=["word"]
def yb:aZ og ju (ar gz):=⟨rfl,rfl,rfl,by decide +kernel,rfl,by decide +kernel,by decide +kernel⟩
def tT:((["sign"]:List Str)++([]:List Str)).Nodup:=by decide +kernel
def lu:En->Res R:=fun env=>(gc qx qx (vC (.str "0")) (ak 0) (vC (.str "9"))) env
def jv:En->Res Fl:=
 (aI (fj (rZ (nk (vB (gc uI uI (vC (.int 1)) (gy cr (ac (ak 0) au)) (vC (.int 3))))) (nk (k_ (gy xF (ac (gU 1 [] (Ao (ak 0)) (gN 0) (fun _=>.ok true) lu) au))))) (br (vC (.bl false))) bw)
 (br (Qz (v2 ga (ak 0) (vC (.str "0"))) (v2 rY (aR 0 (vC (.int 0))) (vC (.str "0"))))))
def dX:List D->Res R:=fy og jv
abbrev ik:Stmt:=top 13
noncomputable abbrev tU:List Str:=["letter","word"]
noncomputable abbrev jy:List Str:=["letter","word"]
def yc:aZ tU jy (ar ik):=⟨rfl,rfl,rfl,by decide +kernel,rfl,by decide +kernel,by decide +kernel⟩
def fK:En->Res Fl:=
 (aI (fj (vB (v2 ga (ak 0) (vC (.str "F")))) (br (aQ gG (ac (ak 1) au))) bw)
 (aI (fj (vB (v2 ga (ak 0) (vC (.str "V")))) (br (zg [("shared",0),("own",1)] (ak 1))) bw)
 (aI (fj (vB (v2 ga (ak 0) (vC (.str "S")))) (br (v2 tu (ak 1) (gg (ac (vC (.str "1")) (ac (vC (.str "2")) (ac (vC (.str "3")) (ac (vC (.str "4")) au))))))) bw)
 (br (aQ dX (ac (ak 1) au))))))
def bV:List D->Res R:=fy tU fK
abbrev gA:Stmt:=top 14
noncomputable abbrev oh:List Str:=["words","form"]
noncomputable abbrev jz:List Str:=["words","form"]
def yd:aZ oh jz (ar gA):=⟨rfl,rfl,rfl,by decide +kernel,rfl,by decide +kernel,by decide +kernel⟩
def mG:((["letter","word"]:List Str)++([]:List Str)).Nodup:=by decide +kernel
def hV:En->Res R:=fun env=>(aQ bV (ac (ak 0) (ac (ak 1) au))) env
def gB:En->Res Fl:=
 (aI (fj (rZ (vB (v2 rY (gy cr (ac (ak 0) au)) (gy cr (ac (ak 1) au)))) (vB (v2 rY (aR 0 (vC (.int 0))) (aR 1 (vC (.int 0)))))) (br (vC (.bl false))) bw)
 (br (gy xF (ac (gU 2 [] (tD (ac (bG (ak 1) (dw (vC (.int 1))) d7) (ac (bG (ak 0) (dw (vC (.int 1))) d7) au))) (gT 2 (aJ (gN 0) (aJ (gN 1) cg))) (fun _=>.ok true) hV) au))))
def b9:List D->Res R:=fy oh gB
abbrev fS:Stmt:=top 15
noncomputable abbrev o7:List Str:=["text","forms","words","form"]
noncomputable abbrev hW:List Str:=["text","forms"]
def sc_form_among:aZ o7 hW (ar fS):=⟨rfl,rfl,rfl,by decide +kernel,rfl,by decide +kernel,by decide +kernel⟩
def bM:En->Res Fl:=fun env=>(fj (k_ (aQ b9 (ac (ak 2) (ac (ak 3) au)))) (br (ak 3)) bw) env
def jc:En->Res Fl:=
 (aI (bN 2 (n8 (ak 0) (vC (.str " "))))
 (aI (ml (nn (ak 1)) (gN 3) bM)
 (gb "NoText" (ac (vC (.str "words that are none of those that may stand here")) au))))
def bj:List D->Res R:=fy o7 jc
abbrev ky:Stmt:=top 17
noncomputable abbrev ye:List Str:=["text"]
noncomputable abbrev mH:List Str:=["text"]
def BH:aZ ye mH (ar ky):=⟨rfl,rfl,rfl,by decide +kernel,rfl,by decide +kernel,by decide +kernel⟩
def o8:En->Res Fl:=(br (aQ cx (ac (ak 0) (ac (aQ bj (ac (ak 0) (ac (vC (.tup [.tup [.str "skip"],.tup [.str "set",.str "V",.str "N"],.tup [.str "any",.str "V"],.tup [.str "turn",.str "V"],.tup [.str "if",.str "V",.str "N",.str "K"],.tup [.str "go",.str "K"],.tup [.str "fork",.str "K"],.tup [.str "call",.str "F"],.tup [.str "back"],.tup [.str "stop"]])) au))) au))))
def iL:List D->Res R:=fy ye o8
abbrev cL:Stmt:=top 18
noncomputable abbrev jA:List Str:=["part","halves"]
noncomputable abbrev fL:List Str:=["part"]
def sc_procedure_in:aZ jA fL (ar cL):=⟨rfl,rfl,rfl,by decide +kernel,rfl,by decide +kernel,by decide +kernel⟩
def oi:((["row"]:List Str)++([]:List Str)).Nodup:=by decide +kernel
def bR:En->Res R:=fun env=>(aQ iL (ac (ak 0) au)) env
def ci:En->Res Fl:=
 (aI (bN 1 (n8 (ak 0) (vC (.str ": "))))
 (aI (fj (rZ (vB (v2 rY (gy cr (ac (ak 1) au)) (vC (.int 2)))) (nk (k_ (aQ gG (ac (aR 1 (vC (.int 0))) au))))) (gb "NoText" (ac (vC (.str "a part that is no procedure")) au)) bw)
 (br (gg (ac (aR 1 (vC (.int 0))) (ac (qA 1 [] (nn (n8 (aR 1 (vC (.int 1))) (vC (.str ", ")))) (gN 0) (fun _=>.ok true) bR) au))))))
def bq:List D->Res R:=fy jA ci
abbrev fM:Stmt:=top 19
noncomputable abbrev mI:List Str:=["text","parts","values"]
noncomputable abbrev iM:List Str:=["text"]
def sc_formed_in:aZ mI iM (ar fM):=⟨rfl,rfl,rfl,by decide +kernel,rfl,by decide +kernel,by decide +kernel⟩
def rQ:((["part"]:List Str)++([]:List Str)).Nodup:=by decide +kernel
def dh:En->Res R:=fun env=>(aQ bq (ac (ak 0) au)) env
def gH:En->Res Fl:=
 (aI (fj (nk (k_ (oJ "str" (ak 0)))) (gb "NoText" (ac (vC (.str "the program is no text")) au)) bw)
 (aI (bN 1 (n8 (ak 0) (vC (.str "; "))))
 (aI (dy 2 (aQ cx (ac (aR 1 (vC (.int 0))) (ac (aQ bj (ac (aR 1 (vC (.int 0))) (ac (gg (ac (vC (.tup [.str "values",.str "S",.str "S"])) au)) au))) au))))
 (aI (fj (vB (v2 ga (gy cr (ac (ak 1) au)) (vC (.int 1)))) (gb "NoText" (ac (vC (.str "the program has no procedure")) au)) bw)
 (br (gg (ac (aR 2 (vC (.int 1))) (ac (aR 2 (vC (.int 2))) (ac (qA 1 [] (nn (bG (ak 1) (dw (vC (.int 1))) d7)) (gN 0) (fun _=>.ok true) dh) au)))))))))
def cB:List D->Res R:=fy mI gH
abbrev b_:Stmt:=top 20
noncomputable abbrev jB:List Str:=["program","names","rows","place","row"]
noncomputable abbrev cM:List Str:=["program","names","rows","place"]
def sc_refuse_wrong_row:aZ jB cM (ar b_):=⟨rfl,rfl,rfl,by decide +kernel,rfl,by decide +kernel,by decide +kernel⟩
def gC:En->Res Fl:=
 (aI (bN 4 (aR 2 (ak 3)))
 (aI (fj (h_ (vB (v2 ga (aR 4 (vC (.int 0))) (vC (.str "call")))) (vB (v2 gV (aR 4 (vC (.int 1))) (ak 1)))) (gb "NoName" (ac (vC (.str "a procedure is called that is not there")) au)) bw)
 (aI (fj (h_ (vB (v2 tu (aR 4 (vC (.int 0))) (gg (ac (vC (.str "set")) (ac (vC (.str "if")) au))))) (vB (v2 Bi (aR 4 (vC (.int 2))) (aR 0 (GC [("shared",0),("own",1)] (aR 4 (vC (.int 1)))))))) (gb "NoValue" (ac (vC (.str "a row tells a value that is not there")) au)) bw)
 (aI (fj (h_ (vB (v2 tu (aR 4 (vC (.int 0))) (gg (ac (vC (.str "if")) (ac (vC (.str "go")) (ac (vC (.str "fork")) au)))))) (vB (v2 Bi (aR 4 (xJ (vC (.int 1)))) (gy cr (ac (ak 2) au))))) (gb "NoRow" (ac (vC (.str "a row goes on with one that is not there")) au)) bw)
 (fj (h_ (vB (v2 ga (ak 3) (v2 sU (gy cr (ac (ak 2) au)) (vC (.int 1))))) (vB (v2 gV (aR 4 (vC (.int 0))) (gg (ac (vC (.str "go")) (ac (vC (.str "back")) (ac (vC (.str "stop")) au))))))) (gb "NoRow" (ac (vC (.str "behind the last row there is none to go on with")) au)) bw)))))
def dY:List D->Res R:=fy jB gC
abbrev oj:Stmt:=top 21
noncomputable abbrev zv:List Str:=["text","program","names","name","rows","place"]
noncomputable abbrev tV:List Str:=["text"]
def sc_read:aZ zv tV (ar oj):=⟨rfl,rfl,rfl,by decide +kernel,rfl,by decide +kernel,by decide +kernel⟩
def tW:((["name","rows"]:List Str)++([]:List Str)).Nodup:=by decide +kernel
def tX:En->Res R:=fun env=>(ak 0) env
def kz:En->Res Fl:=fun env=>(Dt (aQ dY (ac (ak 1) (ac (ak 2) (ac (ak 4) (ac (ak 5) au)))))) env
def kA:En->Res Fl:=fun env=>(ml (HY (ac (gy cr (ac (ak 4) au)) au)) (gN 5) kz) env
def om:En->Res Fl:=
 (aI (dy 1 (aQ cB (ac (ak 0) au)))
 (aI (bN 2 (gU 2 [] (nn (aR 1 (vC (.int 2)))) (gT 2 (aJ (gN 0) (aJ (gN 1) cg))) (fun _=>.ok true) tX))
 (aI (fj (vB (v2 PP (v9 (ak 2)) (gy cr (ac (ak 2) au)))) (gb "Twice" (ac (vC (.str "two procedures have one name")) au)) bw)
 (aI (fj (vB (v2 gV (vC (.str "main")) (ak 2))) (gb "NoName" (ac (vC (.str "no procedure is main")) au)) bw)
 (aI (ml (nn (aR 1 (vC (.int 2)))) (gT 2 (aJ (gN 3) (aJ (gN 4) cg))) kA)
 (br (ak 1)))))))
def dH:List D->Res R:=fy zv om
abbrev gI:Stmt:=top 41
noncomputable abbrev rB:List Str:=["_law_signs","_law_word_here","_law_found"]
noncomputable abbrev iN:List Str:=["_law_signs"]
def sc__law_read:aZ rB iN (ar gI):=⟨rfl,rfl,rfl,by decide +kernel,rfl,by decide +kernel,by decide +kernel⟩
def mJ:En->Res Fl:=
 (aI (bN 1 (vC (.str "none")))
 (aI (bN 2 (vC .gP))
 (aI (rA 2 1 dH (ac (ak 0) au) [("NoText","text"),("Twice","twice"),("NoName","name"),("NoValue","value"),("NoRow","row")])
 (br (gg (ac (ak 1) (ac (ak 2) au)))))))
def gJ:List D->Res R:=fy rB mJ
abbrev fT:Stmt:=top 27
noncomputable abbrev o9:List Str:=["_law_found"]
noncomputable abbrev hZ:List Str:=["_law_found"]
def uQ:aZ o9 hZ (ar fT):=⟨rfl,rfl,rfl,by decide +kernel,rfl,by decide +kernel,by decide +kernel⟩
def o_:En->Res Fl:=(br (CS (oJ "int" (ak 0)) (J1 (oJ "bool" (ak 0)))))
def fU:List D->Res R:=fy o9 o_
abbrev cZ:Stmt:=top 28
noncomputable abbrev lM:List Str:=["_law_found","_law_due","_law_one","_law_word_here"]
noncomputable abbrev eF:List Str:=["_law_found","_law_due"]
def sc__law_row_same:aZ lM eF (ar cZ):=⟨rfl,rfl,rfl,by decide +kernel,rfl,by decide +kernel,by decide +kernel⟩
def dc:En->Res Fl:=fun env=>
 (aI (fj (h_ (k_ (oJ "str" (ak 3))) (nk (k_ (oJ "str" (ak 2))))) (br (vC (.bl false))) bw)
 (fj (h_ (k_ (oJ "int" (ak 3))) (nk (k_ (aQ fU (ac (ak 2) au))))) (br (vC (.bl false))) bw)) env
def lN:En->Res Fl:=
 (aI (fj (rZ (nk (k_ (oJ "tuple" (ak 0)))) (vB (v2 rY (gy cr (ac (ak 0) au)) (gy cr (ac (ak 1) au))))) (br (vC (.bl false))) bw)
 (aI (ml (tD (ac (ak 0) (ac (ak 1) au))) (gT 2 (aJ (gN 2) (aJ (gN 3) cg))) dc)
 (br (v2 ga (ak 0) (ak 1)))))
def gr:List D->Res R:=fy lM lN
abbrev ca:Stmt:=top 29
noncomputable abbrev il:List Str:=["_law_found","_law_due"]
noncomputable abbrev dI:List Str:=["_law_found","_law_due"]
def pd:aZ il dI (ar ca):=⟨rfl,rfl,rfl,by decide +kernel,rfl,by decide +kernel,by decide +kernel⟩
def iO:((["_law_one","_law_row_here"]:List Str)++([]:List Str)).Nodup:=by decide +kernel
def gD:En->Res R:=fun env=>(aQ gr (ac (ak 0) (ac (ak 1) au))) env
def kC:En->Res Fl:=
 (aI (fj (rZ (nk (k_ (oJ "tuple" (ak 0)))) (rZ (vB (v2 rY (gy cr (ac (ak 0) au)) (vC (.int 2)))) (nk (k_ (oJ "str" (aR 0 (vC (.int 0)))))))) (br (vC (.bl false))) bw)
 (aI (fj (rZ (vB (v2 rY (aR 0 (vC (.int 0))) (aR 1 (vC (.int 0))))) (rZ (nk (k_ (oJ "list" (aR 0 (vC (.int 1)))))) (vB (v2 rY (gy cr (ac (aR 0 (vC (.int 1))) au)) (gy cr (ac (aR 1 (vC (.int 1))) au)))))) (br (vC (.bl false))) bw)
 (br (gy xF (ac (gU 2 [] (tD (ac (aR 0 (vC (.int 1))) (ac (aR 1 (vC (.int 1))) au))) (gT 2 (aJ (gN 0) (aJ (gN 1) cg))) (fun _=>.ok true) gD) au)))))
def fV:List D->Res R:=fy il kC
abbrev fN:Stmt:=top 30
noncomputable abbrev mK:List Str:=["_law_found","_law_due"]
noncomputable abbrev iP:List Str:=["_law_found","_law_due"]
def wg:aZ mK iP (ar fN):=⟨rfl,rfl,rfl,by decide +kernel,rfl,by decide +kernel,by decide +kernel⟩
def lO:((["_law_one","_law_part"]:List Str)++([]:List Str)).Nodup:=by decide +kernel
def jW:En->Res R:=fun env=>(aQ fV (ac (ak 0) (ac (ak 1) au))) env
def rC:En->Res Fl:=
 (aI (fj (rZ (nk (k_ (oJ "tuple" (ak 0)))) (vB (v2 rY (gy cr (ac (ak 0) au)) (vC (.int 3))))) (br (vC (.bl false))) bw)
 (aI (fj (rZ (nk (k_ (aQ fU (ac (aR 0 (vC (.int 0))) au)))) (rZ (nk (k_ (aQ fU (ac (aR 0 (vC (.int 1))) au)))) (vB (v2 rY (bG (ak 0) d7 (dw (vC (.int 2)))) (bG (ak 1) d7 (dw (vC (.int 2)))))))) (br (vC (.bl false))) bw)
 (aI (fj (rZ (nk (k_ (oJ "list" (aR 0 (vC (.int 2)))))) (vB (v2 rY (gy cr (ac (aR 0 (vC (.int 2))) au)) (gy cr (ac (aR 1 (vC (.int 2))) au))))) (br (vC (.bl false))) bw)
 (br (gy xF (ac (gU 2 [] (tD (ac (aR 0 (vC (.int 2))) (ac (aR 1 (vC (.int 2))) au))) (gT 2 (aJ (gN 0) (aJ (gN 1) cg))) (fun _=>.ok true) jW) au))))))
def iQ:List D->Res R:=fy mK rC
abbrev vx:Stmt:=top 43
noncomputable abbrev Iq:List Str:=["_law_script","_law_cell","_law_values","_law_names_here","_law_program","_law_lot","_law_signs","_law_due","_law_found"]
noncomputable abbrev yg:List Str:=["_law_script"]
def sc_law:aZ Iq yg (ar vx):=⟨rfl,rfl,rfl,by decide +kernel,rfl,by decide +kernel,by decide +kernel⟩
def yh:En->Res Fl:=fun env=>(br (CS (v2 ga (aR 8 (vC (.int 0))) (vC (.str "none"))) (aQ iQ (ac (aR 8 (vC (.int 1))) (ac (ak 4) au))))) env
def ph:En->Res Fl:=fun env=>
 (aI (fj (vB (v2 rY (ak 7) (vC (.str "none")))) (br (v2 ga (aR 8 (vC (.int 0))) (ak 7))) bw)
 yh) env
def pj:En->Res Fl:=fun env=>
 (aI (dy 8 (aQ gJ (ac (ak 6) au)))
 ph) env
def pk:En->Res Fl:=fun env=>
 (aI (fj (vB (v2 uI (ak 5) (vC (.int 8)))) (bN 7 (vC (.str "text"))) bw)
 pj) env
def eG:En->Res Fl:=fun env=>
 (aI (fj (vB (v2 ga (ak 5) (vC (.int 7)))) (bN 6 (v2 l7 (dt (ac (vC .gP) (ac (vC (.int 7)) (ac (vC (.bl true)) (ac (dt (ac (ak 6) au)) (ac (gg (ac (ak 6) au)) (ac (v2 tB (ak 6) (ak 6)) au))))))) (aQ ay (ac (ak 1) (ac (vC (.int 1123)) (ac (vC (.int 6)) au)))))) bw)
 pk) env
def gu:En->Res Fl:=fun env=>
 (aI (fj (vB (v2 ga (ak 5) (vC (.int 6)))) (dy 6 (aQ i6 (ac (ak 1) au))) bw)
 eG) env
def gv:En->Res Fl:=fun env=>
 (aI (fj (rZ (vB (v2 uI (ak 5) (vC (.int 2)))) (vB (v2 ga (ak 5) (vC (.int 8))))) (dy 6 (aQ cf (ac (ak 6) (ac (ak 5) (ac (ak 1) au))))) bw)
 gu) env
def gx:En->Res Fl:=fun env=>
 (aI (dy 7 (aQ dO (ac (ak 4) au)))
 gv) env
def e_:En->Res Fl:=fun env=>
 (aI (dy 6 (aQ gi (ac (ak 4) (ac (ak 5) (ac (ak 1) au)))))
 gx) env
def wj:En->Res Fl:=fun env=>
 (aI (bN 5 (v2 l7 (dt (ac (vC (.int 0)) (ac (vC (.int 1)) (ac (vC (.int 2)) (ac (vC (.int 3)) (ac (vC (.int 3)) (ac (vC (.int 3)) (ac (vC (.int 4)) (ac (vC (.int 5)) (ac (vC (.int 6)) (ac (vC (.int 7)) (ac (vC (.int 8)) (ac (vC (.int 8)) (ac (vC (.int 9)) au)))))))))))))) (gy Ai (ac (vC (.int 12)) (ac (aQ ay (ac (ak 1) (ac (vC (.int 1117)) (ac (vC (.int 24)) au)))) au)))))
 e_) env
def wl:En->Res Fl:=fun env=>
 (aI (dy 4 (aQ jb (ac (bG (ak 0) (dw (vC (.int 2))) (dw (vC (.int 62)))) (ac (ak 2) (ac (ak 3) (ac (ak 1) au))))))
 wj) env
def wn:En->Res Fl:=fun env=>
 (aI (dy 3 (aQ ce (ac (ak 1) (ac (aQ ja (ac (aQ dA (ac (ak 0) (ac (vC (.int 1)) au))) au)) au))))
 wl) env
def Aw:En->Res Fl:=fun env=>
 (aI (bN 2 (dt (ac (v2 bU (vC (.int 1)) (aQ ay (ac (ak 1) (ac (vC (.int 1033)) (ac (vC (.int 4)) au))))) (ac (v2 bU (vC (.int 1)) (aQ ay (ac (ak 1) (ac (vC (.int 1039)) (ac (vC (.int 4)) au))))) au))))
 wn) env
def Ir:En->Res Fl:=
 (aI (dy 1 (aQ dA (ac (ak 0) (ac (vC (.int 0)) au))))
 Aw)
def yi:List D->Res R:=fy Iq Ir
set_option genInjectivity false in
structure Tx(w:World) (K:Tw) (mg:Str->Option TB) where
 f_a:Addr
 fd_a:FuncData
 h_a:Fn K mg "_law_cell_at" dz fE f_a fd_a
 f_b:Addr
 fd_b:FuncData
 h_b:Fn K mg "_law_digit" fQ gW f_b fd_b
 f_c:Addr
 fd_c:FuncData
 h_c:Fn K mg "_law_named" dR gX f_c fd_c
 f_d:Addr
 fd_d:FuncData
 h_d:Fn K mg "_law_names" fR gZ f_d fd_d
 f_e:Addr
 fd_e:FuncData
 h_e:Fn K mg "_law_row" ig js f_e fd_e
 f_f:Addr
 fd_f:FuncData
 h_f:Fn K mg "_law_stranger" cU d8 f_f fd_f
 f_g:Addr
 fd_g:FuncData
 h_g:Fn K mg "_law_wrong_row" cE dD f_g fd_g
 f_h:Addr
 fd_h:FuncData
 h_h:Fn K mg "_law_loose" dU g_ f_h fd_h
 f_i:Addr
 fd_i:FuncData
 h_i:Fn K mg "_law_odd_first" cG dF f_i fd_i
 f_j:Addr
 fd_j:FuncData
 h_j:Fn K mg "_law_odd_row" dG fG f_j fd_j
 f_k:Addr
 fd_k:FuncData
 h_k:Fn K mg "_law_pieces" df gh f_k fd_k
 f_l:Addr
 fd_l:FuncData
 h_l:Fn K mg "_law_row_word" cX d_ f_l fd_l
 f_m:Addr
 fd_m:FuncData
 h_m:Fn K mg "_law_word" fJ iJ f_m fd_m
 f_n:Addr
 fd_n:FuncData
 h_n:Fn K mg "_law_spoilt" cA gj f_n fd_n
 f_o:Addr
 fd_o:FuncData
 h_o:Fn K mg "_law_odd_text" cY eB f_o fd_o
 f_p:Addr
 fd_p:FuncData
 h_p:Fn K mg "words_kept" dW hU f_p fd_p
 f_q:Addr
 fd_q:FuncData
 h_q:Fn K mg "is_name" ij kx f_q fd_q
 f_r:Addr
 fd_r:FuncData
 h_r:Fn K mg "is_count" gz ju f_r fd_r
 f_s:Addr
 fd_s:FuncData
 h_s:Fn K mg "is_meant" ik jy f_s fd_s
 f_t:Addr
 fd_t:FuncData
 h_t:Fn K mg "has_form" gA jz f_t fd_t
 f_u:Addr
 fd_u:FuncData
 h_u:Fn K mg "form_among" fS hW f_u fd_u
 f_v:Addr
 fd_v:FuncData
 h_v:Fn K mg "row_in" ky mH f_v fd_v
 f_w:Addr
 fd_w:FuncData
 h_w:Fn K mg "procedure_in" cL fL f_w fd_w
 f_x:Addr
 fd_x:FuncData
 h_x:Fn K mg "formed_in" fM iM f_x fd_x
 f_y:Addr
 fd_y:FuncData
 h_y:Fn K mg "refuse_wrong_row" b_ cM f_y fd_y
 f_z:Addr
 fd_z:FuncData
 h_z:Fn K mg "read" oj tV f_z fd_z
 f_A:Addr
 fd_A:FuncData
 h_A:Fn K mg "_law_read" gI iN f_A fd_A
 f_B:Addr
 fd_B:FuncData
 h_B:Fn K mg "_law_whole" fT hZ f_B fd_B
 f_C:Addr
 fd_C:FuncData
 h_C:Fn K mg "_law_row_same" cZ eF f_C fd_C
 f_D:Addr
 fd_D:FuncData
 h_D:Fn K mg "_law_rows_same" ca dI f_D fd_D
 f_E:Addr
 fd_E:FuncData
 h_E:Fn K mg "_law_same" fN iP f_E fd_E
 f_F:Addr
 fd_F:FuncData
 h_F:Fn K mg "law" vx yg f_F fd_F
 um:mg "all"=none
 HH:mg "bool"=none
 lB:mg "enumerate"=none
 uv:mg "int"=none
 bD:mg "isinstance"=none
 be:mg "len"=none
 AQ:mg "list"=none
 Mk:mg "min"=none
 jC:mg "range"=none
 Mf:mg "set"=none
 ou:mg "str"=none
 pJ:mg "tuple"=none
 uA:mg "zip"=none
 b7:Addr
 kP:XC K mg "NoText" b7
 cS:Addr
 wO:XC K mg "Twice" cS
 b6:Addr
 pT:XC K mg "NoName" b6
 bH:Addr
 qW:XC K mg "NoValue" bH
 cQ:Addr
 sw:XC K mg "NoRow" cQ
 jH:n9 (me K b7) [(b7,"text"),(cS,"twice"),(b6,"name"),(bH,"value"),(cQ,"row")]=some "text"
 kJ:n9 (me K cS) [(b7,"text"),(cS,"twice"),(b6,"name"),(bH,"value"),(cQ,"row")]=some "twice"
 jG:n9 (me K b6) [(b7,"text"),(cS,"twice"),(b6,"name"),(bH,"value"),(cQ,"row")]=some "name"
 iR:n9 (me K bH) [(b7,"text"),(cS,"twice"),(b6,"name"),(bH,"value"),(cQ,"row")]=some "value"
 kH:n9 (me K cQ) [(b7,"text"),(cS,"twice"),(b6,"name"),(bH,"value"),(cQ,"row")]=some "row"
 B0:∃a,mg "VALUES"=some (.ref a)/\KtIs K (.tup [.str "values",.str "S",.str "S"]) (.ref a)
 HG:∃a,mg "ROWS"=some (.ref a)/\KtIs K (.tup [.tup [.str "skip"],.tup [.str "set",.str "V",.str "N"],.tup [.str "any",.str "V"],.tup [.str "turn",.str "V"],.tup [.str "if",.str "V",.str "N",.str "K"],.tup [.str "go",.str "K"],.tup [.str "fork",.str "K"],.tup [.str "call",.str "F"],.tup [.str "back"],.tup [.str "stop"]]) (.ref a)
 B3:∀a,mg "PLACES"=some (.ref a)->(a==sysModules)=false
 vE:∃a,mg "PLACES"=some (.ref a)/\xT w K a [("shared",0),("own",1)]
section
variable{P:Tz}{w:World}{K:Tw}{mg:Str->Option TB}{base:Heap}
def Ld(t:Tx w K mg):DA K mg [(t.b7,"text"),(t.cS,"twice"),(t.b6,"name"),(t.bH,"value"),(t.cQ,"row")] [("NoText","text"),("Twice","twice"),("NoName","name"),("NoValue","value"),("NoRow","row")]:=by
 intro c s h;by_cases e_NoText:(c==("NoText" : Str))=true
 .rw[gL,e_NoText]at h;cases h;obtain rfl:=eq_of_beq e_NoText;exact⟨_,t.kP,t.jH⟩
 rw[gL,Sk.mpr e_NoText]at h;by_cases e_Twice:(c==("Twice" : Str))=true
 .rw[gL,e_Twice]at h;cases h;obtain rfl:=eq_of_beq e_Twice;exact⟨_,t.wO,t.kJ⟩
 rw[gL,Sk.mpr e_Twice]at h;by_cases e_NoName:(c==("NoName" : Str))=true
 .rw[gL,e_NoName]at h;cases h;obtain rfl:=eq_of_beq e_NoName;exact⟨_,t.pT,t.jG⟩
 rw[gL,Sk.mpr e_NoName]at h;by_cases e_NoValue:(c==("NoValue" : Str))=true
 .rw[gL,e_NoValue]at h;cases h;obtain rfl:=eq_of_beq e_NoValue;exact⟨_,t.qW,t.iR⟩
 rw[gL,Sk.mpr e_NoValue]at h;by_cases e_NoRow:(c==("NoRow" : Str))=true
 .rw[gL,e_NoRow]at h;cases h;obtain rfl:=eq_of_beq e_NoRow;exact⟨_,t.sw,t.kH⟩
 rw[gL,Sk.mpr e_NoRow]at h;cases h
def lP(t:Tx w K mg):cw P w K mg base (jI P w) 1 t.f_a t.fd_a fE (lE mg 2 dA):=
 cz t.h_a.fu rP λcdv A outer s H E hr=>
  have hu:=hr.units
  (ai (aM (ax (HU) (qv 1) (aK bh (by rfl) t.be (by decide +kernel) (aa (qv 0) ah)) (aG _)) (aq (aC (aS p_ (aE (pv 0) (qv 1) (λ_ _=>rfl)) (aS Dh aj aj)))) aA)
    (aq (aC aj)))
def az(t:Tx w K mg):cw P w K mg base (jI P w) 1 t.f_b t.fd_b gW (lE mg 3 ay):=
 cz t.h_b.fu uK λcdv A outer s H E hr=>
  have hu:=hr.units
  (aq (aC (aS p_ (aS p_ (aS aW (aS p8 (aS p_ (qv 0) (aS Dh aj aj)) aj) aj) (qv 1)) (qv 2))))
def uR(t:Tx w K mg):cw P w K mg base (jI P w) 2 t.f_c t.fd_c gX (lE mg 2 ce):=
 cz t.h_c.fu sc__law_named λcdv A outer s H E hr=>
  have hu:=hr.units
  (ai (bp sc__law_named.nd rfl (.inl rfl) (aw (az t) (hr.mono (by decide)) (by rfl) t.h_b aF (aa (qv 0) (aa aj (aa aj ah))) (ae (ae (ae av)))))
    (ai (aM (ax (bz hu) (qv 2) aj (aG _)) (aq (aC (aS aW (bc (qv 1) bA (bo (za aj))) (GK (aE (pv 1) aj (λ_ _=>rfl)) (aS aW aj (ic C6 (by rfl) t.uv (by decide +kernel) (aa (k9 (bz hu) (aK bh (by rfl) t.be (by decide +kernel) (aa (qv 1) ah)) aj (aG _)) ah))))))) aA)
    (ai (aM (ax (bz hu) (qv 2) aj (aG _)) (aq (aC (lb rfl (bW.of (osc:=ar dR) (N:=lg) (tN:=["_law_name"]) (capN:=[]) (caps:=[]) rfl rfl (by decide +kernel)) (fP (qv 1)) (by decide) (λcl C s3 H3 fp=>(aN qC rfl (.inl rfl))) (λcl C s3 H3 fp=>dv) (λcl C s3 H3 fp=>(gE (bx (aa ao (aa (qv 0) ah))) (ic C6 (by rfl) t.uv (by decide +kernel) (aa (k9 (iG hu) (qv 0) ao (aG _)) ah)) (λ_ _=>rfl)))))) aA)
    (aq (aC (qv 1))))))
def uS(t:Tx w K mg):cw P w K mg base (jI P w) 2 t.f_d t.fd_d gZ (lE mg 1 ja):=
 cz t.h_d.fu sc__law_names λcdv A outer s H E hr=>
  have hu:=hr.units
  (ai (aO sc__law_names.nd rfl (.inl rfl) (bx ah))
    (ai (aO sc__law_names.nd rfl (.inl rfl) (aS aW aj (aw (az t) (hr.mono (by decide)) (by rfl) t.h_b aF (aa (qv 0) (aa aj (aa aj ah))) (ae (ae (ae av))))))
    (ai (aO sc__law_names.nd rfl (.inl rfl) ao)
    (ai (eZ oD rfl (ie (by rfl) t.jC (aa (qv 2) ah)) (aN sc__law_names.nd rfl (.inl rfl)) (aq (aO sc__law_names.nd rfl (.inl rfl) (aS aW (qv 3) (gE ao (aw (az t) (hr.mono (by decide)) (by rfl) t.h_b aF (aa (aS aW (qv 0) (aS p8 (aS p8 aj (qv 4)) (qv 4))) (aa aj (aa aj ah))) (ae (ae (ae av)))) (λ_ _=>rfl))))))
    (ai (bp sc__law_names.nd rfl (.inl rfl) (aw (az t) (hr.mono (by decide)) (by rfl) t.h_b aF (aa (qv 0) (aa aj (aa (qv 2) ah))) (ae (ae (ae av)))))
    (ai (bp sc__law_names.nd rfl (.inl rfl) (aw (az t) (hr.mono (by decide)) (by rfl) t.h_b aF (aa (qv 0) (aa aj (aa aj ah))) (ae (ae (ae av)))))
    (ai (eZ oD rfl (ie (by rfl) t.jC (aa (aw (az t) (hr.mono (by decide)) (by rfl) t.h_b aF (aa (qv 0) (aa aj (aa aj ah))) (ae (ae (ae av)))) ah)) (aN sc__law_names.nd rfl (.inl rfl)) (ai (aO sc__law_names.nd rfl (.inl rfl) (gE ao (aS p_ (aS aW (qv 0) (aS p8 (qv 4) (aS aW aj (aS p_ (aS JY (qv 0) aj) aj)))) aj) (λ_ _=>rfl)))
    (ai (aO sc__law_names.nd rfl (.inl rfl) (aS aW (aS aW (bc (qv 3) bA (bo (qv 5))) (qv 7)) (bc (qv 3) (bo (aS aW (qv 5) aj)) bA)))
    (ai (aM (ax (bz hu) (qv 6) aj (aG _)) (aq (aO sc__law_names.nd rfl (.inl rfl) (aS aW ao (qv 7)))) aA)
    (ai (aM (ax (bz hu) (qv 6) aj (aG _)) (aq (aO sc__law_names.nd rfl (.inl rfl) (bc ao bA (bo (aS aW aj (qv 4)))))) aA)
    (aq (r_ (pv 1) (qv 8))))))))
    (ai (bp sc__law_names.nd rfl (.inl rfl) (aw (az t) (hr.mono (by decide)) (by rfl) t.h_b aF (aa (qv 0) (aa aj (aa (aS aW (aK bh (by rfl) t.be (by decide +kernel) (aa (qv 1) ah)) aj) ah))) (ae (ae (ae av)))))
    (aq (aC (aS aW (aS aW (bc (qv 1) bA (bo (qv 9))) (bx (aa ao ah))) (bc (qv 1) (bo (qv 9)) bA))))))))))))
def yj(t:Tx w K mg):cw P w K mg base (jI P w) 2 t.f_e t.fd_e js (lE mg 5 jt):=
 cz t.h_e.fu sc__law_row λcdv A outer s H E hr=>
  have hu:=hr.units
  (ai (bp sc__law_row.nd rfl (.inl rfl) (aw (az t) (hr.mono (by decide)) (by rfl) t.h_b aF (aa (qv 0) (aa aj (aa aj ah))) (ae (ae (ae av)))))
    (ai (aM (fw (qv 4)) (aq (aO sc__law_row.nd rfl (.inl rfl) (gE (bx (aa aj (aa aj (aa aj ah)))) (aw (az t) (hr.mono (by decide)) (by rfl) t.h_b aF (aa (qv 0) (aa aj (aa aj ah))) (ae (ae (ae av)))) (λ_ _=>rfl)))) aA)
    (ai (bp sc__law_row.nd rfl (.inl rfl) (aw (az t) (hr.mono (by decide)) (by rfl) t.h_b aF (aa (qv 0) (aa aj (aa aj ah))) (ae (ae (ae av)))))
    (ai (aO sc__law_row.nd rfl (.inl rfl) (gE (bx (aa ao (aa ao ah))) (qv 6) (λ_ _=>rfl)))
    (ai (bp sc__law_row.nd rfl (.inl rfl) (aw (az t) (hr.mono (by decide)) (by rfl) t.h_b aF (aa (qv 0) (aa aj (aa (aE (pv 1) (qv 6) (λ_ _=>rfl)) ah))) (ae (ae (ae av)))))
    (ai (bp sc__law_row.nd rfl (.inl rfl) (aw (az t) (hr.mono (by decide)) (by rfl) t.h_b aF (aa (qv 0) (aa aj (aa (qv 2) ah))) (ae (ae (ae av)))))
    (ai (aM (ax (sW) (qv 5) aj (aG _)) (aq (aC (cq (aa ao (aa (aE (pv 3) (aw (az t) (hr.mono (by decide)) (by rfl) t.h_b aF (aa (qv 0) (aa aj (aa (aK bh (by rfl) t.be (by decide +kernel) (aa (qv 3) ah)) ah))) (ae (ae (ae av)))) (λ_ _=>rfl)) ah))))) aA)
    (ai (aM (PWD.pt (dQ (ax (bz hu) (qv 5) aj (aG _)) (dP (ax (bz hu) (qv 5) aj (aG _))))) (aq (aC (cq (aa ao (aa (qv 7) (aa (qv 8) ah)))))) aA)
    (ai (aM (PWD.pt (dQ (ax (bz hu) (qv 5) aj (aG _)) (dP (ax (bz hu) (qv 5) aj (aG _))))) (aq (aC (cq (aa (gE (bx (aa ao (aa ao ah))) (aS nZ (qv 5) aj) (λ_ _=>rfl)) (aa (qv 7) ah))))) aA)
    (ai (aM (PWD.pt (dQ (ax (bz hu) (qv 5) aj (aG _)) (dP (ax (bz hu) (qv 5) aj (aG _))))) (aq (aC (cq (aa ao (aa (qv 7) (aa (qv 8) (aa (qv 9) ah))))))) aA)
    (ai (aM (PWD.pt (eY (ax (sW) (qv 5) aj (aG _)) (d4 (ax (sV) (qv 5) aj (aG _))))) (aq (aC (cq (aa (gE (bx (aa ao (aa ao (aa ao ah)))) (aS nZ (qv 5) aj) (λ_ _=>rfl)) (aa (qv 9) ah))))) aA)
    (ai (aM (ax (sW) (qv 5) aj (aG _)) (aq (aC (cq (aa (gE (bx (aa ao (aa ao ah))) (aS nZ (qv 5) aj) (λ_ _=>rfl)) ah)))) aA)
    (aq (aC (cq (aa ao ah))))))))))))))))
def qH(t:Tx w K mg):cw P w K mg base (jI P w) 1 t.f_f t.fd_f d8 (lE mg 1 d9):=
 cz t.h_f.fu sc__law_stranger λcdv A outer s H E hr=>
  have hu:=hr.units
  (ai (eZ oD rfl (fP (bx (aa ao (aa ao (aa ao (aa ao (aa ao (aa ao ah)))))))) (aN sc__law_stranger.nd rfl (.inl rfl)) (aq (aM (ax (jh hu) (qv 1) (qv 0) (by rfl)) (aq (aC (qv 1))) aA)))
    (aq (aC ao)))
def pp(t:Tx w K mg):cw P w K mg base (jI P w) 2 t.f_g t.fd_g dD (lE mg 4 bE):=
 cz t.h_g.fu sc__law_wrong_row λcdv A outer s H E hr=>
  have hu:=hr.units
  (ai (bp sc__law_wrong_row.nd rfl (.inl rfl) (aw (az t) (hr.mono (by decide)) (by rfl) t.h_b aF (aa (qv 0) (aa aj (aa aj ah))) (ae (ae (ae av)))))
    (ai (aO sc__law_wrong_row.nd rfl (.inl rfl) (gE (bx (aa ao (aa ao ah))) (qv 4) (λ_ _=>rfl)))
    (ai (aO sc__law_wrong_row.nd rfl (.inl rfl) (gE (bx (aa aj (aa aj (aa aj ah)))) (aw (az t) (hr.mono (by decide)) (by rfl) t.h_b aF (aa (qv 0) (aa aj (aa aj ah))) (ae (ae (ae av)))) (λ_ _=>rfl)))
    (ai (bp sc__law_wrong_row.nd rfl (.inl rfl) (aw (az t) (hr.mono (by decide)) (by rfl) t.h_b aF (aa (qv 0) (aa aj (aa aj ah))) (ae (ae (ae av)))))
    (ai (aM (ax (bz hu) (qv 7) aj (aG _)) (aq (aC (cq (aa ao (aa (aw (qH t) (hr.mono (by decide)) (by rfl) t.h_f aF (aa (qv 3) ah) (ae av)) ah))))) aA)
    (ai (aM (ax (bz hu) (qv 7) aj (aG _)) (aq (aC (cq (aa ao (aa (qv 5) (aa (aS aW (aE (pv 1) (qv 4) (λ_ _=>rfl)) (qv 6)) ah)))))) aA)
    (ai (aM (ax (bz hu) (qv 7) aj (aG _)) (aq (aC (cq (aa (gE (bx (aa ao (aa ao ah))) (qv 4) (λ_ _=>rfl)) (aa (aS aW (qv 2) (qv 6)) ah))))) aA)
    (ai (aM (ax (bz hu) (qv 7) aj (aG _)) (aq (aC (cq (aa ao (aa (qv 5) (aa (aS aW (aE (pv 1) (qv 4) (λ_ _=>rfl)) (qv 6)) (aa (aS aW (qv 2) (qv 6)) ah))))))) aA)
    (ai (aM (ax (bz hu) (qv 7) aj (aG _)) (aq (aC (cq (aa ao (aa (qv 5) (aa aj (aa (aS aW (qv 2) (qv 6)) ah))))))) aA)
    (aq (aC (cq (aa ao ah)))))))))))))
def uT(t:Tx w K mg):cw P w K mg base (jI P w) 3 t.f_h t.fd_h g_ (lE mg 4 jb):=
 cz t.h_h.fu sc__law_loose λcdv A outer s H E hr=>
  have hu:=hr.units
  (ai (aO sc__law_loose.nd rfl (.inl rfl) (gE (bx (aa aj (aa aj ah))) (aw (az t) (hr.mono (by decide)) (by rfl) t.h_b aF (aa (qv 3) (aa aj (aa aj ah))) (ae (ae (ae av)))) (λ_ _=>rfl)))
    (ai (Gy rfl (bW.of (osc:=ar dU) (N:=lm) (tN:=["_law_name"]) (capN:=[]) (caps:=[]) rfl rfl (by decide +kernel)) sc__law_loose.nd rfl rfl (fP (qv 2)) (λcl C s3 H3 fp=>zQ qE rfl (.inl rfl)) (by decide))
    (ai (eZ oD rfl (fP (qv 0)) (aN sc__law_loose.nd rfl (.inl rfl)) (aq (zd (pv 5) (aw (az t) (hr.mono (by decide)) (by rfl) t.h_b aF (aa (qv 6) (aa aj (aa (aK bh (by rfl) t.be (by decide +kernel) (aa (qv 2) ah)) ah))) (ae (ae (ae av)))) (qv 6) (λ_ _=>rfl))))
    (ai (aO sc__law_loose.nd rfl (.inl rfl) (bx ah))
    (ai (eZ oD rfl (tm (by rfl) t.lB (aa (qv 2) ah)) (gm rfl (ba (aN sc__law_loose.nd rfl (.inl rfl)) (ba (aN sc__law_loose.nd rfl (.inl rfl)) d5 (λ_ a _ b=>bv a b)) (λ_ a _ b=>bv a b))) (ai (aO sc__law_loose.nd rfl (.inl rfl) (aS aW (aE (pv 5) (qv 8) (λ_ _=>rfl)) (bx (aa (aS aW (qv 3) (aS p8 (aS p8 aj (qv 8)) (qv 8))) ah))))
    (ai (aO sc__law_loose.nd rfl (.inl rfl) (bx ah))
    (ai (eZ oD rfl (tm (by rfl) t.lB (aa (qv 10) ah)) (gm rfl (ba (aN sc__law_loose.nd rfl (.inl rfl)) (ba (aN sc__law_loose.nd rfl (.inl rfl)) d5 (λ_ a _ b=>bv a b)) (λ_ a _ b=>bv a b))) (ai (bp sc__law_loose.nd rfl (.inl rfl) (aw (yj t) (hr.mono (by decide)) (by rfl) t.h_e aF (aa (qv 6) (aa (qv 1) (aa (aK bh (by rfl) t.be (by decide +kernel) (aa (qv 10) ah)) (aa (qv 2) (aa (k9 (bz hu) (qv 12) (aS nZ (aK bh (by rfl) t.be (by decide +kernel) (aa (qv 10) ah)) aj) (aG _)) ah))))) (ae (ae (ae (ae (ae av)))))))
    (ai (aM (ax (bz hu) (aw (az t) (hr.mono (by decide)) (by rfl) t.h_b aF (aa (qv 6) (aa aj (aa (qv 4) ah))) (ae (ae (ae av)))) aj (aG _)) (aq (bp sc__law_loose.nd rfl (.inl rfl) (aw (pp t) (hr.mono (by decide)) (by rfl) t.h_g aF (aa (qv 6) (aa (qv 1) (aa (aK bh (by rfl) t.be (by decide +kernel) (aa (qv 10) ah)) (aa (qv 2) ah)))) (ae (ae (ae (ae av))))))) aA)
    (aq (r_ (pv 11) (qv 13))))))
    (aq (r_ (pv 7) (cq (aa (qv 9) (aa (qv 11) ah)))))))))
    (aq (aC (cq (aa (aE (pv 1) aj (λ_ _=>rfl)) (aa (aE (pv 1) aj (λ_ _=>rfl)) (aa (qv 7) ah)))))))))))
def pq(t:Tx w K mg):cw P w K mg base (jI P w) 2 t.f_i t.fd_i dF (lE mg 1 ii):=
 cz t.h_i.fu sc__law_odd_first λcdv A outer s H E hr=>
  have hu:=hr.units
  (ai (aO sc__law_odd_first.nd rfl (.inl rfl) (bx (aa ao (aa ao (aa ao (aa ao (aa ao (aa ao (aa ao (aa ao ah))))))))))
    (ai (aO sc__law_odd_first.nd rfl (.inl rfl) (aS aW (qv 1) (bx (aa ao (aa ao (aa ao (aa ao (aa ao (aa ao ah)))))))))
    (aq (aC (aE (pv 1) (aw (az t) (hr.mono (by decide)) (by rfl) t.h_b aF (aa (qv 0) (aa aj (aa aj ah))) (ae (ae (ae av)))) (λ_ _=>rfl))))))
def lQ(t:Tx w K mg):cw P w K mg base (jI P w) 2 t.f_j t.fd_j fG (lE mg 1 fH):=
 cz t.h_j.fu sc__law_odd_row λcdv A outer s H E hr=>
  have hu:=hr.units
  (ai (aO sc__law_odd_row.nd rfl (.inl rfl) (bx (aa ao (aa ao (aa ao (aa ao (aa ao (aa ao (aa ao (aa ao (aa ao ah)))))))))))
    (ai (aO sc__law_odd_row.nd rfl (.inl rfl) (aS aW (qv 1) (bx (aa ao (aa ao (aa ao (aa ao (aa ao (aa ao (aa ao (aa ao ah)))))))))))
    (ai (aO sc__law_odd_row.nd rfl (.inl rfl) (aS aW (qv 1) (bx (aa ao (aa ao (aa ao (aa ao (aa ao (aa ao (aa ao (aa ao (aa ao (aa ao ah)))))))))))))
    (ai (aO sc__law_odd_row.nd rfl (.inl rfl) (aS aW (qv 1) (bx (aa ao (aa ao (aa ao (aa ao (aa ao (aa ao (aa ao (aa ao (aa ao ah))))))))))))
    (ai (aO sc__law_odd_row.nd rfl (.inl rfl) (aS aW (qv 1) (bx (aa ao ah))))
    (aq (aC (aE (pv 1) (aw (az t) (hr.mono (by decide)) (by rfl) t.h_b aF (aa (qv 0) (aa aj (aa aj ah))) (ae (ae (ae av)))) (λ_ _=>rfl)))))))))
def tY(t:Tx w K mg):cw P w K mg base (jI P w) 3 t.f_k t.fd_k gh (lE mg 3 gi):=
 cz t.h_k.fu sc__law_pieces λcdv A outer s H E hr=>
  have hu:=hr.units
  (ai (aO sc__law_pieces.nd rfl (.inl rfl) (bx (aa (aS aW (aS aW (aS aW ao (ic zf (by rfl) t.ou (by decide +kernel) (aa (aE (pv 0) aj (λ_ _=>rfl)) ah))) ao) (ic zf (by rfl) t.ou (by decide +kernel) (aa (aE (pv 0) aj (λ_ _=>rfl)) ah))) ah)))
    (ai (aM (ax (bz hu) (qv 1) aj (aG _)) (aq (aO sc__law_pieces.nd rfl (.inl rfl) (bx (aa (aw (pq t) (hr.mono (by decide)) (by rfl) t.h_i aF (aa (qv 2) ah) (ae av)) ah)))) aA)
    (ai (bp sc__law_pieces.nd rfl (.inl rfl) (aw (az t) (hr.mono (by decide)) (by rfl) t.h_b aF (aa (qv 2) (aa aj (aa (aK bh (by rfl) t.be (by decide +kernel) (aa (aE (pv 0) aj (λ_ _=>rfl)) ah)) ah))) (ae (ae (ae av)))))
    (ai (eZ oD rfl (ie (by rfl) t.jC (aa (aK bh (by rfl) t.be (by decide +kernel) (aa (aE (pv 0) aj (λ_ _=>rfl)) ah)) ah)) (aN sc__law_pieces.nd rfl (.inl rfl)) (ai (kc rfl (bW.of (osc:=ar df) (N:=jT) (tN:=["_law_row_here"]) (capN:=[]) (caps:=[]) rfl rfl (by decide +kernel)) sc__law_pieces.nd rfl rfl (fP (gE (gE (aE (pv 0) aj (λ_ _=>rfl)) (qv 5) (λ_ _=>rfl)) aj (λ_ _=>rfl))) (by decide) (λcl C s3 H3 fp=>(aN oZ rfl (.inl rfl))) (λcl C s3 H3 fp=>dv) (λcl C s3 H3 fp=>(v8 ao (lb rfl (bW.nil (tN:=["_law_word_here"]) (by decide +kernel)) (fP (qv 0)) (by decide) (λcl C s3 H3 fp=>(aN o0 rfl (.inl rfl))) (λcl C s3 H3 fp=>dv) (λcl C s3 H3 fp=>(ic zf (by rfl) t.ou (by decide +kernel) (aa (qv 0) ah)))))))
    (ai (aM (PWD.pt (eY (ax (bz hu) (qv 1) aj (aG _)) (d4 (ax (bz hu) (qv 5) (qv 4) (aG _))))) (aq (Df (C4 (pv 6) (aw (az t) (hr.mono (by decide)) (by rfl) t.h_b aF (aa (qv 2) (aa aj (aa (aK bh (by rfl) t.be (by decide +kernel) (aa (qv 6) ah)) ah))) (ae (ae (ae av)))) (aw (lQ t) (hr.mono (by decide)) (by rfl) t.h_j aF (aa (qv 2) ah) (ae av))) (Gt hu (pv 6) (aw (az t) (hr.mono (by decide)) (by rfl) t.h_b aF (aa (qv 2) (aa aj (aa (aK bh (by rfl) t.be (by decide +kernel) (aa (qv 6) ah)) ah))) (ae (ae (ae av)))) (aw (lQ t) (hr.mono (by decide)) (by rfl) t.h_j aF (aa (qv 2) ah) (ae av))))) aA)
    (ai (aO sc__law_pieces.nd rfl (.inl rfl) (gE (gE (aE (pv 0) aj (λ_ _=>rfl)) (qv 5) (λ_ _=>rfl)) aj (λ_ _=>rfl)))
    (ai (aM (PWD.pt (eY (ax (bz hu) (qv 1) aj (aG _)) (d4 (ax (bz hu) (qv 5) (qv 4) (aG _))))) (aq (aO sc__law_pieces.nd rfl (.inl rfl) (gE (bx (aa ao (aa ao (aa ao (aa ao (aa ao (aa ao (aa ao ah)))))))) (aw (az t) (hr.mono (by decide)) (by rfl) t.h_b aF (aa (qv 2) (aa aj (aa aj ah))) (ae (ae (ae av)))) (λ_ _=>rfl)))) aA)
    (aq (r_ (pv 3) (aS aW (aS aW (qv 7) ao) (v8 ao (qv 6))))))))))
    (aq (aC (v8 ao (qv 3))))))))
def qI(t:Tx w K mg):cw P w K mg base (jI P w) 1 t.f_l t.fd_l d_ (lE mg 4 gp):=
 cz t.h_l.fu sc__law_row_word λcdv A outer s H E hr=>
  have hu:=hr.units
  (ai (aO sc__law_row_word.nd rfl (.inl rfl) (aE (pv 2) (qv 3) (λ_ _=>rfl)))
    (ai (aM (PWD.pt (eY (ax (bz hu) (aE (pv 4) aj (λ_ _=>rfl)) ao (aG _)) (d4 (ax (jh hu) (aE (pv 4) aj (λ_ _=>rfl)) (qv 1) (by rfl))))) (aq (aC ao)) aA)
    (ai (aM (PWD.pt (dQ (ax (bz hu) (aE (pv 4) aj (λ_ _=>rfl)) ao (aG _)) (dP (ax (bz hu) (aE (pv 4) aj (λ_ _=>rfl)) ao (aG _))))) (aq (aM (ax (sW) (aE (pv 4) aj (λ_ _=>rfl)) (gE (bx (aa (aE (pv 0) aj (λ_ _=>rfl)) (aa (aE (pv 0) aj (λ_ _=>rfl)) ah))) (Kl hu (bx (aa ao (aa ao ah))) (aE (pv 4) aj (λ_ _=>rfl))) (λ_ _=>rfl)) (aG _)) (aq (aC ao)) aA)) aA)
    (ai (aM (PWD.pt (dQ (ax (bz hu) (aE (pv 4) aj (λ_ _=>rfl)) ao (aG _)) (dQ (ax (bz hu) (aE (pv 4) aj (λ_ _=>rfl)) ao (aG _)) (dP (ax (bz hu) (aE (pv 4) aj (λ_ _=>rfl)) ao (aG _)))))) (aq (aM (ax (sW) (aE (pv 4) (za aj) (λ_ _=>rfl)) (aK bh (by rfl) t.be (by decide +kernel) (aa (qv 2) ah)) (aG _)) (aq (aC ao)) aA)) aA)
    (ai (aM (PWD.pt (eY (ax (bz hu) (qv 3) (aS nZ (aK bh (by rfl) t.be (by decide +kernel) (aa (qv 2) ah)) aj) (aG _)) (eY (ax (iG hu) (aE (pv 4) aj (λ_ _=>rfl)) ao (aG _)) (eY (ax (iG hu) (aE (pv 4) aj (λ_ _=>rfl)) ao (aG _)) (d4 (ax (iG hu) (aE (pv 4) aj (λ_ _=>rfl)) ao (aG _))))))) (aq (aC ao)) aA)
    (aq (aC ao)))))))
def wq(t:Tx w K mg):cw P w K mg base (jI P w) 2 t.f_m t.fd_m iJ (lE mg 1 dO):=
 cz t.h_m.fu sc__law_word λcdv A outer s H E hr=>
  have hu:=hr.units
  (ai (kc rfl (bW.of (osc:=ar fJ) (N:=mE) (tN:=["_law_name","_law_rows"]) (capN:=[]) (caps:=[]) rfl rfl (by decide +kernel)) sc__law_word.nd rfl rfl (fP (aE (pv 0) aj (λ_ _=>rfl))) (by decide) (λcl C s3 H3 fp=>(gm rfl (ba (aN lJ rfl (.inl rfl)) (ba (aN lJ rfl (.inl rfl)) d5 (λ_ a _ b=>bv a b)) (λ_ a _ b=>bv a b)))) (λcl C s3 H3 fp=>dv) (λcl C s3 H3 fp=>(qv 0)))
    (ai (eZ oD rfl (tm (by rfl) t.lB (aa (qv 1) ah)) (gm rfl (ba (aN sc__law_word.nd rfl (.inl rfl)) (ba (aN sc__law_word.nd rfl (.inl rfl)) d5 (λ_ a _ b=>bv a b)) (λ_ a _ b=>bv a b))) (aq (aM (ax (tw hu) (qv 3) (bc (qv 1) bA (bo (qv 2))) (by rfl)) (aq (aC ao)) aA)))
    (ai (aM (ax (jh hu) ao (qv 1) (by rfl)) (aq (aC ao)) aA)
    (ai (eZ oD rfl (fP (aE (pv 0) aj (λ_ _=>rfl))) (gm rfl (ba (aN sc__law_word.nd rfl (.inl rfl)) (ba (aN sc__law_word.nd rfl (.inl rfl)) d5 (λ_ a _ b=>bv a b)) (λ_ a _ b=>bv a b))) (aq (eZ oD rfl (ie (by rfl) t.jC (aa (aK bh (by rfl) t.be (by decide +kernel) (aa (qv 4) ah)) ah)) (aN sc__law_word.nd rfl (.inl rfl)) (ai (bp sc__law_word.nd rfl (.inl rfl) (aw (qI t) (hr.mono (by decide)) (by rfl) t.h_l aF (aa (qv 0) (aa (qv 1) (aa (qv 4) (aa (qv 5) ah)))) (ae (ae (ae (ae av))))))
    (aq (aM (ax (iG hu) (qv 6) ao (aG _)) (aq (aC (qv 6))) aA))))))
    (aq (aC ao))))))
def tZ(t:Tx w K mg):cw P w K mg base (jI P w) 2 t.f_n t.fd_n gj (lE mg 3 cf):=
 cz t.h_n.fu sc__law_spoilt λcdv A outer s H E hr=>
  have hu:=hr.units
  (ai (aM (ax (bz hu) (qv 1) aj (aG _)) (ai (aO sc__law_spoilt.nd rfl (.inl rfl) ao)
    (ai (bp sc__law_spoilt.nd rfl (.inl rfl) (aw (az t) (hr.mono (by decide)) (by rfl) t.h_b aF (aa (qv 2) (aa aj (aa (aS aW (aK bh (by rfl) t.be (by decide +kernel) (aa (qv 0) ah)) aj) ah))) (ae (ae (ae av)))))
    (aq (aC (aS aW (aS aW (bc (qv 0) bA (bo (qv 4))) (aE (pv 3) (aw (az t) (hr.mono (by decide)) (by rfl) t.h_b aF (aa (qv 2) (aa aj (aa (aK bh (by rfl) t.be (by decide +kernel) (aa (qv 3) ah)) ah))) (ae (ae (ae av)))) (λ_ _=>rfl))) (bc (qv 0) (bo (qv 4)) bA)))))) aA)
    (ai (aM (ax (bz hu) (qv 1) aj (aG _)) (ai (kc rfl (bW.of (osc:=ar cA) (N:=iE) (tN:=["_law_at"]) (capN:=["_law_signs"]) (caps:=[0]) rfl rfl (by decide +kernel)) sc__law_spoilt.nd rfl rfl (zb (by rfl) t.jC (aa aj (aa (aK bh (by rfl) t.be (by decide +kernel) (aa (qv 0) ah)) ah))) (by decide) (λcl C s3 H3 fp=>(aN o5 rfl (.inl rfl))) (λcl C s3 H3 fp=>(xB (PWD.pt (eY (ax (bz hu) (aE (pv 1) (aS nZ (qv 0) aj) (λ_ _=>rfl)) ao (aG _)) (d4 (ax Ks (aE (pv 1) (qv 0) (λ_ _=>rfl)) ao (by rfl))))))) (λcl C s3 H3 fp=>(qv 0)))
    (ai (aO sc__law_spoilt.nd rfl (.inl rfl) (aE (pv 5) (aw (az t) (hr.mono (by decide)) (by rfl) t.h_b aF (aa (qv 2) (aa aj (aa (aK bh (by rfl) t.be (by decide +kernel) (aa (qv 5) ah)) ah))) (ae (ae (ae av)))) (λ_ _=>rfl)))
    (aq (aC (aS aW (aS aW (bc (qv 0) bA (bo (qv 4))) ao) (bc (qv 0) (bo (qv 4)) bA)))))) aA)
    (ai (kc rfl (bW.of (osc:=ar cA) (N:=iE) (tN:=["_law_at"]) (capN:=["_law_signs"]) (caps:=[0]) rfl rfl (by decide +kernel)) sc__law_spoilt.nd rfl rfl (ie (by rfl) t.jC (aa (aK bh (by rfl) t.be (by decide +kernel) (aa (qv 0) ah)) ah)) (by decide) (λcl C s3 H3 fp=>(aN o6 rfl (.inl rfl))) (λcl C s3 H3 fp=>(xB (ax (bz hu) (aE (pv 1) (qv 0) (λ_ _=>rfl)) ao (aG _)))) (λcl C s3 H3 fp=>(qv 0)))
    (ai (aO sc__law_spoilt.nd rfl (.inl rfl) (aE (pv 6) (aw (az t) (hr.mono (by decide)) (by rfl) t.h_b aF (aa (qv 2) (aa aj (aa (aK bh (by rfl) t.be (by decide +kernel) (aa (qv 6) ah)) ah))) (ae (ae (ae av)))) (λ_ _=>rfl)))
    (ai (aM (ax (bz hu) (qv 1) aj (aG _)) (aq (aC (aS aW (aS aW (bc (qv 0) bA (bo (qv 4))) ao) (bc (qv 0) (bo (qv 4)) bA)))) aA)
    (aq (aC (aS aW (bc (qv 0) bA (bo (qv 4))) (bc (qv 0) (bo (aS aW (qv 4) aj)) bA)))))))))
def qJ(t:Tx w K mg):cw P w K mg base (jI P w) 2 t.f_o t.fd_o eB (lE mg 1 i6):=
 cz t.h_o.fu sc__law_odd_text λcdv A outer s H E hr=>
  have hu:=hr.units
  (ai (aO sc__law_odd_text.nd rfl (.inl rfl) (bx (aa ao (aa ao (aa ao (aa ao (aa ao (aa ao (aa ao ah)))))))))
    (ai (aO sc__law_odd_text.nd rfl (.inl rfl) (aS aW (qv 1) (bx (aa ao (aa ao (aa ao ah))))))
    (ai (aO sc__law_odd_text.nd rfl (.inl rfl) (aS aW (qv 1) (bx (aa ao (aa ao (aa ao ah))))))
    (ai (aO sc__law_odd_text.nd rfl (.inl rfl) (aS aW (qv 1) (bx (aa ao (aa ao (aa ao ah))))))
    (aq (aC (aE (pv 1) (aw (az t) (hr.mono (by decide)) (by rfl) t.h_b aF (aa (qv 0) (aa aj (aa aj ah))) (ae (ae (ae av)))) (λ_ _=>rfl))))))))
def nF(t:Tx w K mg):cw P w K mg base (jI P w) 1 t.f_p t.fd_p hU (lE mg 2 cx):=
 cz t.h_p.fu sc_words_kept λcdv A outer s H E hr=>
  have hu:=hr.units
  (ai (aO sc_words_kept.nd rfl (.inl rfl) (ms (qv 0) ao))
    (ai (kc rfl (bW.of (osc:=ar dW) (N:=lq) (tN:=["letter","word"]) (capN:=[]) (caps:=[]) rfl rfl (by decide +kernel)) sc_words_kept.nd rfl rfl (mr (by rfl) t.uA (aa (bc (qv 1) (bo aj) bA) (aa (bc (qv 2) (bo aj) bA) ah))) (by decide) (λcl C s3 H3 fp=>(gm rfl (ba (aN ku rfl (.inl rfl)) (ba (aN ku rfl (.inl rfl)) d5 (λ_ a _ b=>bv a b)) (λ_ a _ b=>bv a b)))) (λcl C s3 H3 fp=>dv) (λcl C s3 H3 fp=>(Nu (ax (tw hu) (qv 0) (cq (aa ao (aa ao ah))) (by rfl)) (qv 1) (ic GF (by rfl) t.uv (by decide +kernel) (aa (qv 1) ah)))))
    (aq (aC (ic De (by rfl) t.pJ (by decide +kernel) (aa (aS aW (bc (qv 2) bA (bo aj)) (qv 3)) ah))))))
def t5(t:Tx w K mg):cw P w K mg base (jI P w) 1 t.f_q t.fd_q kx (lE mg 1 gG):=
 cz t.h_q.fu zu λcdv A outer s H E hr=>
  have hu:=hr.units
  (aq (aC (y6 (tz (sV) (sV) aj (aK bh (by rfl) t.be (by decide +kernel) (aa (qv 0) ah)) aj) (vS (aK (s_ (by rfl)) (by rfl) t.um (by decide +kernel) (aa (lb rfl (bW.of (osc:=ar ij) (N:=qG) (tN:=["sign"]) (capN:=[]) (caps:=[]) rfl rfl (by decide +kernel)) (xV (qv 0)) (by decide) (λcl C s3 H3 fp=>(aN uP rfl (.inl rfl))) (λcl C s3 H3 fp=>dv) (λcl C s3 H3 fp=>(tz (v7) (v7) ao (qv 0) ao))) ah))))))
def ym(t:Tx w K mg):cw P w K mg base (jI P w) 1 t.f_r t.fd_r ju (lE mg 1 dX):=
 cz t.h_r.fu yb λcdv A outer s H E hr=>
  have hu:=hr.units
  (ai (aM (PWD.pt (dQ (eV (Bw (sV) (sV) aj (aK bh (by rfl) t.be (by decide +kernel) (aa (qv 0) ah)) aj)) (dP (eV (fw (aK (s_ (by rfl)) (by rfl) t.um (by decide +kernel) (aa (lb rfl (bW.of (osc:=ar gz) (N:=og) (tN:=["sign"]) (capN:=[]) (caps:=[]) rfl rfl (by decide +kernel)) (xV (qv 0)) (by decide) (λcl C s3 H3 fp=>(aN tT rfl (.inl rfl))) (λcl C s3 H3 fp=>dv) (λcl C s3 H3 fp=>(tz (v7) (v7) ao (qv 0) ao))) ah))))))) (aq (aC mh)) aA)
    (aq (aC (Nt (k9 (bz hu) (qv 0) ao (aG _)) (vS (k9 (iG hu) (aE (pv 0) aj (λ_ _=>rfl)) ao (aG _)))))))
def yn(t:Tx w K mg):cw P w K mg base (jI P w) 2 t.f_s t.fd_s jy (lE mg 2 bV):=
 cz t.h_s.fu yc λcdv A outer s H E hr=>
  have hu:=hr.units
  (ai (aM (ax (bz hu) (qv 0) ao (aG _)) (aq (aC (aw (t5 t) (hr.mono (by decide)) (by rfl) t.h_q aF (aa (qv 1) ah) (ae av)))) aA)
    (ai (aM (ax (bz hu) (qv 0) ao (aG _)) (aq (aC (Dq (by rfl) t.vE t.B3 (qv 1)))) aA)
    (ai (aM (ax (bz hu) (qv 0) ao (aG _)) (aq (aC (k9 (tw hu) (qv 1) (cq (aa ao (aa ao (aa ao (aa ao ah))))) (by rfl)))) aA)
    (aq (aC (aw (ym t) (hr.mono (by decide)) (by rfl) t.h_r aF (aa (qv 1) ah) (ae av)))))))
def yo(t:Tx w K mg):cw P w K mg base (jI P w) 3 t.f_t t.fd_t jz (lE mg 2 b9):=
 cz t.h_t.fu yd λcdv A outer s H E hr=>
  have hu:=hr.units
  (ai (aM (PWD.pt (dQ (ax (iG hu) (aK bh (by rfl) t.be (by decide +kernel) (aa (qv 0) ah)) (aK bh (by rfl) t.be (by decide +kernel) (aa (qv 1) ah)) (aG _)) (dP (ax (iG hu) (aE (pv 0) aj (λ_ _=>rfl)) (aE (pv 1) aj (λ_ _=>rfl)) (aG _))))) (aq (aC mh)) aA)
    (aq (aC (aK (s_ (by rfl)) (by rfl) t.um (by decide +kernel) (aa (lb rfl (bW.of (osc:=ar gA) (N:=oh) (tN:=["letter","word"]) (capN:=[]) (caps:=[]) rfl rfl (by decide +kernel)) (mr (by rfl) t.uA (aa (bc (qv 1) (bo aj) bA) (aa (bc (qv 0) (bo aj) bA) ah))) (by decide) (λcl C s3 H3 fp=>(gm rfl (ba (aN mG rfl (.inl rfl)) (ba (aN mG rfl (.inl rfl)) d5 (λ_ a _ b=>bv a b)) (λ_ a _ b=>bv a b)))) (λcl C s3 H3 fp=>dv) (λcl C s3 H3 fp=>(aw (yn t) (hr.mono (by decide)) (by rfl) t.h_s C5 (aa (qv 0) (aa (qv 1) ah)) (ae (ae av))))) ah)))))
def nG(t:Tx w K mg):cw P w K mg base (jI P w) 4 t.f_u t.fd_u hW (lE mg 2 bj):=
 cz t.h_u.fu sc_form_among λcdv A outer s H E hr=>
  have hu:=hr.units
  (ai (aO sc_form_among.nd rfl (.inl rfl) (ms (qv 0) ao))
    (ai (eZ oD rfl (fP (qv 1)) (aN sc_form_among.nd rfl (.inl rfl)) (aq (aM (fw (aw (yo t) (hr.mono (by decide)) (by rfl) t.h_t aF (aa (qv 2) (aa (qv 3) ah)) (ae (ae av)))) (aq (aC (qv 3))) aA)))
    (aq (eI t.kP (by rfl) (aa ao ah)))))
def BI(t:Tx w K mg):cw P w K mg base (jI P w) 5 t.f_v t.fd_v mH (lE mg 1 iL):=
 cz t.h_v.fu BH λcdv A outer s H E hr=>
  have hu:=hr.units
  (aq (aC (aw (nF t) (hr.mono (by decide)) (by rfl) t.h_p aF (aa (qv 0) (aa (aw (nG t) (hr.mono (by decide)) (by rfl) t.h_u aF (aa (qv 0) (aa (Ib (by rfl) t.HG) ah)) (ae (ae av))) ah)) (ae (ae av)))))
def rR(t:Tx w K mg):cw P w K mg base (jI P w) 6 t.f_w t.fd_w fL (lE mg 1 bq):=
 cz t.h_w.fu sc_procedure_in λcdv A outer s H E hr=>
  have hu:=hr.units
  (ai (aO sc_procedure_in.nd rfl (.inl rfl) (ms (qv 0) ao))
    (ai (aM (PWD.pt (dQ (ax (iG hu) (aK bh (by rfl) t.be (by decide +kernel) (aa (qv 1) ah)) aj (aG _)) (dP (eV (fw (aw (t5 t) (hr.mono (by decide)) (by rfl) t.h_q aF (aa (aE (pv 1) aj (λ_ _=>rfl)) ah) (ae av))))))) (aq (eI t.kP (by rfl) (aa ao ah))) aA)
    (aq (aC (cq (aa (aE (pv 1) aj (λ_ _=>rfl)) (aa (xW rfl rfl Dy rfl (bW.of (osc:=ar cL) (N:=jA) (tN:=["row"]) (capN:=[]) (caps:=[]) rfl rfl (by decide +kernel)) (fP (ms (aE (pv 1) aj (λ_ _=>rfl)) ao)) (by decide) (λcl C s3 H3 fp=>(aN oi rfl (.inl rfl))) (λcl C s3 H3 fp=>dv) (λcl C s3 H3 fp=>(aw (BI t) (hr.mono (by decide)) (by rfl) t.h_v Dx (aa (qv 0) ah) (ae av)))) ah)))))))
def wt(t:Tx w K mg):cw P w K mg base (jI P w) 7 t.f_x t.fd_x iM (lE mg 1 cB):=
 cz t.h_x.fu sc_formed_in λcdv A outer s H E hr=>
  have hu:=hr.units
  (ai (aM (eV (fw (iU oH (by rfl) t.bD (by rfl) t.ou (by decide +kernel) (qv 0)))) (aq (eI t.kP (by rfl) (aa ao ah))) aA)
    (ai (aO sc_formed_in.nd rfl (.inl rfl) (ms (qv 0) ao))
    (ai (bp sc_formed_in.nd rfl (.inl rfl) (aw (nF t) (hr.mono (by decide)) (by rfl) t.h_p aF (aa (aE (pv 1) aj (λ_ _=>rfl)) (aa (aw (nG t) (hr.mono (by decide)) (by rfl) t.h_u aF (aa (aE (pv 1) aj (λ_ _=>rfl)) (aa (cq (aa (Ib (by rfl) t.B0) ah)) ah)) (ae (ae av))) ah)) (ae (ae av))))
    (ai (aM (ax (bz hu) (aK bh (by rfl) t.be (by decide +kernel) (aa (qv 1) ah)) aj (aG _)) (aq (eI t.kP (by rfl) (aa ao ah))) aA)
    (aq (aC (cq (aa (aE (pv 2) aj (λ_ _=>rfl)) (aa (aE (pv 2) aj (λ_ _=>rfl)) (aa (xW rfl rfl Dy rfl (bW.of (osc:=ar fM) (N:=mI) (tN:=["part"]) (capN:=[]) (caps:=[]) rfl rfl (by decide +kernel)) (fP (bc (qv 1) (bo aj) bA)) (by decide) (λcl C s3 H3 fp=>(aN rQ rfl (.inl rfl))) (λcl C s3 H3 fp=>dv) (λcl C s3 H3 fp=>(aw (rR t) (hr.mono (by decide)) (by rfl) t.h_w Dx (aa (qv 0) ah) (ae av)))) ah))))))))))
def nq(t:Tx w K mg):cw P w K mg base (jI P w) 1 t.f_y t.fd_y cM (lE mg 4 dY):=
 cz t.h_y.fu sc_refuse_wrong_row λcdv A outer s H E hr=>
  have hu:=hr.units
  (ai (aO sc_refuse_wrong_row.nd rfl (.inl rfl) (aE (pv 2) (qv 3) (λ_ _=>rfl)))
    (ai (aM (PWD.pt (eY (ax (bz hu) (aE (pv 4) aj (λ_ _=>rfl)) ao (aG _)) (d4 (ax (jh hu) (aE (pv 4) aj (λ_ _=>rfl)) (qv 1) (by rfl))))) (aq (eI t.pT (by rfl) (aa ao ah))) aA)
    (ai (aM (PWD.pt (eY (ax (tw hu) (aE (pv 4) aj (λ_ _=>rfl)) (cq (aa ao (aa ao ah))) (by rfl)) (d4 (ax (sW) (aE (pv 4) aj (λ_ _=>rfl)) (aE (pv 0) (Kn (by rfl) t.vE (aE (pv 4) aj (λ_ _=>rfl)) (λ_ _=>rfl)) (λ_ _=>rfl)) (aG _))))) (aq (eI t.qW (by rfl) (aa ao ah))) aA)
    (ai (aM (PWD.pt (eY (ax (tw hu) (aE (pv 4) aj (λ_ _=>rfl)) (cq (aa ao (aa ao (aa ao ah)))) (by rfl)) (d4 (ax (sW) (aE (pv 4) (za aj) (λ_ _=>rfl)) (aK bh (by rfl) t.be (by decide +kernel) (aa (qv 2) ah)) (aG _))))) (aq (eI t.sw (by rfl) (aa ao ah))) aA)
    (aq (aM (PWD.pt (eY (ax (bz hu) (qv 3) (aS nZ (aK bh (by rfl) t.be (by decide +kernel) (aa (qv 2) ah)) aj) (aG _)) (d4 (ax (jh hu) (aE (pv 4) aj (λ_ _=>rfl)) (cq (aa ao (aa ao (aa ao ah)))) (by rfl))))) (aq (eI t.sw (by rfl) (aa ao ah))) aA))))))
def Hi(t:Tx w K mg):cw P w K mg base (jI P w) 8 t.f_z t.fd_z tV (lE mg 1 dH):=
 cz t.h_z.fu sc_read λcdv A outer s H E hr=>
  have hu:=hr.units
  (ai (bp sc_read.nd rfl (.inl rfl) (aw (wt t) (hr.mono (by decide)) (by rfl) t.h_x aF (aa (qv 0) ah) (ae av)))
    (ai (kc rfl (bW.of (osc:=ar oj) (N:=zv) (tN:=["name","rows"]) (capN:=[]) (caps:=[]) rfl rfl (by decide +kernel)) sc_read.nd rfl rfl (fP (aE (pv 1) aj (λ_ _=>rfl))) (by decide) (λcl C s3 H3 fp=>(gm rfl (ba (aN tW rfl (.inl rfl)) (ba (aN tW rfl (.inl rfl)) d5 (λ_ a _ b=>bv a b)) (λ_ a _ b=>bv a b)))) (λcl C s3 H3 fp=>dv) (λcl C s3 H3 fp=>(qv 0)))
    (ai (aM (ax (HU) (BC (by rfl) (qv 2) (by rfl) t.be (by decide +kernel) (by rfl) t.Mf (by decide +kernel)) (aK bh (by rfl) t.be (by decide +kernel) (aa (qv 2) ah)) (aG _)) (aq (eI t.wO (by rfl) (aa ao ah))) aA)
    (ai (aM (ax (jh hu) ao (qv 2) (by rfl)) (aq (eI t.pT (by rfl) (aa ao ah))) aA)
    (ai (eZ oD rfl (fP (aE (pv 1) aj (λ_ _=>rfl))) (gm rfl (ba (aN sc_read.nd rfl (.inl rfl)) (ba (aN sc_read.nd rfl (.inl rfl)) d5 (λ_ a _ b=>bv a b)) (λ_ a _ b=>bv a b))) (aq (eZ oD rfl (ie (by rfl) t.jC (aa (aK bh (by rfl) t.be (by decide +kernel) (aa (qv 4) ah)) ah)) (aN sc_read.nd rfl (.inl rfl)) (aq (Du (aw (nq t) (hr.mono (by decide)) (by rfl) t.h_y aF (aa (qv 1) (aa (qv 2) (aa (qv 4) (aa (qv 5) ah)))) (ae (ae (ae (ae av))))))))))
    (aq (aC (qv 1))))))))
def wu(t:Tx w K mg):cw P w K mg base (jI P w) 9 t.f_A t.fd_A iN (lE mg 1 gJ):=
 cz t.h_A.fu sc__law_read λcdv A outer s H E hr=>
  have hu:=hr.units
  (ai (aO sc__law_read.nd rfl (.inl rfl) ao)
    (ai (aO sc__law_read.nd rfl (.inl rfl) CP)
    (ai (DB sc__law_read.nd rfl (.inl rfl) rfl (.inl rfl) rfl rfl (rV.cons t.kP (by rfl) (rV.cons t.wO (by rfl) (rV.cons t.pT (by rfl) (rV.cons t.qW (by rfl) (rV.cons t.sw (by rfl) rV.nil))))) (Ld t) (Hi t) (hr.mono (by decide)) (by rfl) t.h_z.gl t.h_z.fu.kp t.h_z.bi (aa (qv 0) ah) (ae av))
    (aq (aC (cq (aa (qv 1) (aa (qv 2) ah))))))))
def jX(t:Tx w K mg):cw P w K mg base (jI P w) 1 t.f_B t.fd_B hZ (lE mg 1 fU):=
 cz t.h_B.fu uQ λcdv A outer s H E hr=>
  have hu:=hr.units
  (aq (aC (y6 (iU xE (by rfl) t.bD (by rfl) t.uv (by decide +kernel) (qv 0)) (vS (J2 (iU Bp (by rfl) t.bD (by rfl) t.HH (by decide +kernel) (qv 0)))))))
def qK(t:Tx w K mg):cw P w K mg base (jI P w) 2 t.f_C t.fd_C eF (lE mg 2 gr):=
 cz t.h_C.fu sc__law_row_same λcdv A outer s H E hr=>
  have hu:=hr.units
  (ai (aM (PWD.pt (dQ (eV (fw (iU n6 (by rfl) t.bD (by rfl) t.pJ (by decide +kernel) (qv 0)))) (dP (ax (iG hu) (aK bh (by rfl) t.be (by decide +kernel) (aa (qv 0) ah)) (aK bh (by rfl) t.be (by decide +kernel) (aa (qv 1) ah)) (aG _))))) (aq (aC mh)) aA)
    (ai (eZ oD rfl (mr (by rfl) t.uA (aa (qv 0) (aa (qv 1) ah))) (gm rfl (ba (aN sc__law_row_same.nd rfl (.inl rfl)) (ba (aN sc__law_row_same.nd rfl (.inl rfl)) d5 (λ_ a _ b=>bv a b)) (λ_ a _ b=>bv a b))) (ai (aM (PWD.pt (eY (fw (iU oH (by rfl) t.bD (by rfl) t.ou (by decide +kernel) (qv 3))) (d4 (eV (fw (iU oH (by rfl) t.bD (by rfl) t.ou (by decide +kernel) (qv 2))))))) (aq (aC mh)) aA)
    (aq (aM (PWD.pt (eY (fw (iU xE (by rfl) t.bD (by rfl) t.uv (by decide +kernel) (qv 3))) (d4 (eV (fw (aw (jX t) (hr.mono (by decide)) (by rfl) t.h_B aF (aa (qv 2) ah) (ae av))))))) (aq (aC mh)) aA))))
    (aq (aC (k9 (bz hu) (qv 0) (qv 1) (aG _))))))
def pr(t:Tx w K mg):cw P w K mg base (jI P w) 3 t.f_D t.fd_D dI (lE mg 2 fV):=
 cz t.h_D.fu pd λcdv A outer s H E hr=>
  have hu:=hr.units
  (ai (aM (PWD.pt (dQ (eV (fw (iU n6 (by rfl) t.bD (by rfl) t.pJ (by decide +kernel) (qv 0)))) (dQ (ax (iG hu) (aK bh (by rfl) t.be (by decide +kernel) (aa (qv 0) ah)) aj (aG _)) (dP (eV (fw (iU oH (by rfl) t.bD (by rfl) t.ou (by decide +kernel) (aE (pv 0) aj (λ_ _=>rfl))))))))) (aq (aC mh)) aA)
    (ai (aM (PWD.pt (dQ (ax (iG hu) (aE (pv 0) aj (λ_ _=>rfl)) (aE (pv 1) aj (λ_ _=>rfl)) (aG _)) (dQ (eV (fw (iU vg (by rfl) t.bD (by rfl) t.AQ (by decide +kernel) (aE (pv 0) aj (λ_ _=>rfl))))) (dP (ax (iG hu) (aK bh (by rfl) t.be (by decide +kernel) (aa (aE (pv 0) aj (λ_ _=>rfl)) ah)) (aK bh (by rfl) t.be (by decide +kernel) (aa (aE (pv 1) aj (λ_ _=>rfl)) ah)) (aG _)))))) (aq (aC mh)) aA)
    (aq (aC (aK (s_ (by rfl)) (by rfl) t.um (by decide +kernel) (aa (lb rfl (bW.of (osc:=ar ca) (N:=il) (tN:=["_law_one","_law_row_here"]) (capN:=[]) (caps:=[]) rfl rfl (by decide +kernel)) (mr (by rfl) t.uA (aa (aE (pv 0) aj (λ_ _=>rfl)) (aa (aE (pv 1) aj (λ_ _=>rfl)) ah))) (by decide) (λcl C s3 H3 fp=>(gm rfl (ba (aN iO rfl (.inl rfl)) (ba (aN iO rfl (.inl rfl)) d5 (λ_ a _ b=>bv a b)) (λ_ a _ b=>bv a b)))) (λcl C s3 H3 fp=>dv) (λcl C s3 H3 fp=>(aw (qK t) (hr.mono (by decide)) (by rfl) t.h_C C5 (aa (qv 0) (aa (qv 1) ah)) (ae (ae av))))) ah))))))
def wv(t:Tx w K mg):cw P w K mg base (jI P w) 4 t.f_E t.fd_E iP (lE mg 2 iQ):=
 cz t.h_E.fu wg λcdv A outer s H E hr=>
  have hu:=hr.units
  (ai (aM (PWD.pt (dQ (eV (fw (iU n6 (by rfl) t.bD (by rfl) t.pJ (by decide +kernel) (qv 0)))) (dP (ax (iG hu) (aK bh (by rfl) t.be (by decide +kernel) (aa (qv 0) ah)) aj (aG _))))) (aq (aC mh)) aA)
    (ai (aM (PWD.pt (dQ (eV (fw (aw (jX t) (hr.mono (by decide)) (by rfl) t.h_B aF (aa (aE (pv 0) aj (λ_ _=>rfl)) ah) (ae av)))) (dQ (eV (fw (aw (jX t) (hr.mono (by decide)) (by rfl) t.h_B aF (aa (aE (pv 0) aj (λ_ _=>rfl)) ah) (ae av)))) (dP (ax (iG hu) (bc (qv 0) bA (bo aj)) (bc (qv 1) bA (bo aj)) (aG _)))))) (aq (aC mh)) aA)
    (ai (aM (PWD.pt (dQ (eV (fw (iU vg (by rfl) t.bD (by rfl) t.AQ (by decide +kernel) (aE (pv 0) aj (λ_ _=>rfl))))) (dP (ax (iG hu) (aK bh (by rfl) t.be (by decide +kernel) (aa (aE (pv 0) aj (λ_ _=>rfl)) ah)) (aK bh (by rfl) t.be (by decide +kernel) (aa (aE (pv 1) aj (λ_ _=>rfl)) ah)) (aG _))))) (aq (aC mh)) aA)
    (aq (aC (aK (s_ (by rfl)) (by rfl) t.um (by decide +kernel) (aa (lb rfl (bW.of (osc:=ar fN) (N:=mK) (tN:=["_law_one","_law_part"]) (capN:=[]) (caps:=[]) rfl rfl (by decide +kernel)) (mr (by rfl) t.uA (aa (aE (pv 0) aj (λ_ _=>rfl)) (aa (aE (pv 1) aj (λ_ _=>rfl)) ah))) (by decide) (λcl C s3 H3 fp=>(gm rfl (ba (aN lO rfl (.inl rfl)) (ba (aN lO rfl (.inl rfl)) d5 (λ_ a _ b=>bv a b)) (λ_ a _ b=>bv a b)))) (λcl C s3 H3 fp=>dv) (λcl C s3 H3 fp=>(aw (pr t) (hr.mono (by decide)) (by rfl) t.h_D C5 (aa (qv 0) (aa (qv 1) ah)) (ae (ae av))))) ah)))))))
def Le(t:Tx w K mg):cw P w K mg base (jI P w) 10 t.f_F t.fd_F yg (lE mg 1 yi):=
 cz t.h_F.fu sc_law λcdv A outer s H E hr=>
  have hu:=hr.units
  (ai (bp sc_law.nd rfl (.inl rfl) (aw (lP t) (hr.mono (by decide)) (by rfl) t.h_a aF (aa (qv 0) (aa aj ah)) (ae (ae av))))
    (ai (aO sc_law.nd rfl (.inl rfl) (bx (aa (aS aW aj (aw (az t) (hr.mono (by decide)) (by rfl) t.h_b aF (aa (qv 1) (aa aj (aa aj ah))) (ae (ae (ae av))))) (aa (aS aW aj (aw (az t) (hr.mono (by decide)) (by rfl) t.h_b aF (aa (qv 1) (aa aj (aa aj ah))) (ae (ae (ae av))))) ah))))
    (ai (bp sc_law.nd rfl (.inl rfl) (aw (uR t) (hr.mono (by decide)) (by rfl) t.h_c aF (aa (qv 1) (aa (aw (uS t) (hr.mono (by decide)) (by rfl) t.h_d aF (aa (aw (lP t) (hr.mono (by decide)) (by rfl) t.h_a aF (aa (qv 0) (aa aj ah)) (ae (ae av))) ah) (ae av)) ah)) (ae (ae av))))
    (ai (bp sc_law.nd rfl (.inl rfl) (aw (uT t) (hr.mono (by decide)) (by rfl) t.h_h aF (aa (bc (qv 0) (bo aj) (bo aj)) (aa (qv 2) (aa (qv 3) (aa (qv 1) ah)))) (ae (ae (ae (ae av))))))
    (ai (aO sc_law.nd rfl (.inl rfl) (gE (bx (aa aj (aa aj (aa aj (aa aj (aa aj (aa aj (aa aj (aa aj (aa aj (aa aj (aa aj (aa aj (aa aj ah)))))))))))))) (aK (Gv (by rfl)) (by rfl) t.Mk (by decide +kernel) (aa aj (aa (aw (az t) (hr.mono (by decide)) (by rfl) t.h_b aF (aa (qv 1) (aa aj (aa aj ah))) (ae (ae (ae av)))) ah))) (λ_ _=>rfl)))
    (ai (bp sc_law.nd rfl (.inl rfl) (aw (tY t) (hr.mono (by decide)) (by rfl) t.h_k aF (aa (qv 4) (aa (qv 5) (aa (qv 1) ah))) (ae (ae (ae av)))))
    (ai (bp sc_law.nd rfl (.inl rfl) (aw (wq t) (hr.mono (by decide)) (by rfl) t.h_m aF (aa (qv 4) ah) (ae av)))
    (ai (aM (PWD.pt (dQ (ax (sV) (qv 5) aj (aG _)) (dP (ax (bz hu) (qv 5) aj (aG _))))) (aq (bp sc_law.nd rfl (.inl rfl) (aw (tZ t) (hr.mono (by decide)) (by rfl) t.h_n aF (aa (qv 6) (aa (qv 5) (aa (qv 1) ah))) (ae (ae (ae av)))))) aA)
    (ai (aM (ax (bz hu) (qv 5) aj (aG _)) (aq (bp sc_law.nd rfl (.inl rfl) (aw (qJ t) (hr.mono (by decide)) (by rfl) t.h_o aF (aa (qv 1) ah) (ae av)))) aA)
    (ai (aM (ax (bz hu) (qv 5) aj (aG _)) (aq (aO sc_law.nd rfl (.inl rfl) (gE (bx (aa CP (aa aj (aa mh (aa (bx (aa (qv 6) ah)) (aa (cq (aa (qv 6) ah)) (aa (Dg (qv 6) (qv 6)) ah))))))) (aw (az t) (hr.mono (by decide)) (by rfl) t.h_b aF (aa (qv 1) (aa aj (aa aj ah))) (ae (ae (ae av)))) (λ_ _=>rfl)))) aA)
    (ai (aM (ax (sV) (qv 5) aj (aG _)) (aq (aO sc_law.nd rfl (.inl rfl) ao)) aA)
    (ai (bp sc_law.nd rfl (.inl rfl) (aw (wu t) (hr.mono (by decide)) (by rfl) t.h_A aF (aa (qv 6) ah) (ae av)))
    (ai (aM (ax (iG hu) (qv 7) ao (aG _)) (aq (aC (k9 (bz hu) (aE (pv 8) aj (λ_ _=>rfl)) (qv 7) (aG _)))) aA)
    (aq (aC (y6 (k9 (bz hu) (aE (pv 8) aj (λ_ _=>rfl)) ao (aG _)) (vS (aw (wv t) (hr.mono (by decide)) (by rfl) t.h_E aF (aa (aE (pv 8) aj (λ_ _=>rfl)) (aa (qv 4) ah)) (ae (ae av))))))))))))))))))))
end
def QW{Q:List TB->Prop}{us:List TB}(hl:us.length=0)(h:Q []):Q us:=by
 cases us with
 |nil=>exact h
 |cons a r=>cases hl
def Em{Q:List TB->Prop}{us:List TB}{n:Nat}(hl:us.length=n+1)(h:∀(a:TB)(r:List TB),r.length=n->Q (a::r)):Q us:=by
 cases us with
 |nil=>cases hl
 |cons a r=>exact h a r (Nat.succ.inj hl)
def nr{Q:List TB->Prop}{us:List TB}(hl:us.length=1)(h:∀a0:TB,Q [a0]):Q us:=Em hl λa r q=>QW (Q:=λr=>Q (a::r)) q (h a)
def uU{Q:List TB->Prop}{us:List TB}(hl:us.length=2)(h:∀a0 a1:TB,Q [a0,a1]):Q us:=Em hl λa r q=>nr (Q:=λr=>Q (a::r)) q (h a)
def Hj{Q:List TB->Prop}{us:List TB}(hl:us.length=3)(h:∀a0 a1 a2:TB,Q [a0,a1,a2]):Q us:=Em hl λa r q=>uU (Q:=λr=>Q (a::r)) q (h a)
def Eo{Q:List TB->Prop}{us:List TB}(hl:us.length=4)(h:∀a0 a1 a2 a3:TB,Q [a0,a1,a2,a3]):Q us:=Em hl λa r q=>Hj (Q:=λr=>Q (a::r)) q (h a)
def QX{Q:List TB->Prop}{us:List TB}(hl:us.length=5)(h:∀a0 a1 a2 a3 a4:TB,Q [a0,a1,a2,a3,a4]):Q us:=Em hl λa r q=>Eo (Q:=λr=>Q (a::r)) q (h a)
def Ov{w:World}{K KK:Tw}{mg:Str->Option TB}{h:Heap}(X:K.In h)(G:h.Ns mainGlobals mg)(U:ot K KK)
 {f_a:Addr} {od_a an_a:Option Addr} {sl_a:Array (Option TB)} {oc_a kV_a dc_a pm_a cd_a ct_a:TB}
 (a_a:nsIn K mainGlobals "_law_cell_at"=some (some (.ref f_a))) (l_a:K.lookup f_a=some ⟨oc_a,od_a,.func (fnOf "_law_cell_at" "_law_cell_at" (aV dz) (aT dz) (ar dz) .none kV_a dc_a pm_a an_a cd_a ct_a),sl_a⟩) (c_a:codeIn K cd_a "_law_cell_at"=true)
 {f_b:Addr} {od_b an_b:Option Addr} {sl_b:Array (Option TB)} {oc_b kV_b dc_b pm_b cd_b ct_b:TB}
 (a_b:nsIn K mainGlobals "_law_digit"=some (some (.ref f_b))) (l_b:K.lookup f_b=some ⟨oc_b,od_b,.func (fnOf "_law_digit" "_law_digit" (aV fQ) (aT fQ) (ar fQ) .none kV_b dc_b pm_b an_b cd_b ct_b),sl_b⟩) (c_b:codeIn K cd_b "_law_digit"=true)
 {f_c:Addr} {od_c an_c:Option Addr} {sl_c:Array (Option TB)} {oc_c kV_c dc_c pm_c cd_c ct_c:TB}
 (a_c:nsIn K mainGlobals "_law_named"=some (some (.ref f_c))) (l_c:K.lookup f_c=some ⟨oc_c,od_c,.func (fnOf "_law_named" "_law_named" (aV dR) (aT dR) (ar dR) .none kV_c dc_c pm_c an_c cd_c ct_c),sl_c⟩) (c_c:codeIn K cd_c "_law_named"=true)
 {f_d:Addr} {od_d an_d:Option Addr} {sl_d:Array (Option TB)} {oc_d kV_d dc_d pm_d cd_d ct_d:TB}
 (a_d:nsIn K mainGlobals "_law_names"=some (some (.ref f_d))) (l_d:K.lookup f_d=some ⟨oc_d,od_d,.func (fnOf "_law_names" "_law_names" (aV fR) (aT fR) (ar fR) .none kV_d dc_d pm_d an_d cd_d ct_d),sl_d⟩) (c_d:codeIn K cd_d "_law_names"=true)
 {f_e:Addr} {od_e an_e:Option Addr} {sl_e:Array (Option TB)} {oc_e kV_e dc_e pm_e cd_e ct_e:TB}
 (a_e:nsIn K mainGlobals "_law_row"=some (some (.ref f_e))) (l_e:K.lookup f_e=some ⟨oc_e,od_e,.func (fnOf "_law_row" "_law_row" (aV ig) (aT ig) (ar ig) .none kV_e dc_e pm_e an_e cd_e ct_e),sl_e⟩) (c_e:codeIn K cd_e "_law_row"=true)
 {f_f:Addr} {od_f an_f:Option Addr} {sl_f:Array (Option TB)} {oc_f kV_f dc_f pm_f cd_f ct_f:TB}
 (a_f:nsIn K mainGlobals "_law_stranger"=some (some (.ref f_f))) (l_f:K.lookup f_f=some ⟨oc_f,od_f,.func (fnOf "_law_stranger" "_law_stranger" (aV cU) (aT cU) (ar cU) .none kV_f dc_f pm_f an_f cd_f ct_f),sl_f⟩) (c_f:codeIn K cd_f "_law_stranger"=true)
 {f_g:Addr} {od_g an_g:Option Addr} {sl_g:Array (Option TB)} {oc_g kV_g dc_g pm_g cd_g ct_g:TB}
 (a_g:nsIn K mainGlobals "_law_wrong_row"=some (some (.ref f_g))) (l_g:K.lookup f_g=some ⟨oc_g,od_g,.func (fnOf "_law_wrong_row" "_law_wrong_row" (aV cE) (aT cE) (ar cE) .none kV_g dc_g pm_g an_g cd_g ct_g),sl_g⟩) (c_g:codeIn K cd_g "_law_wrong_row"=true)
 {f_h:Addr} {od_h an_h:Option Addr} {sl_h:Array (Option TB)} {oc_h kV_h dc_h pm_h cd_h ct_h:TB}
 (a_h:nsIn K mainGlobals "_law_loose"=some (some (.ref f_h))) (l_h:K.lookup f_h=some ⟨oc_h,od_h,.func (fnOf "_law_loose" "_law_loose" (aV dU) (aT dU) (ar dU) .none kV_h dc_h pm_h an_h cd_h ct_h),sl_h⟩) (c_h:codeIn K cd_h "_law_loose"=true)
 {f_i:Addr} {od_i an_i:Option Addr} {sl_i:Array (Option TB)} {oc_i kV_i dc_i pm_i cd_i ct_i:TB}
 (a_i:nsIn K mainGlobals "_law_odd_first"=some (some (.ref f_i))) (l_i:K.lookup f_i=some ⟨oc_i,od_i,.func (fnOf "_law_odd_first" "_law_odd_first" (aV cG) (aT cG) (ar cG) .none kV_i dc_i pm_i an_i cd_i ct_i),sl_i⟩) (c_i:codeIn K cd_i "_law_odd_first"=true)
 {f_j:Addr} {od_j an_j:Option Addr} {sl_j:Array (Option TB)} {oc_j kV_j dc_j pm_j cd_j ct_j:TB}
 (a_j:nsIn K mainGlobals "_law_odd_row"=some (some (.ref f_j))) (l_j:K.lookup f_j=some ⟨oc_j,od_j,.func (fnOf "_law_odd_row" "_law_odd_row" (aV dG) (aT dG) (ar dG) .none kV_j dc_j pm_j an_j cd_j ct_j),sl_j⟩) (c_j:codeIn K cd_j "_law_odd_row"=true)
 {f_k:Addr} {od_k an_k:Option Addr} {sl_k:Array (Option TB)} {oc_k kV_k dc_k pm_k cd_k ct_k:TB}
 (a_k:nsIn K mainGlobals "_law_pieces"=some (some (.ref f_k))) (l_k:K.lookup f_k=some ⟨oc_k,od_k,.func (fnOf "_law_pieces" "_law_pieces" (aV df) (aT df) (ar df) .none kV_k dc_k pm_k an_k cd_k ct_k),sl_k⟩) (c_k:codeIn K cd_k "_law_pieces"=true)
 {f_l:Addr} {od_l an_l:Option Addr} {sl_l:Array (Option TB)} {oc_l kV_l dc_l pm_l cd_l ct_l:TB}
 (a_l:nsIn K mainGlobals "_law_row_word"=some (some (.ref f_l))) (l_l:K.lookup f_l=some ⟨oc_l,od_l,.func (fnOf "_law_row_word" "_law_row_word" (aV cX) (aT cX) (ar cX) .none kV_l dc_l pm_l an_l cd_l ct_l),sl_l⟩) (c_l:codeIn K cd_l "_law_row_word"=true)
 {f_m:Addr} {od_m an_m:Option Addr} {sl_m:Array (Option TB)} {oc_m kV_m dc_m pm_m cd_m ct_m:TB}
 (a_m:nsIn K mainGlobals "_law_word"=some (some (.ref f_m))) (l_m:K.lookup f_m=some ⟨oc_m,od_m,.func (fnOf "_law_word" "_law_word" (aV fJ) (aT fJ) (ar fJ) .none kV_m dc_m pm_m an_m cd_m ct_m),sl_m⟩) (c_m:codeIn K cd_m "_law_word"=true)
 {f_n:Addr} {od_n an_n:Option Addr} {sl_n:Array (Option TB)} {oc_n kV_n dc_n pm_n cd_n ct_n:TB}
 (a_n:nsIn K mainGlobals "_law_spoilt"=some (some (.ref f_n))) (l_n:K.lookup f_n=some ⟨oc_n,od_n,.func (fnOf "_law_spoilt" "_law_spoilt" (aV cA) (aT cA) (ar cA) .none kV_n dc_n pm_n an_n cd_n ct_n),sl_n⟩) (c_n:codeIn K cd_n "_law_spoilt"=true)
 {f_o:Addr} {od_o an_o:Option Addr} {sl_o:Array (Option TB)} {oc_o kV_o dc_o pm_o cd_o ct_o:TB}
 (a_o:nsIn K mainGlobals "_law_odd_text"=some (some (.ref f_o))) (l_o:K.lookup f_o=some ⟨oc_o,od_o,.func (fnOf "_law_odd_text" "_law_odd_text" (aV cY) (aT cY) (ar cY) .none kV_o dc_o pm_o an_o cd_o ct_o),sl_o⟩) (c_o:codeIn K cd_o "_law_odd_text"=true)
 {f_p:Addr} {od_p an_p:Option Addr} {sl_p:Array (Option TB)} {oc_p kV_p dc_p pm_p cd_p ct_p:TB}
 (a_p:nsIn K mainGlobals "words_kept"=some (some (.ref f_p))) (l_p:K.lookup f_p=some ⟨oc_p,od_p,.func (fnOf "words_kept" "words_kept" (aV dW) (aT dW) (ar dW) .none kV_p dc_p pm_p an_p cd_p ct_p),sl_p⟩) (c_p:codeIn K cd_p "words_kept"=true)
 {f_q:Addr} {od_q an_q:Option Addr} {sl_q:Array (Option TB)} {oc_q kV_q dc_q pm_q cd_q ct_q:TB}
 (a_q:nsIn K mainGlobals "is_name"=some (some (.ref f_q))) (l_q:K.lookup f_q=some ⟨oc_q,od_q,.func (fnOf "is_name" "is_name" (aV ij) (aT ij) (ar ij) .none kV_q dc_q pm_q an_q cd_q ct_q),sl_q⟩) (c_q:codeIn K cd_q "is_name"=true)
 {f_r:Addr} {od_r an_r:Option Addr} {sl_r:Array (Option TB)} {oc_r kV_r dc_r pm_r cd_r ct_r:TB}
 (a_r:nsIn K mainGlobals "is_count"=some (some (.ref f_r))) (l_r:K.lookup f_r=some ⟨oc_r,od_r,.func (fnOf "is_count" "is_count" (aV gz) (aT gz) (ar gz) .none kV_r dc_r pm_r an_r cd_r ct_r),sl_r⟩) (c_r:codeIn K cd_r "is_count"=true)
 {f_s:Addr} {od_s an_s:Option Addr} {sl_s:Array (Option TB)} {oc_s kV_s dc_s pm_s cd_s ct_s:TB}
 (a_s:nsIn K mainGlobals "is_meant"=some (some (.ref f_s))) (l_s:K.lookup f_s=some ⟨oc_s,od_s,.func (fnOf "is_meant" "is_meant" (aV ik) (aT ik) (ar ik) .none kV_s dc_s pm_s an_s cd_s ct_s),sl_s⟩) (c_s:codeIn K cd_s "is_meant"=true)
 {f_t:Addr} {od_t an_t:Option Addr} {sl_t:Array (Option TB)} {oc_t kV_t dc_t pm_t cd_t ct_t:TB}
 (a_t:nsIn K mainGlobals "has_form"=some (some (.ref f_t))) (l_t:K.lookup f_t=some ⟨oc_t,od_t,.func (fnOf "has_form" "has_form" (aV gA) (aT gA) (ar gA) .none kV_t dc_t pm_t an_t cd_t ct_t),sl_t⟩) (c_t:codeIn K cd_t "has_form"=true)
 {f_u:Addr} {od_u an_u:Option Addr} {sl_u:Array (Option TB)} {oc_u kV_u dc_u pm_u cd_u ct_u:TB}
 (a_u:nsIn K mainGlobals "form_among"=some (some (.ref f_u))) (l_u:K.lookup f_u=some ⟨oc_u,od_u,.func (fnOf "form_among" "form_among" (aV fS) (aT fS) (ar fS) .none kV_u dc_u pm_u an_u cd_u ct_u),sl_u⟩) (c_u:codeIn K cd_u "form_among"=true)
 {f_v:Addr} {od_v an_v:Option Addr} {sl_v:Array (Option TB)} {oc_v kV_v dc_v pm_v cd_v ct_v:TB}
 (a_v:nsIn K mainGlobals "row_in"=some (some (.ref f_v))) (l_v:K.lookup f_v=some ⟨oc_v,od_v,.func (fnOf "row_in" "row_in" (aV ky) (aT ky) (ar ky) .none kV_v dc_v pm_v an_v cd_v ct_v),sl_v⟩) (c_v:codeIn K cd_v "row_in"=true)
 {f_w:Addr} {od_w an_w:Option Addr} {sl_w:Array (Option TB)} {oc_w kV_w dc_w pm_w cd_w ct_w:TB}
 (a_w:nsIn K mainGlobals "procedure_in"=some (some (.ref f_w))) (l_w:K.lookup f_w=some ⟨oc_w,od_w,.func (fnOf "procedure_in" "procedure_in" (aV cL) (aT cL) (ar cL) .none kV_w dc_w pm_w an_w cd_w ct_w),sl_w⟩) (c_w:codeIn K cd_w "procedure_in"=true)
 {f_x:Addr} {od_x an_x:Option Addr} {sl_x:Array (Option TB)} {oc_x kV_x dc_x pm_x cd_x ct_x:TB}
 (a_x:nsIn K mainGlobals "formed_in"=some (some (.ref f_x))) (l_x:K.lookup f_x=some ⟨oc_x,od_x,.func (fnOf "formed_in" "formed_in" (aV fM) (aT fM) (ar fM) .none kV_x dc_x pm_x an_x cd_x ct_x),sl_x⟩) (c_x:codeIn K cd_x "formed_in"=true)
 {f_y:Addr} {od_y an_y:Option Addr} {sl_y:Array (Option TB)} {oc_y kV_y dc_y pm_y cd_y ct_y:TB}
 (a_y:nsIn K mainGlobals "refuse_wrong_row"=some (some (.ref f_y))) (l_y:K.lookup f_y=some ⟨oc_y,od_y,.func (fnOf "refuse_wrong_row" "refuse_wrong_row" (aV b_) (aT b_) (ar b_) .none kV_y dc_y pm_y an_y cd_y ct_y),sl_y⟩) (c_y:codeIn K cd_y "refuse_wrong_row"=true)
 {f_z:Addr} {od_z an_z:Option Addr} {sl_z:Array (Option TB)} {oc_z kV_z dc_z pm_z cd_z ct_z:TB}
 (a_z:nsIn K mainGlobals "read"=some (some (.ref f_z))) (l_z:K.lookup f_z=some ⟨oc_z,od_z,.func (fnOf "read" "read" (aV oj) (aT oj) (ar oj) .none kV_z dc_z pm_z an_z cd_z ct_z),sl_z⟩) (c_z:codeIn K cd_z "read"=true)
 {f_A:Addr} {od_A an_A:Option Addr} {sl_A:Array (Option TB)} {oc_A kV_A dc_A pm_A cd_A ct_A:TB}
 (a_A:nsIn K mainGlobals "_law_read"=some (some (.ref f_A))) (l_A:K.lookup f_A=some ⟨oc_A,od_A,.func (fnOf "_law_read" "_law_read" (aV gI) (aT gI) (ar gI) .none kV_A dc_A pm_A an_A cd_A ct_A),sl_A⟩) (c_A:codeIn K cd_A "_law_read"=true)
 {f_B:Addr} {od_B an_B:Option Addr} {sl_B:Array (Option TB)} {oc_B kV_B dc_B pm_B cd_B ct_B:TB}
 (a_B:nsIn K mainGlobals "_law_whole"=some (some (.ref f_B))) (l_B:K.lookup f_B=some ⟨oc_B,od_B,.func (fnOf "_law_whole" "_law_whole" (aV fT) (aT fT) (ar fT) .none kV_B dc_B pm_B an_B cd_B ct_B),sl_B⟩) (c_B:codeIn K cd_B "_law_whole"=true)
 {f_C:Addr} {od_C an_C:Option Addr} {sl_C:Array (Option TB)} {oc_C kV_C dc_C pm_C cd_C ct_C:TB}
 (a_C:nsIn K mainGlobals "_law_row_same"=some (some (.ref f_C))) (l_C:K.lookup f_C=some ⟨oc_C,od_C,.func (fnOf "_law_row_same" "_law_row_same" (aV cZ) (aT cZ) (ar cZ) .none kV_C dc_C pm_C an_C cd_C ct_C),sl_C⟩) (c_C:codeIn K cd_C "_law_row_same"=true)
 {f_D:Addr} {od_D an_D:Option Addr} {sl_D:Array (Option TB)} {oc_D kV_D dc_D pm_D cd_D ct_D:TB}
 (a_D:nsIn K mainGlobals "_law_rows_same"=some (some (.ref f_D))) (l_D:K.lookup f_D=some ⟨oc_D,od_D,.func (fnOf "_law_rows_same" "_law_rows_same" (aV ca) (aT ca) (ar ca) .none kV_D dc_D pm_D an_D cd_D ct_D),sl_D⟩) (c_D:codeIn K cd_D "_law_rows_same"=true)
 {f_E:Addr} {od_E an_E:Option Addr} {sl_E:Array (Option TB)} {oc_E kV_E dc_E pm_E cd_E ct_E:TB}
 (a_E:nsIn K mainGlobals "_law_same"=some (some (.ref f_E))) (l_E:K.lookup f_E=some ⟨oc_E,od_E,.func (fnOf "_law_same" "_law_same" (aV fN) (aT fN) (ar fN) .none kV_E dc_E pm_E an_E cd_E ct_E),sl_E⟩) (c_E:codeIn K cd_E "_law_same"=true)
 {f_F:Addr} {od_F an_F:Option Addr} {sl_F:Array (Option TB)} {oc_F kV_F dc_F pm_F cd_F ct_F:TB}
 (a_F:nsIn K mainGlobals "law"=some (some (.ref f_F))) (l_F:K.lookup f_F=some ⟨oc_F,od_F,.func (fnOf "law" "law" (aV vx) (aT vx) (ar vx) .none kV_F dc_F pm_F an_F cd_F ct_F),sl_F⟩) (c_F:codeIn K cd_F "law"=true)
 (z_all:nsIn K mainGlobals "all"=some none)
 (z_bool:nsIn K mainGlobals "bool"=some none)
 (z_enumerate:nsIn K mainGlobals "enumerate"=some none)
 (z_int:nsIn K mainGlobals "int"=some none)
 (z_isinstance:nsIn K mainGlobals "isinstance"=some none)
 (z_len:nsIn K mainGlobals "len"=some none)
 (z_list:nsIn K mainGlobals "list"=some none)
 (z_min:nsIn K mainGlobals "min"=some none)
 (z_range:nsIn K mainGlobals "range"=some none)
 (z_set:nsIn K mainGlobals "set"=some none)
 (z_str:nsIn K mainGlobals "str"=some none)
 (z_tuple:nsIn K mainGlobals "tuple"=some none)
 (z_zip:nsIn K mainGlobals "zip"=some none)
 {b7:Addr} (b_NoText:nsIn K mainGlobals "NoText"=some (some (.ref b7))) (e_NoText:excIn K b7 uF "ValueError.__new__"=true)
 {cS:Addr} (b_Twice:nsIn K mainGlobals "Twice"=some (some (.ref cS))) (e_Twice:excIn K cS uF "ValueError.__new__"=true)
 {b6:Addr} (b_NoName:nsIn K mainGlobals "NoName"=some (some (.ref b6))) (e_NoName:excIn K b6 uF "ValueError.__new__"=true)
 {bH:Addr} (b_NoValue:nsIn K mainGlobals "NoValue"=some (some (.ref bH))) (e_NoValue:excIn K bH uF "ValueError.__new__"=true)
 {cQ:Addr} (b_NoRow:nsIn K mainGlobals "NoRow"=some (some (.ref cQ))) (e_NoRow:excIn K cQ uF "ValueError.__new__"=true)
 (jH:n9 (me KK b7) [(b7,"text"),(cS,"twice"),(b6,"name"),(bH,"value"),(cQ,"row")]=some "text")
 (kJ:n9 (me KK cS) [(b7,"text"),(cS,"twice"),(b6,"name"),(bH,"value"),(cQ,"row")]=some "twice")
 (jG:n9 (me KK b6) [(b7,"text"),(cS,"twice"),(b6,"name"),(bH,"value"),(cQ,"row")]=some "name")
 (iR:n9 (me KK bH) [(b7,"text"),(cS,"twice"),(b6,"name"),(bH,"value"),(cQ,"row")]=some "value")
 (kH:n9 (me KK cQ) [(b7,"text"),(cS,"twice"),(b6,"name"),(bH,"value"),(cQ,"row")]=some "row")
 {ad_PLACES ep_PLACES:Nat} {hs_PLACES_0 hs_PLACES_1:Int} {tk_PLACES_0 tv_PLACES_0 tk_PLACES_1 tv_PLACES_1:Tok} (g_PLACES:nsIn K mainGlobals "PLACES"=some (some (.ref ad_PLACES))) (d_PLACES:K.lookup ad_PLACES=some ⟨.type "dict",none,.dict #[⟨hs_PLACES_0,.str "shared" tk_PLACES_0,.int 0 tv_PLACES_0⟩,⟨hs_PLACES_1,.str "own" tk_PLACES_1,.int 1 tv_PLACES_1⟩] ep_PLACES,#[]⟩)
 (m_PLACES_0:hs_PLACES_0=hashStr w "shared")
 (m_PLACES_1:hs_PLACES_1=hashStr w "own")
 {ad_VALUES:Addr} (g_VALUES:nsIn K mainGlobals "VALUES"=some (some (.ref ad_VALUES))) (q_VALUES:KtIs KK (.tup [.str "values",.str "S",.str "S"]) (.ref ad_VALUES))
 {ad_ROWS:Addr} (g_ROWS:nsIn K mainGlobals "ROWS"=some (some (.ref ad_ROWS))) (q_ROWS:KtIs KK (.tup [.tup [.str "skip"],.tup [.str "set",.str "V",.str "N"],.tup [.str "any",.str "V"],.tup [.str "turn",.str "V"],.tup [.str "if",.str "V",.str "N",.str "K"],.tup [.str "go",.str "K"],.tup [.str "fork",.str "K"],.tup [.str "call",.str "F"],.tup [.str "back"],.tup [.str "stop"]]) (.ref ad_ROWS))
 (n_PLACES:(ad_PLACES==sysModules)=false)
 : ∃t:Tx w KK mg,t.f_F=f_F:=
 ⟨⟨f_a,_,bK (st:=dz) (ps:=fE) U l_a c_a (fX X G a_a) λ_ _ _ _ _ _ us hl=>uU (Q:=λus=>bindArgs _ ⟨us,[]⟩=pure (List.zip fE us)) hl λ_ _=>rfl,
   f_b,_,bK (st:=fQ) (ps:=gW) U l_b c_b (fX X G a_b) λ_ _ _ _ _ _ us hl=>Hj (Q:=λus=>bindArgs _ ⟨us,[]⟩=pure (List.zip gW us)) hl λ_ _ _=>rfl,
   f_c,_,bK (st:=dR) (ps:=gX) U l_c c_c (fX X G a_c) λ_ _ _ _ _ _ us hl=>uU (Q:=λus=>bindArgs _ ⟨us,[]⟩=pure (List.zip gX us)) hl λ_ _=>rfl,
   f_d,_,bK (st:=fR) (ps:=gZ) U l_d c_d (fX X G a_d) λ_ _ _ _ _ _ us hl=>nr (Q:=λus=>bindArgs _ ⟨us,[]⟩=pure (List.zip gZ us)) hl λ_=>rfl,
   f_e,_,bK (st:=ig) (ps:=js) U l_e c_e (fX X G a_e) λ_ _ _ _ _ _ us hl=>QX (Q:=λus=>bindArgs _ ⟨us,[]⟩=pure (List.zip js us)) hl λ_ _ _ _ _=>rfl,
   f_f,_,bK (st:=cU) (ps:=d8) U l_f c_f (fX X G a_f) λ_ _ _ _ _ _ us hl=>nr (Q:=λus=>bindArgs _ ⟨us,[]⟩=pure (List.zip d8 us)) hl λ_=>rfl,
   f_g,_,bK (st:=cE) (ps:=dD) U l_g c_g (fX X G a_g) λ_ _ _ _ _ _ us hl=>Eo (Q:=λus=>bindArgs _ ⟨us,[]⟩=pure (List.zip dD us)) hl λ_ _ _ _=>rfl,
   f_h,_,bK (st:=dU) (ps:=g_) U l_h c_h (fX X G a_h) λ_ _ _ _ _ _ us hl=>Eo (Q:=λus=>bindArgs _ ⟨us,[]⟩=pure (List.zip g_ us)) hl λ_ _ _ _=>rfl,
   f_i,_,bK (st:=cG) (ps:=dF) U l_i c_i (fX X G a_i) λ_ _ _ _ _ _ us hl=>nr (Q:=λus=>bindArgs _ ⟨us,[]⟩=pure (List.zip dF us)) hl λ_=>rfl,
   f_j,_,bK (st:=dG) (ps:=fG) U l_j c_j (fX X G a_j) λ_ _ _ _ _ _ us hl=>nr (Q:=λus=>bindArgs _ ⟨us,[]⟩=pure (List.zip fG us)) hl λ_=>rfl,
   f_k,_,bK (st:=df) (ps:=gh) U l_k c_k (fX X G a_k) λ_ _ _ _ _ _ us hl=>Hj (Q:=λus=>bindArgs _ ⟨us,[]⟩=pure (List.zip gh us)) hl λ_ _ _=>rfl,
   f_l,_,bK (st:=cX) (ps:=d_) U l_l c_l (fX X G a_l) λ_ _ _ _ _ _ us hl=>Eo (Q:=λus=>bindArgs _ ⟨us,[]⟩=pure (List.zip d_ us)) hl λ_ _ _ _=>rfl,
   f_m,_,bK (st:=fJ) (ps:=iJ) U l_m c_m (fX X G a_m) λ_ _ _ _ _ _ us hl=>nr (Q:=λus=>bindArgs _ ⟨us,[]⟩=pure (List.zip iJ us)) hl λ_=>rfl,
   f_n,_,bK (st:=cA) (ps:=gj) U l_n c_n (fX X G a_n) λ_ _ _ _ _ _ us hl=>Hj (Q:=λus=>bindArgs _ ⟨us,[]⟩=pure (List.zip gj us)) hl λ_ _ _=>rfl,
   f_o,_,bK (st:=cY) (ps:=eB) U l_o c_o (fX X G a_o) λ_ _ _ _ _ _ us hl=>nr (Q:=λus=>bindArgs _ ⟨us,[]⟩=pure (List.zip eB us)) hl λ_=>rfl,
   f_p,_,bK (st:=dW) (ps:=hU) U l_p c_p (fX X G a_p) λ_ _ _ _ _ _ us hl=>uU (Q:=λus=>bindArgs _ ⟨us,[]⟩=pure (List.zip hU us)) hl λ_ _=>rfl,
   f_q,_,bK (st:=ij) (ps:=kx) U l_q c_q (fX X G a_q) λ_ _ _ _ _ _ us hl=>nr (Q:=λus=>bindArgs _ ⟨us,[]⟩=pure (List.zip kx us)) hl λ_=>rfl,
   f_r,_,bK (st:=gz) (ps:=ju) U l_r c_r (fX X G a_r) λ_ _ _ _ _ _ us hl=>nr (Q:=λus=>bindArgs _ ⟨us,[]⟩=pure (List.zip ju us)) hl λ_=>rfl,
   f_s,_,bK (st:=ik) (ps:=jy) U l_s c_s (fX X G a_s) λ_ _ _ _ _ _ us hl=>uU (Q:=λus=>bindArgs _ ⟨us,[]⟩=pure (List.zip jy us)) hl λ_ _=>rfl,
   f_t,_,bK (st:=gA) (ps:=jz) U l_t c_t (fX X G a_t) λ_ _ _ _ _ _ us hl=>uU (Q:=λus=>bindArgs _ ⟨us,[]⟩=pure (List.zip jz us)) hl λ_ _=>rfl,
   f_u,_,bK (st:=fS) (ps:=hW) U l_u c_u (fX X G a_u) λ_ _ _ _ _ _ us hl=>uU (Q:=λus=>bindArgs _ ⟨us,[]⟩=pure (List.zip hW us)) hl λ_ _=>rfl,
   f_v,_,bK (st:=ky) (ps:=mH) U l_v c_v (fX X G a_v) λ_ _ _ _ _ _ us hl=>nr (Q:=λus=>bindArgs _ ⟨us,[]⟩=pure (List.zip mH us)) hl λ_=>rfl,
   f_w,_,bK (st:=cL) (ps:=fL) U l_w c_w (fX X G a_w) λ_ _ _ _ _ _ us hl=>nr (Q:=λus=>bindArgs _ ⟨us,[]⟩=pure (List.zip fL us)) hl λ_=>rfl,
   f_x,_,bK (st:=fM) (ps:=iM) U l_x c_x (fX X G a_x) λ_ _ _ _ _ _ us hl=>nr (Q:=λus=>bindArgs _ ⟨us,[]⟩=pure (List.zip iM us)) hl λ_=>rfl,
   f_y,_,bK (st:=b_) (ps:=cM) U l_y c_y (fX X G a_y) λ_ _ _ _ _ _ us hl=>Eo (Q:=λus=>bindArgs _ ⟨us,[]⟩=pure (List.zip cM us)) hl λ_ _ _ _=>rfl,
   f_z,_,bK (st:=oj) (ps:=tV) U l_z c_z (fX X G a_z) λ_ _ _ _ _ _ us hl=>nr (Q:=λus=>bindArgs _ ⟨us,[]⟩=pure (List.zip tV us)) hl λ_=>rfl,
   f_A,_,bK (st:=gI) (ps:=iN) U l_A c_A (fX X G a_A) λ_ _ _ _ _ _ us hl=>nr (Q:=λus=>bindArgs _ ⟨us,[]⟩=pure (List.zip iN us)) hl λ_=>rfl,
   f_B,_,bK (st:=fT) (ps:=hZ) U l_B c_B (fX X G a_B) λ_ _ _ _ _ _ us hl=>nr (Q:=λus=>bindArgs _ ⟨us,[]⟩=pure (List.zip hZ us)) hl λ_=>rfl,
   f_C,_,bK (st:=cZ) (ps:=eF) U l_C c_C (fX X G a_C) λ_ _ _ _ _ _ us hl=>uU (Q:=λus=>bindArgs _ ⟨us,[]⟩=pure (List.zip eF us)) hl λ_ _=>rfl,
   f_D,_,bK (st:=ca) (ps:=dI) U l_D c_D (fX X G a_D) λ_ _ _ _ _ _ us hl=>uU (Q:=λus=>bindArgs _ ⟨us,[]⟩=pure (List.zip dI us)) hl λ_ _=>rfl,
   f_E,_,bK (st:=fN) (ps:=iP) U l_E c_E (fX X G a_E) λ_ _ _ _ _ _ us hl=>uU (Q:=λus=>bindArgs _ ⟨us,[]⟩=pure (List.zip iP us)) hl λ_ _=>rfl,
   f_F,_,bK (st:=vx) (ps:=yg) U l_F c_F (fX X G a_F) λ_ _ _ _ _ _ us hl=>nr (Q:=λus=>bindArgs _ ⟨us,[]⟩=pure (List.zip yg us)) hl λ_=>rfl,
   kF X G z_all,
   kF X G z_bool,
   kF X G z_enumerate,
   kF X G z_int,
   kF X G z_isinstance,
   kF X G z_len,
   kF X G z_list,
   kF X G z_min,
   kF X G z_range,
   kF X G z_set,
   kF X G z_str,
   kF X G z_tuple,
   kF X G z_zip,
   b7,⟨fX X G b_NoText,(U.exc e_NoText).1⟩,
   cS,⟨fX X G b_Twice,(U.exc e_Twice).1⟩,
   b6,⟨fX X G b_NoName,(U.exc e_NoName).1⟩,
   bH,⟨fX X G b_NoValue,(U.exc e_NoValue).1⟩,
   cQ,⟨fX X G b_NoRow,(U.exc e_NoRow).1⟩,
   jH,
   kJ,
   jG,
   iR,
   kH,
   ⟨_,fX X G g_VALUES,q_VALUES⟩,
   ⟨_,fX X G g_ROWS,q_ROWS⟩,
   λa e=>by rw[fX X G g_PLACES]at e;cases e;exact n_PLACES,
   ⟨_,fX X G g_PLACES,_,_,U.look _ _ d_PLACES (λ_ _ z=>nomatch z),⟨⟨m_PLACES_0,⟨_,rfl⟩,_,rfl⟩,⟨⟨m_PLACES_1,⟨_,rfl⟩,_,rfl⟩,True.intro⟩⟩,by decide⟩⟩,rfl⟩
def Lf{l:PySem.W.OpenLaw}{w:World}{K:Tw}{mg:Str->Option TB}{fa:Addr}(hfa:mg "law"=some (.ref fa)) (T:∃t:Tx w K mg,True) :
 ∃fd:FuncData,(∀(s:Tv)(v:TB),BindsTo s fd ⟨[v],[]⟩ [("_law_script",v)])/\∀base:Heap,cw l.prog w K mg base (jI l.prog w) 10 fa fd ["_law_script"] (PU yi):=by
 obtain⟨t,_⟩:=T;have e:=hfa.symm.trans t.h_F.gl;cases e;obtain⟨oc,od,kV,doc,pm,an,cdv,ct,osl,efd,lk,hcd⟩:=t.h_F.fu.ex;exact⟨t.fd_F,λs v=>by rw[efd];exact .of_eq rfl,λbase=>cw.top (Le t)⟩
def Ow{K:Tw}{ad_VALUES ad_ROWS ad_ROWS_0 ad_ROWS_1 ad_ROWS_2 ad_ROWS_3 ad_ROWS_4 ad_ROWS_5 ad_ROWS_6 ad_ROWS_7 ad_ROWS_8 ad_ROWS_9:Addr}
 (g_VALUES:nsIn K mainGlobals "VALUES"=some (some (.ref ad_VALUES)))
 {od_VALUES:Option Addr} {n_VALUES:Nat} {sl_VALUES:Array (Option TB)} {tk_VALUES_0 tk_VALUES_1 tk_VALUES_2:Tok} (d_VALUES:K.lookup ad_VALUES=some ⟨.type "tuple",od_VALUES,.seq #[.str "values" tk_VALUES_0,.str "S" tk_VALUES_1,.str "S" tk_VALUES_2] n_VALUES,sl_VALUES⟩)
 (g_ROWS:nsIn K mainGlobals "ROWS"=some (some (.ref ad_ROWS)))
 {od_ROWS:Option Addr} {n_ROWS:Nat} {sl_ROWS:Array (Option TB)} (d_ROWS:K.lookup ad_ROWS=some ⟨.type "tuple",od_ROWS,.seq #[.ref ad_ROWS_0,.ref ad_ROWS_1,.ref ad_ROWS_2,.ref ad_ROWS_3,.ref ad_ROWS_4,.ref ad_ROWS_5,.ref ad_ROWS_6,.ref ad_ROWS_7,.ref ad_ROWS_8,.ref ad_ROWS_9] n_ROWS,sl_ROWS⟩)
 {od_ROWS_0:Option Addr} {n_ROWS_0:Nat} {sl_ROWS_0:Array (Option TB)} {tk_ROWS_0_0:Tok} (d_ROWS_0:K.lookup ad_ROWS_0=some ⟨.type "tuple",od_ROWS_0,.seq #[.str "skip" tk_ROWS_0_0] n_ROWS_0,sl_ROWS_0⟩)
 {od_ROWS_1:Option Addr} {n_ROWS_1:Nat} {sl_ROWS_1:Array (Option TB)} {tk_ROWS_1_0 tk_ROWS_1_1 tk_ROWS_1_2:Tok} (d_ROWS_1:K.lookup ad_ROWS_1=some ⟨.type "tuple",od_ROWS_1,.seq #[.str "set" tk_ROWS_1_0,.str "V" tk_ROWS_1_1,.str "N" tk_ROWS_1_2] n_ROWS_1,sl_ROWS_1⟩)
 {od_ROWS_2:Option Addr} {n_ROWS_2:Nat} {sl_ROWS_2:Array (Option TB)} {tk_ROWS_2_0 tk_ROWS_2_1:Tok} (d_ROWS_2:K.lookup ad_ROWS_2=some ⟨.type "tuple",od_ROWS_2,.seq #[.str "any" tk_ROWS_2_0,.str "V" tk_ROWS_2_1] n_ROWS_2,sl_ROWS_2⟩)
 {od_ROWS_3:Option Addr} {n_ROWS_3:Nat} {sl_ROWS_3:Array (Option TB)} {tk_ROWS_3_0 tk_ROWS_3_1:Tok} (d_ROWS_3:K.lookup ad_ROWS_3=some ⟨.type "tuple",od_ROWS_3,.seq #[.str "turn" tk_ROWS_3_0,.str "V" tk_ROWS_3_1] n_ROWS_3,sl_ROWS_3⟩)
 {od_ROWS_4:Option Addr} {n_ROWS_4:Nat} {sl_ROWS_4:Array (Option TB)} {tk_ROWS_4_0 tk_ROWS_4_1 tk_ROWS_4_2 tk_ROWS_4_3:Tok} (d_ROWS_4:K.lookup ad_ROWS_4=some ⟨.type "tuple",od_ROWS_4,.seq #[.str "if" tk_ROWS_4_0,.str "V" tk_ROWS_4_1,.str "N" tk_ROWS_4_2,.str "K" tk_ROWS_4_3] n_ROWS_4,sl_ROWS_4⟩)
 {od_ROWS_5:Option Addr} {n_ROWS_5:Nat} {sl_ROWS_5:Array (Option TB)} {tk_ROWS_5_0 tk_ROWS_5_1:Tok} (d_ROWS_5:K.lookup ad_ROWS_5=some ⟨.type "tuple",od_ROWS_5,.seq #[.str "go" tk_ROWS_5_0,.str "K" tk_ROWS_5_1] n_ROWS_5,sl_ROWS_5⟩)
 {od_ROWS_6:Option Addr} {n_ROWS_6:Nat} {sl_ROWS_6:Array (Option TB)} {tk_ROWS_6_0 tk_ROWS_6_1:Tok} (d_ROWS_6:K.lookup ad_ROWS_6=some ⟨.type "tuple",od_ROWS_6,.seq #[.str "fork" tk_ROWS_6_0,.str "K" tk_ROWS_6_1] n_ROWS_6,sl_ROWS_6⟩)
 {od_ROWS_7:Option Addr} {n_ROWS_7:Nat} {sl_ROWS_7:Array (Option TB)} {tk_ROWS_7_0 tk_ROWS_7_1:Tok} (d_ROWS_7:K.lookup ad_ROWS_7=some ⟨.type "tuple",od_ROWS_7,.seq #[.str "call" tk_ROWS_7_0,.str "F" tk_ROWS_7_1] n_ROWS_7,sl_ROWS_7⟩)
 {od_ROWS_8:Option Addr} {n_ROWS_8:Nat} {sl_ROWS_8:Array (Option TB)} {tk_ROWS_8_0:Tok} (d_ROWS_8:K.lookup ad_ROWS_8=some ⟨.type "tuple",od_ROWS_8,.seq #[.str "back" tk_ROWS_8_0] n_ROWS_8,sl_ROWS_8⟩)
 {od_ROWS_9:Option Addr} {n_ROWS_9:Nat} {sl_ROWS_9:Array (Option TB)} {tk_ROWS_9_0:Tok} (d_ROWS_9:K.lookup ad_ROWS_9=some ⟨.type "tuple",od_ROWS_9,.seq #[.str "stop" tk_ROWS_9_0] n_ROWS_9,sl_ROWS_9⟩)
 : Be K [(ad_VALUES,[.str "values",.str "S",.str "S"]),(ad_ROWS,[.ref ad_ROWS_0,.ref ad_ROWS_1,.ref ad_ROWS_2,.ref ad_ROWS_3,.ref ad_ROWS_4,.ref ad_ROWS_5,.ref ad_ROWS_6,.ref ad_ROWS_7,.ref ad_ROWS_8,.ref ad_ROWS_9]),(ad_ROWS_0,[.str "skip"]),(ad_ROWS_1,[.str "set",.str "V",.str "N"]),(ad_ROWS_2,[.str "any",.str "V"]),(ad_ROWS_3,[.str "turn",.str "V"]),(ad_ROWS_4,[.str "if",.str "V",.str "N",.str "K"]),(ad_ROWS_5,[.str "go",.str "K"]),(ad_ROWS_6,[.str "fork",.str "K"]),(ad_ROWS_7,[.str "call",.str "F"]),(ad_ROWS_8,[.str "back"]),(ad_ROWS_9,[.str "stop"])]:=by
 intro p hp;simp only[cJ,iy,pK]at hp;rcases hp with rfl|rfl|rfl|rfl|rfl|rfl|rfl|rfl|rfl|rfl|rfl|rfl
 .exact⟨rfl,_,_,_,d_VALUES,rfl,rfl,(show 3<=sizeLine by decide),.cons ⟨_,rfl⟩ (.cons ⟨_,rfl⟩ (.cons ⟨_,rfl⟩ (.nil)))⟩
 .exact⟨rfl,_,_,_,d_ROWS,rfl,rfl,(show 10<=sizeLine by decide),.cons rfl (.cons rfl (.cons rfl (.cons rfl (.cons rfl (.cons rfl (.cons rfl (.cons rfl (.cons rfl (.cons rfl (.nil))))))))))⟩
 .exact⟨rfl,_,_,_,d_ROWS_0,rfl,rfl,(show 1<=sizeLine by decide),.cons ⟨_,rfl⟩ (.nil)⟩
 .exact⟨rfl,_,_,_,d_ROWS_1,rfl,rfl,(show 3<=sizeLine by decide),.cons ⟨_,rfl⟩ (.cons ⟨_,rfl⟩ (.cons ⟨_,rfl⟩ (.nil)))⟩
 .exact⟨rfl,_,_,_,d_ROWS_2,rfl,rfl,(show 2<=sizeLine by decide),.cons ⟨_,rfl⟩ (.cons ⟨_,rfl⟩ (.nil))⟩
 .exact⟨rfl,_,_,_,d_ROWS_3,rfl,rfl,(show 2<=sizeLine by decide),.cons ⟨_,rfl⟩ (.cons ⟨_,rfl⟩ (.nil))⟩
 .exact⟨rfl,_,_,_,d_ROWS_4,rfl,rfl,(show 4<=sizeLine by decide),.cons ⟨_,rfl⟩ (.cons ⟨_,rfl⟩ (.cons ⟨_,rfl⟩ (.cons ⟨_,rfl⟩ (.nil))))⟩
 .exact⟨rfl,_,_,_,d_ROWS_5,rfl,rfl,(show 2<=sizeLine by decide),.cons ⟨_,rfl⟩ (.cons ⟨_,rfl⟩ (.nil))⟩
 .exact⟨rfl,_,_,_,d_ROWS_6,rfl,rfl,(show 2<=sizeLine by decide),.cons ⟨_,rfl⟩ (.cons ⟨_,rfl⟩ (.nil))⟩
 .exact⟨rfl,_,_,_,d_ROWS_7,rfl,rfl,(show 2<=sizeLine by decide),.cons ⟨_,rfl⟩ (.cons ⟨_,rfl⟩ (.nil))⟩
 .exact⟨rfl,_,_,_,d_ROWS_8,rfl,rfl,(show 1<=sizeLine by decide),.cons ⟨_,rfl⟩ (.nil)⟩
 .exact⟨rfl,_,_,_,d_ROWS_9,rfl,rfl,(show 1<=sizeLine by decide),.cons ⟨_,rfl⟩ (.nil)⟩
end W
namespace W
open PySem L2 L3
theorem m9{α:Type}(g:α->D){asg:D->Bool->En->Option En}{fr:Bool}{body:En->Res Fl}(P:En->Prop)(p:α->Bool)(res:α->R):∀(xs:List α)(env:En),P env->
 (∀a∈xs,∀env,P env->∃ip,asg (g a) fr env=some ip/\((p a=true/\body ip=.ok (.rt (res a)))\/(p a=false/\∃env2,body ip=.ok (.nx env2)/\P env2)))->
 (∀a,xs.find? p=some a->de asg fr body (xs.map g) env=.ok (.rt (res a)))/\(xs.find? p=none->∃bn,de asg fr body (xs.map g) env=.ok (.nx bn)/\P bn)
 |[],env,h,_=>⟨λ_ e=>(by cases e),λ_=>⟨env,rfl,h⟩⟩
 |a::r,env,h,st=>by
  obtain⟨ip,h1,h2⟩:=st a (by simp) env h;rw[jk,c7];rcases h2 with⟨hp,hb⟩|⟨hp,env2,hb,h3⟩
  .rw[hp];refine⟨λb e=>?_,λe=>(by cases e)⟩;cases e;unfold de;rw[h1];dsimp only;rw[hb];rfl
  .rw[hp];obtain⟨i1,i2⟩:=m9 g P p res r env2 h3 λb hb=>st b (by simp[hb]);refine⟨λb e=>?_,λe=>?_⟩
   .rw[<- i1 b e];conv=>lhs;unfold de
    rw[h1];dsimp only;rw[hb];rfl
   .obtain⟨bn,e1,e2⟩:=i2 e;refine⟨bn,?_,e2⟩;rw[<- e1];conv=>lhs;unfold de
    rw[h1];dsimp only;rw[hb];rfl
noncomputable def Iu:Int:=1000000000000000000000000000000000000000000000000000000000000
def Rt:(0:Int)<1000000000000000000000000000000000000000000000000000000000000:=by decide
def dg(c p n:Int):Int:=(c%Iu*48271+11)%p%n
def dj(c p n:Int)(h:0<n):0<=dg c p n:=Int.emod_nonneg _ (by lia)
def dn(c p n:Int)(h:0<n):dg c p n<n:=Int.emod_lt_of_pos _ h
def aU(c p n:Int)(hp:0<p)(hn:0<n):ay [.int c,.int p,.int n]=.ok (.val (.int (dg c p n)) true []):=by simp_arith[ay,oR,hp,hn,Rt];rfl
def qL(ns:List Int)(k:Int):Int:=if k<ns.length then(bI ns k).getD 0%Iu else 0
def zw(ns:List Int)(k:Int)(h0:0<=k):dA [.lst (ns.map .int),.int k]=.ok (.val (.int (qL ns k)) true []):=by
 by_cases h:k<ns.length
 .have hd:decide (k<(ns.length:Int))=true:=dM h;obtain⟨a,ea,_⟩:=mz h0 h;have ha:bI (ns.map D.int) k=some (.int a):=by rw[m7,ea];rfl
  simp_arith[dA,jr,cc,hd,ha,Rt];unfold qL;rw[dL h,ea];rfl
 .have hd:decide (k<(ns.length:Int))=false:=fZ h;simp_arith[dA,jr,cc,hd];unfold qL;rw[f7 h]
noncomputable def Wd:D->Prop
 |.str _=>True
 |.int _=>True
 |_=>False
theorem Wd.flat{d:D}(h:Wd d):d.flat=true:=by cases d<;>first|rfl|exact h.elim
def vy(i:Int):fU [.int i]=.ok (.val (.bl true) true []):=by simp_arith[fU,o_]
def t6(ds:List D):i_ ds ds=ds.map λd=>.tup [d,d]:=by
 induction ds with
 |nil=>rfl
 |cons d r ih=>rw[c7];unfold i_;rw[ih]
def Lg{x:Int}:Af "str" (.int x)=false:=(rfl)
def qM{x:Str}:Af "str" (.str x)=true:=(rfl)
def Lh{x:Str}:Af "int" (.str x)=false:=(rfl)
def Row(ds:List D):Prop:=ds.length<=4/\∀d∈ds,Wd d
theorem Row.aL{ds:List D}(h:Row ds):D.aL ds=true:=fA λd hd=>(h.2 d hd).flat
theorem Row.iS{ds:List D}(h:Row ds):D.iS ds<=0:=Av λd hd=>by have:=h.2 d hd;cases d<;>first|exact dJ _|exact this.elim
def Ep{a b:Option Sl}{d:D}{f:Bool}(h:Wd d):dc [a,b,some (.val d f),some (.val d f)]=.ok (.nx [a,b,some (.val d f),some (.val d f)]):=by
 cases d with
 |str x=>simp_arith[dc,qM,Lh]
 |int x=>simp_arith[dc,Lg,DP,vy]
 |_=>exact h.elim
def Er(ds:List D)(h:Row ds):gr [.tup ds,.tup ds]=.ok (.val (.bl true) true []):=by
 have hfl:=h.aL;have hdp:=h.iS;obtain⟨bn,lp,e2,e3,rfl⟩:=ya (fr:=true) (asg:=gT 2 (aJ (gN 2) (aJ (gN 3) cg))) (body:=dc) (λd:D=>D.tup [d,d]) (λ_ env=>∃e2 e3,env=[some (.val (.tup ds) false),some (.val (.tup ds) false),e2,e3]) ds [] [some (.val (.tup ds) false),some (.val (.tup ds) false),none,none] ⟨_,_,rfl⟩
  (by rintro pre post d env _ ⟨e2,e3,rfl⟩ hd;exact⟨_,_,rfl,Ep (h.2 d hd),_,_,rfl⟩)
 have hne:(((ds.length:Nat):Int)==((ds.length:Nat):Int))=true:=RW _;have hdd:(D.tup ds).dep<=50:=by rw[Ar];lia
 simp_arith[gr,lN,iI,hne,t6,hfl];simp_arith[lp,hfl];rw[bu (a:=.val (.tup ds) true []) (b:=.val (.tup ds) true []) hdd hdd];simp_arith[fm]
noncomputable abbrev Pr:=Str×List (List D)
noncomputable def t7(p:Pr):D:=.tup [.str p.1,.lst (p.2.map .tup)]
def Iv(s o:Int)(ps:List Pr):D:=.tup [.int s,.int o,.lst (ps.map t7)]
def Ox(p:Pr):Prop:=p.1.length<=20/\0<p.2.length/\p.2.length<=400/\∀r∈p.2,Row r
def BJ(p:Pr)(h:Ox p):fV [t7 p,t7 p]=.ok (.val (.bl true) true []):=by
 obtain⟨n,rs⟩:=p;obtain⟨_,_,h1,h2⟩:=h;dsimp only at h1 h2;have hne:((((rs.map D.tup).length:Nat):Int)==(((rs.map D.tup).length:Nat):Int))=true:=RW _;have hz:i_ (rs.map D.tup) (rs.map D.tup)=rs.map λr=>D.tup [D.tup r,D.tup r]:=by rw[t6,iA];rfl
 have hc:=bX (mk:=λd=>gT 2 (aJ (gN 0) (aJ (gN 1) cg)) d false (c_ [some (.val (t7 (n,rs)) false),some (.val (t7 (n,rs)) false)] 2 [])) (test:=λ_=>.ok true) (elt:=gD) (λr:List D=>D.tup [D.tup r,D.tup r]) (λ_=>.val (.bl true) true []) rs
  λr hr=>⟨[some (.val (.tup r) false),some (.val (.tup r) false)],rfl,rfl,by simp_arith[gD,Er r (h2 r hr),(h2 r hr).aL]⟩
 have hn:(n==n)=true:=RW n;simp_arith[fV,kC,t7,qM,iI,fm,hne,hz];rw[t7]at hc;rw[bZ (by rw[cc];lia) hc,fC (λ_=>D.bl true),bO (aX (λ_=>D.bl true) rs λ_=>rfl)];simp_arith[nE,m5]
def Es(p:Pr):(t7 p).flat=false:=by unfold t7;simp only[kg,a_,mx,my,pP,lW]
def Hk(s o:Int)(ps:List Pr)(hl:ps.length<=400)(h:∀p∈ps,Ox p):iQ [Iv s o ps,Iv s o ps]=.ok (.val (.bl true) true []):=by
 have hne:((((ps.map t7).length:Nat):Int)==(((ps.map t7).length:Nat):Int))=true:=RW _;have hz:i_ (ps.map t7) (ps.map t7)=ps.map λp=>D.tup [t7 p,t7 p]:=by rw[t6,iA];rfl
 have hc:=bX (mk:=λd=>gT 2 (aJ (gN 0) (aJ (gN 1) cg)) d false (c_ [some (.val (Iv s o ps) false),some (.val (Iv s o ps) false)] 2 [])) (test:=λ_=>.ok true) (elt:=jW) (λp:Pr=>D.tup [t7 p,t7 p]) (λ_=>.val (.bl true) true []) ps
  λp hp=>⟨[some (.val (t7 p) false),some (.val (t7 p) false)],rfl,rfl,by simp_arith[jW,BJ p (h p hp),Es p]⟩
 have hcut:dN [D.int s,D.int o,D.lst (ps.map t7)] none (some 2)=[D.int s,D.int o]:=(rfl);simp_arith[iQ,rC,Iv,vy,iI,fm,hne,hz,hcut];rw[Iv]at hc;rw[bZ (by rw[cc];lia) hc,fC (λ_=>D.bl true),bO (aX (λ_=>D.bl true) ps λ_=>rfl)];simp_arith[nE,m5]
noncomputable def lets:List Nat:=("bcdefghjklopqrstuvwxyz" : Str).cps.toList
noncomputable def mainL:List Nat:=("main" : Str).cps.toList
def mL:lets.length=22:=by decide
def zx:lets.Nodup:=by decide
def BK:∀x∈lets,x∉mainL:=by decide
def Li(c st:Int)(i j:Nat)(hi:i<3)(hj:j<3)(hij:i≠j)(h1:1<=st)(h2:st<=7):(c+i*st)%22≠(c+j*st)%22:=by
 have hi:i=0\/i=1\/i=2:=by lia
 have hj:j=0\/j=1\/j=2:=by lia
 rcases hi with rfl|rfl|rfl<;>rcases hj with rfl|rfl|rfl<;>first|exact(hij rfl).elim|(simp;lia)
def wW(c:Int)(k:Nat):Nat:=lets.getD ((c+k*(1+c/22%7))%22).toNat 0
def Ax(c:Int)(k:Nat):wW c k∈lets:=by
 unfold wW;have h:((c+k*(1+c/22%7))%22).toNat<lets.length:=by rw[mL];lia
 rw[rL,nK h];exact SX h
def Lj(c:Int)(i j:Nat)(hi:i<3)(hj:j<3)(hij:i≠j):wW c i≠wW c j:=by
 intro e;have h:=Li c (1+c/22%7) i j hi hj hij (by lia) (by lia);unfold wW at e;have h1:((c+i*(1+c/22%7))%22).toNat<lets.length:=by rw[mL];lia
 have h2:((c+j*(1+c/22%7))%22).toNat<lets.length:=by rw[mL];lia
 rw[rL,nK h1,rL,nK h2]at e;have:=(List.getElem?_inj (i:=((c+i*(1+c/22%7))%22).toNat) (j:=((c+j*(1+c/22%7))%22).toNat) h1 zx).mp (by rw[nK h1,nK h2];exact ly some e);generalize(c+i*(1+c/22%7))=x at *;generalize(c+j*(1+c/22%7))=y at *;lia
def ww(lot:Int)(bl:List Nat)(sp:Nat)(c:Int)(k:Nat):List Nat:=if lot=3 then mainL.take (1+k)else if lot=2 then mainL++[wW c k]else bl.take sp++[wW c k]++bl.drop (sp+1)
def zy{bl:List Nat}{sp:Nat}{x:Nat}(h:sp<bl.length):(bl.take sp++[x]++bl.drop (sp+1))[sp]?=some x:=by
 have hl:(bl.take sp).length=sp:=by rw[lC];lia
 rw[kI,jP (by lia),hl];simp
def Et(lot:Int)(bl:List Nat)(sp:Nat)(c:Int)(k:Nat)(h:sp<bl.length)(hk:k<3):ww lot bl sp c k≠mainL:=by
 unfold ww;have h4:mainL.length=4:=by decide
 split
 .intro e;have:=ly List.length e;rw[lC]at this;lia
 .split
  .intro e;have:=ly List.length e;simp at this
  .intro e;have:=zy (x:=wW c k) h;rw[e]at this;exact BK _ (Ax c k) (gK this)
def Lk(lot:Int)(bl:List Nat)(sp:Nat)(c:Int)(i j:Nat)(h:sp<bl.length)(hi:i<3)(hj:j<3)(hij:i≠j):ww lot bl sp c i≠ww lot bl sp c j:=by
 unfold ww;have h4:mainL.length=4:=by decide
 have hs:=Lj c i j hi hj hij;split
 .intro e;have:=ly List.length e;rw[lC,lC]at this;lia
 .split
  .intro e;exact hs (by simpa using e)
  .intro e;have e1:=zy (x:=wW c i) h;have e2:=zy (x:=wW c j) h;rw[e,e2]at e1;exact hs (jD e1).symm
noncomputable abbrev T(l:List Nat):Str:=⟨l.toArray⟩
def cC(l:List Nat):(T l).length=l.length:=by show l.toArray.size=_;simp
def Eu(a b:List Nat):T a++T b=T (a++b):=by show(⟨a.toArray++b.toArray⟩ : Str)=⟨(a++b).toArray⟩;simp
def mM(s:Str):s=T s.cps.toList:=by cases s;rfl
def yp{a b:List Nat}(h:T a=T b):a=b:=by
 have h2:(T a).cps.toList=(T b).cps.toList:=by rw[h]
 exact h2
def Ll{x y:Str}{f g:Bool}{al bl:List Nat}(h:x.length+y.length<=1000000):bU (.val (.str x) f al) (.val (.str y) g bl)=.ok (.val (.str (x++y)) true []):=dL h
def cn{a b:List Nat}{f g:Bool}{al bl:List Nat}(h:a.length+b.length<=1000000):bU (.val (.str (T a)) f al) (.val (.str (T b)) g bl)=.ok (.val (.str (T (a++b))) true []):=by rw[Ll (by rw[cC,cC];exact h),Eu]
def t8{z:Str}{k:Int}{f:Bool}{al:List Nat}{c:Nat}(h:z.length<=1000000)(h2:bI z.cps.toList k=some c):oP (.str z) (.int k) f al=.ok (.val (.str (T [c])) true []):=by
 show(if z.length<=lim then(match bI z.cps.toList k with
  |some c=>(Res.ok (.val (.str ⟨#[c]⟩) true []):Res R)
  |none=>.stuck)else .stuck)=_
 rw[dL (show z.length<=lim from h),h2]
def yq(bl:List Nat)(k:Nat)(h:k<=bl.length):Txt.slice (T bl) none (some (k:Int))=T (bl.take k):=by
 have:=StrLaws.sliceText_to (x:=T bl) (j:=(k:Int)) ⟨by lia,by show(k:Int)<=bl.toArray.toList.length;simp;lia⟩;refine(Eq.trans ?_ this).trans ?_
 .rfl
 .show(⟨((bl.toArray.toList.drop 0).take ((k:Int)-0).toNat).toArray⟩ : Str)=_;simp
def pw(bl:List Nat)(k:Nat)(h:k<=bl.length):Txt.slice (T bl) (some (k:Int)) none=T (bl.drop k):=by
 have:=StrLaws.sliceText_from (x:=T bl) (i:=(k:Int)) ⟨by lia,by show(k:Int)<=bl.toArray.toList.length;simp;lia⟩;refine(Eq.trans ?_ this).trans ?_
 .rfl
 .show(⟨((bl.toArray.toList.drop (k:Int).toNat).take ((bl.toArray.toList.length:Int)-k).toNat).toArray⟩ : Str)=_;have e:((bl.length:Int)-k).toNat=(bl.drop k).length:=by rw[Tp];lia
  rw[show(bl.toArray.toList.length:Int)=bl.length by simp,show((k:Int).toNat)=k by lia,e,List.toList_toArray,List.take_length]
def qN(ns:List D)(k:Nat):dN ns none (some ((k:Nat):Int))=ns.take k:=by unfold dN;have h1:HT.sIx ns.length ns.length (some ((k:Nat):Int))=min k ns.length:=HT.sIx_nat ns.length ns.length k;have h2:HT.sIx ns.length 0 none=0:=rfl;rw[h1,h2,List.drop_zero,Nat.sub_zero,List.take_eq_take_iff];lia
def BL(ns:List D)(k:Nat):dN ns (some ((k:Nat):Int)) none=ns.drop k:=by
 unfold dN;have h1:HT.sIx ns.length 0 (some ((k:Nat):Int))=min k ns.length:=HT.sIx_nat ns.length 0 k;have h2:HT.sIx ns.length ns.length none=ns.length:=rfl;rw[h1,h2];by_cases h:k<=ns.length
 .rw[Nat.min_eq_left h,List.take_of_length_le (by rw[Tp];lia)]
 .rw[Nat.min_eq_right (by lia),List.drop_of_length_le (dJ _),List.drop_of_length_le (by lia),List.take_nil]
noncomputable def abc:List Nat:=("abcdefghijklmnopqrstuvwxyz" : Str).cps.toList
def Lm:∀x∈abc,97<=x/\x<=122:=by decide
def Ln{k:Int}(h0:0<=k)(h:k<26):∃a,(97<=a/\a<=122)/\bI ("abcdefghijklmnopqrstuvwxyz" : Str).cps.toList k=some a:=by
 have hl:abc.length=26:=by decide
 obtain⟨a,ea,em⟩:=mz (xs:=abc) h0 (by lia);exact⟨a,Lm a (gK em),ea⟩
def Hl:("abcdefghijklmnopqrstuvwxyz" : Str).length<=1000000:=by decide
def qO:("bcdefghjklopqrstuvwxyz" : Str).length<=1000000:=by decide
def wx(c:Int)(k:Nat):bI ("bcdefghjklopqrstuvwxyz" : Str).cps.toList ((c+k*(1+c/22%7))%22)=some (wW c k):=by
 have h:((c+k*(1+c/22%7))%22).toNat<lets.length:=by rw[mL];lia
 obtain⟨a,ea,eb⟩:=mz (xs:=lets) (k:=(c+k*(1+c/22%7))%22) (by lia) (by rw[mL];lia);unfold wW;rw[rL,eb];exact ea
def zA:("main" : Str)=T mainL:=mM _
def BM(c sz:Int){n:Nat}(hn:n<=8){e1 e4:Option Sl}:∃(bl:List Nat)(x:Option Sl),bl.length=n/\(∀x∈bl,97<=x/\x<=122)/\
 de (gN 4) true g9 ((List.range n).map λk=>D.int (k:Nat)) [some (.val (.int c) false),e1,some (.val (.int sz) true),some (.val (.str "") true),e4,none,none,none,none,none]
  = .ok (.nx [some (.val (.int c) false),e1,some (.val (.int sz) true),some (.val (.str (T bl)) true),x,none,none,none,none,none]):=by
 obtain⟨bn,lp,bl,x,rfl,hb,hx⟩:=lf (λk:Nat=>D.int k) (asg:=gN 4) (fr:=true) (body:=g9) (List.range n) (λpre env=>∃(bl:List Nat)(x:Option Sl),env=[some (.val (.int c) false),e1,some (.val (.int sz) true),some (.val (.str (T bl)) true),x,none,none,none,none,none]/\bl.length=pre.length/\∀x∈bl,97<=x/\x<=122) (List.range n) []
  [some (.val (.int c) false),e1,some (.val (.int sz) true),some (.val (.str "") true),e4,none,none,none,none,none] rfl ⟨[],_,by rw[mM ""];rfl,rfl,λ_ z=>by cases z⟩
  (by
    rintro pre post k env ea ⟨bl,x,rfl,hb,hx⟩;have hl:pre.length+post.length+1=n:=by have:=ly List.length ea;simp at this;lia
    have hk:k<n:=by
     have:k∈List.range n:=by rw[ea];simp
     exact kR.mp this
    generalize hz:((k:Nat):Int)=z;have k1:-18446744073709551616<z:=by lia
    have k2:z<18446744073709551616:=by lia
    obtain⟨a,har,ha⟩:=Ln (dj (c+5*z*z) 1093 26 (by decide)) (dn (c+5*z*z) 1093 26 (by decide));have cj:bl.length+[a].length<=1000000:=by simp;lia
    refine⟨[some (.val (.int c) false),e1,some (.val (.int sz) true),some (.val (.str (T bl)) true),some (.val (.int z) true),none,none,none,none,none],[some (.val (.int c) false),e1,some (.val (.int sz) true),some (.val (.str (T (bl++[a]))) true),some (.val (.int z) true),none,none,none,none,none],rfl,?_,bl++[a],_,rfl,by simp[hb],λx hx'=>(ir.mp hx').elim (hx x) λz=>by simp at z;subst z;exact har⟩;simp_arith[g9,k1,k2,aU (c+5*z*z) 1093 26 (by decide) (by decide),t8 Hl ha,cn cj])
 exact⟨bl,x,by rw[hb];simp,hx,lp⟩
def Nm(l:List Nat):Prop:=(1<=l.length/\l.length<=8)/\∀x∈l,97<=x/\x<=122
instance (l:List Nat):Decidable (Nm l):=by unfold Nm;infer_instance
def Hm:∀x∈lets,97<=x/\x<=122:=by decide
def wy:Nm mainL:=⟨by decide,by decide⟩
def Lo(lot:Int){bl:List Nat}{sp:Nat}(c:Int){k:Nat}(h:sp<bl.length)(hb:bl.length<=8)(hl:∀x∈bl,97<=x/\x<=122)(hk:k<3):Nm (ww lot bl sp c k):=by
 have hs:=Hm _ (Ax c k);have h4:mainL.length=4:=by decide
 unfold ww;split
 .exact⟨by rw[lC];lia,λx hx=>wy.2 x (rE hx)⟩
 .split
  .refine⟨by simp[h4],λx hx=>?_⟩;rcases ir.mp hx with hx|hx
   .exact wy.2 x hx
   .simp at hx;subst hx;exact hs
  .refine⟨by simp;lia,λx hx=>?_⟩;rcases ir.mp hx with hx|hx
   .rcases ir.mp hx with hx|hx
    .exact hl x (rE hx)
    .simp at hx;subst hx;exact hs
   .exact hl x (Sn hx)
def Ew(c sz lot:Int){bl:List Nat}{sp m:Nat}(hs:sp<bl.length)(hb:bl.length<=8)(hm:m<=3){e4:Option Sl}:∃(x y z:Option Sl),
 de (gN 4) true dC ((List.range m).map λk=>D.int (k:Nat)) [some (.val (.int c) false),some (.own [] true),some (.val (.int sz) true),some (.val (.str (T bl)) true),e4,some (.val (.int (sp:Nat)) true),some (.val (.int lot) true),none,none,none]
  = .ok (.nx [some (.val (.int c) false),some (.own ((List.range m).map λk=>D.str (T (ww lot bl sp c k))) true),some (.val (.int sz) true),some (.val (.str (T bl)) true),x,some (.val (.int (sp:Nat)) true),some (.val (.int lot) true),y,z,none]):=by
 obtain⟨bn,lp,x,y,z,rfl⟩:=lf (λk:Nat=>D.int k) (asg:=gN 4) (fr:=true) (body:=dC) (List.range m) (λpre env=>∃(x y z:Option Sl),env=[some (.val (.int c) false),some (.own (pre.map λk=>D.str (T (ww lot bl sp c k))) true),some (.val (.int sz) true),some (.val (.str (T bl)) true),x,some (.val (.int (sp:Nat)) true),some (.val (.int lot) true),y,z,none]) (List.range m) []
  [some (.val (.int c) false),some (.own [] true),some (.val (.int sz) true),some (.val (.str (T bl)) true),e4,some (.val (.int (sp:Nat)) true),some (.val (.int lot) true),none,none,none] rfl ⟨_,_,_,rfl⟩
  (by
    rintro pre post k env ea ⟨x,y,z,rfl⟩;have hl:pre.length+post.length+1=m:=by have:=ly List.length ea;simp at this;lia
    have hk:k<m:=by
     have:k∈List.range m:=by rw[ea];simp
     exact kR.mp this
    have k1:-18446744073709551616<(1+c/22%7):=by lia
    have k2:(1+c/22%7)<18446744073709551616:=by lia
    have hT:(T bl).length<=1000000:=by rw[cC];lia
    have hM:("main" : Str).length<=1000000:=by decide
    have a1:(bl.take sp).length+[wW c k].length<=1000000:=by simp;lia
    have a2:(bl.take sp++[wW c k]).length+(bl.drop (sp+1)).length<=1000000:=by simp;lia
    have a3:mainL.length+[wW c k].length<=1000000:=by
     have:mainL.length=4:=by decide
     simp;lia
    have s1:=yq bl sp (by lia);have s2:Txt.slice (T bl) (some ((sp:Int)+1)) none=T (bl.drop (sp+1)):=pw bl (sp+1) (by lia);have s3:Txt.slice ("main" : Str) none (some (1+(k:Int)))=T (mainL.take (1+k)):=by
     have h4:mainL.length=4:=by decide
     rw[zA,show(1+(k:Int))=((1+k:Nat):Int) by lia];exact yq mainL (1+k) (by lia)
    have hp:(pre.map λk=>D.str (T (ww lot bl sp c k))).length<1000000:=by rw[cc];lia
    refine⟨[some (.val (.int c) false),some (.own (pre.map λk=>D.str (T (ww lot bl sp c k))) true),some (.val (.int sz) true),some (.val (.str (T bl)) true),some (.val (.int (k:Nat)) true),some (.val (.int (sp:Nat)) true),some (.val (.int lot) true),y,z,none],[some (.val (.int c) false),some (.own ((pre++[k]).map λk=>D.str (T (ww lot bl sp c k))) true),some (.val (.int sz) true),some (.val (.str (T bl)) true),some (.val (.int (k:Nat)) true),some (.val (.int (sp:Nat)) true),some (.val (.int lot) true),some (.val (.str (T [wW c k])) true),some (.val (.str (T (ww lot bl sp c k))) true),none],rfl,?_,_,_,_,rfl⟩;by_cases h3:lot=3
    .subst h3;have en:ww 3 bl sp c k=mainL.take (1+k):=dL rfl;simp_arith[dC,k1,k2,t8 qO (wx c k),hT,hM,s1,s2,s3,cn a1,cn a2,bu,aY,hp,n_,rK,en]
    .by_cases h2:lot=2
     .subst h2;have en:ww 2 bl sp c k=mainL++[wW c k]:=rfl;simp_arith[dC,k1,k2,t8 qO (wx c k),hT,hM,s1,s2,s3,zA,cn a1,cn a2,cn a3,bu,aY,hp,n_,rK,en]
     .have b2:(lot==2)=false:=by simpa using h2
      have b3:(lot==3)=false:=by simpa using h3
      have en:ww lot bl sp c k=bl.take sp++[wW c k]++bl.drop (sp+1):=by unfold ww;rw[f7 h3,f7 h2]
      simp_arith[dC,k1,k2,t8 qO (wx c k),hT,hM,s1,s2,s3,cn a1,cn a2,bu,aY,b2,b3,hp,n_,rK,en])
 exact⟨x,y,z,lp⟩
def Ex(c:Int):∃names:List Str,0<names.length/\names.length<=4/\names.Nodup/\(∀n∈names,Nm n.cps.toList)/\("main" : Str)∈names/\ja [.int c]=.ok (.new (names.map D.str) true):=by
 have s0:=dj c 1063 8 (by decide);have s1:=dn c 1063 8 (by decide);obtain⟨n,hn⟩ : ∃n:Nat,1+dg c 1063 8=n:=⟨(1+dg c 1063 8).toNat,by lia⟩;have hn0:(0:Int)<n:=by lia
 obtain⟨bl,x4,hbl,hbx,lp1⟩:=BM c n (n:=n) (by lia) (e1:=some (.own [] true)) (e4:=none);have p0:=dj c 1069 n hn0;have p1:=dn c 1069 n hn0;obtain⟨sp,hsp⟩ : ∃sp:Nat,dg c 1069 n=sp:=⟨(dg c 1069 n).toNat,by lia⟩;have m0:=dj c 1061 4 (by decide);have m1:=dn c 1061 4 (by decide);obtain⟨m,hm⟩ : ∃m:Nat,dg c 1061 4=m:=⟨(dg c 1061 4).toNat,by lia⟩;obtain⟨y4,y7,y8,lp2⟩:=Ew c n (dg c 1087 4) (bl:=bl) (sp:=sp) (m:=m) (by lia) (by lia) (by lia) (e4:=x4);generalize hlot:dg c 1087 4=lot at lp2;generalize hoth:((List.range m).map λk=>T (ww lot bl sp c k))=oth at *;have hod:((List.range m).map λk=>D.str (T (ww lot bl sp c k)))=oth.map D.str:=by rw[<- hoth,iA];rfl
 have hol:oth.length=m:=by rw[<- hoth];simp
 rw[hod]at lp2;have hk0:(0:Int)<(m:Int)+1:=by lia
 have q0:=dj c 1091 ((m:Int)+1) hk0;have q1:=dn c 1091 ((m:Int)+1) hk0;obtain⟨k,hk⟩ : ∃k:Nat,dg c 1091 ((m:Int)+1)=k:=⟨(dg c 1091 ((m:Int)+1)).toNat,by lia⟩;have ond:oth.Nodup:=by rw[<- hoth];rw[List.Nodup,Tn];refine List.Pairwise.imp_of_mem (R:=(·≠ ·)) (λ{i j} hi hj hij e=>?_) (List.nodup_range (n:=m));have hi:=kR.mp hi;have hj:=kR.mp hj;exact Lk lot bl sp c i j (by lia) (by lia) (by lia) hij (yp e)
 have omn:("main" : Str)∉oth:=by rw[<- hoth];intro h;obtain⟨i,hi,e⟩:=eR.mp h;have hi:=kR.mp hi;rw[zA]at e;exact Et lot bl sp c i (by lia) (by lia) (yp e)
 have ol:∀x∈oth,Nm x.cps.toList:=by rw[<- hoth];intro x hx;obtain⟨i,hi,rfl⟩:=eR.mp hx;have hi:=kR.mp hi;have:=Lo lot (bl:=bl) (sp:=sp) c (k:=i) (by lia) (by lia) hbx (by lia);simpa using this
 refine⟨oth.take k++("main" : Str)::oth.drop k,by simp;lia,by simp;lia,?_,?_,by simp,?_⟩
 .have:(oth.take k++("main" : Str)::oth.drop k).Perm (("main" : Str)::oth):=by refine List.perm_middle.trans ?_;rw[Sg]
  exact this.nodup_iff.mpr (S4.mpr ⟨omn,ond⟩)
 .intro x hx;rcases ir.mp hx with h|h
  .exact ol x (rE h)
  .rcases cJ.mp h with rfl|h
   .exact wy
   .exact ol x (Sn h)
 .have k1:-4611686018427387904<=(n:Int):=by lia
  have k2:(n:Int)<4611686018427387904:=by lia
  have k3:-4611686018427387904<=(m:Int):=by lia
  have k4:(m:Int)<4611686018427387904:=by lia
  have hlm:(((oth.map D.str).length:Nat):Int)=m:=by simp[hol]
  simp_arith[ja,oU,aU c 1063 8 (by decide) (by decide),hn];rw[nB k1 k2,jK,kG,iD];simp_arith[lp1,aU c 1069 n (by decide) hn0,aU c 1087 4 (by decide) (by decide),aU c 1061 4 (by decide) (by decide),hsp,hlot,hm];rw[nB k3 k4,jK,kG,iD];have fl1:D.aL ((oth.map D.str).take k)=true:=fA λd hd=>by obtain⟨a,_,rfl⟩:=eR.mp (rE hd);rfl
  have fl2:D.aL ((oth.map D.str).drop k)=true:=fA λd hd=>by obtain⟨a,_,rfl⟩:=eR.mp (Sn hd);rfl
  have fl3:D.aL ((oth.map D.str).take k++[D.str "main"])=true:=fA λd hd=>by
   rcases ir.mp hd with h|h
   .obtain⟨a,_,rfl⟩:=eR.mp (rE h);rfl
   .rw[nP.mp h];rfl
  have fl4:D.aL ((oth.map D.str).take k++[D.str "main"]++(oth.map D.str).drop k)=true:=fA λd hd=>by
   rcases ir.mp hd with h|h
   .rcases ir.mp h with h|h
    .obtain⟨a,_,rfl⟩:=eR.mp (rE h);rfl
    .rw[nP.mp h];rfl
   .obtain⟨a,_,rfl⟩:=eR.mp (Sn h);rfl
  have ln1:((oth.map D.str).take k).length+[D.str "main"].length<=1000000:=by simp;lia
  have ln2:((oth.map D.str).take k++[D.str "main"]).length+((oth.map D.str).drop k).length<=1000000:=by simp;lia
  simp_arith[lp2,hlm,aU c 1091 ((m:Int)+1) (by decide) hk0,hk,qN,BL,bO fl1,bO fl2,tL ln1,bO fl3,tL ln2,bO fl4];simp
end W
namespace W
open PySem PySem.StrLaws PySem.Builtin.Str
noncomputable def jn(sep:List Nat):List (List Nat)->List Nat
 |[]=>[]
 |[p]=>p
 |p::q::r=>p++sep++jn sep (q::r)
def ff(sep p:List Nat){ps:List (List Nat)}(h:ps≠[]):jn sep (p::ps)=p++sep++jn sep ps:=by
 cases ps with
 |nil=>exact(h rfl).elim
 |cons q r=>rfl
def zB(x:List Nat)(sep:List Nat)(k:Nat):At (T x) (T sep) (T x).length k↔k+sep.length<=x.length/\(x.drop k).take sep.length=sep:=by
 unfold At;have hl:(T x).length=x.length:=by show x.toArray.size=_;simp
 have hs:(T sep).length=sep.length:=by show sep.toArray.size=_;simp
 rw[hl,hs];unfold subAt;rw[hs];constructor
 .rintro⟨h1,h2⟩;refine⟨h1,?_⟩;have:=eq_of_beq h2;have:=ly Array.toList this;simpa using this
 .rintro⟨h1,h2⟩;refine⟨h1,?_⟩;rw[Sa];apply Array.ext';simpa using h2
def wz(pre p post:List Nat):strSub (T (pre++p++post)) pre.length (pre.length+p.length)=T p:=by apply Str.ext';show(pre++p++post).toArray.extract pre.length (pre.length+p.length)=p.toArray;apply Array.ext';simp
def Ey{pre p post:List Nat}{c:Nat}{st:List Nat}(hc:c∉p){k:Nat}(h1:pre.length<=k)(h2:k<pre.length+p.length):¬At (T (pre++p++post)) (T (c::st)) (T (pre++p++post)).length k:=by
 rw[zB];rintro⟨_,h⟩;have e:((pre++p++post).drop k).take (c::st).length=c::st:=h;have e2:(pre++p++post)[k]?=some c:=by have:=ly (λl=>l[0]?) e;simp only[List.getElem?_cons_zero]at this;rw[List.getElem?_take_of_lt (by simp),Te]at this;simpa using this
 rw[kI,jP h1,pR (by lia)]at e2;exact hc (gK e2)
def Lp(pre p sep post:List Nat):At (T (pre++p++(sep++post))) (T sep) (T (pre++p++(sep++post))).length (pre.length+p.length):=by
 rw[zB];refine⟨by simp;lia,?_⟩;have:pre.length+p.length=(pre++p).length:=by simp
 rw[this,List.drop_left,List.take_left]
theorem oo(c:Nat)(st:List Nat):∀(ps:List (List Nat))(pre:List Nat)(cuts:List Nat)(f:Nat),ps≠[]->(∀p∈ps,c∉p)->
 ChainG (T (pre++jn (c::st) ps)) (T (c::st)) (T (pre++jn (c::st) ps)).length pre.length cuts f->(∀k,f<=k->¬At (T (pre++jn (c::st) ps)) (T (c::st)) (T (pre++jn (c::st) ps)).length k)->
 partsFrom (T (pre++jn (c::st) ps)) (c::st).length pre.length cuts=ps.map T
 |[],_,_,_,h,_,_,_=>(h rfl).elim
 |[p],pre,cuts,f,_,hc,hG,hn=>by
  have hp:=hc p (by simp);have e0:pre++jn (c::st) [p]=pre++p++[]:=by simp[jn]
  rw[e0]at hG hn ⊢;have no:∀k,pre.length<=k->¬At (T (pre++p++[])) (T (c::st)) (T (pre++p++[])).length k:=λk hk hA=>by
   by_cases h2:k<pre.length+p.length
   .exact Ey hp hk h2 hA
   .have:=(zB _ _ _).mp hA;simp at this;lia
  cases cuts with
  |nil=>
   show[strSub (T (pre++p++[])) pre.length (T (pre++p++[])).length]=[T p];have:(T (pre++p++[])).length=pre.length+p.length:=by show(pre++p++[]).toArray.size=_;simp
   rw[this,wz]
  |cons d r=>exact(no d hG.1 hG.2.1).elim
 |p::q::r,pre,cuts,f,_,hc,hG,hn=>by
  have hp:=hc p (by simp);have e0:pre++jn (c::st) (p::q::r)=pre++p++((c::st)++jn (c::st) (q::r)):=by rw[ff _ _ (by simp)];simp
  have e1:pre++p++((c::st)++jn (c::st) (q::r))=(pre++p++(c::st))++jn (c::st) (q::r):=by simp
  rw[e0]at hG hn ⊢;have yes:=Lp pre p (c::st) (jn (c::st) (q::r));cases cuts with
  |nil=>have:f=pre.length:=hG;exact(hn _ (by lia) yes).elim
  |cons d cs=>
   obtain⟨g1,g2,g3,g4⟩:=hG;have ed:d=pre.length+p.length:=by
    rcases Nat.lt_trichotomy d (pre.length+p.length)with h|h|h
    .exact(Ey hp g1 h g2).elim
    .exact h
    .exact(g3 _ (by lia) h yes).elim
   subst ed;have hw:(T (c::st)).length=(c::st).length:=by show(c::st).toArray.size=_;simp
   rw[hw]at g4;have hl:pre.length+p.length+(c::st).length=(pre++p++(c::st)).length:=by simp;lia
   rw[hl,e1]at g4;rw[e1]at hn;have ih:=oo c st (q::r) (pre++p++(c::st)) cs f (by simp) (λx hx=>hc x (by simp at hx ⊢;exact .inr hx)) g4 hn;show strSub _ pre.length (pre.length+p.length)::partsFrom _ (c::st).length (pre.length+p.length+(c::st).length) cs=_;rw[wz,hl,e1,ih];rfl
def yr(c:Nat)(st:List Nat)(ps:List (List Nat))(h:ps≠[])(hc:∀p∈ps,c∉p) :
 Builtin.Str.partsBetween (T (jn (c::st) ps)) (Builtin.Str.occurrences (T (jn (c::st) ps)) (T (c::st)) 0 (T (jn (c::st) ps)).length ((T (jn (c::st) ps)).length+1)) (T (c::st)).length=ps.map T:=by
 obtain⟨f,hG,hn⟩:=occ_tight (T (jn (c::st) ps)) (T (c::st)) (by show 1<=(c::st).toArray.size;simp);have key:=oo c st ps [] (occurrences (T (jn (c::st) ps)) (T (c::st)) 0 (T (jn (c::st) ps)).length ((T (jn (c::st) ps)).length+1)) f h hc hG hn;have hw:(T (c::st)).length=(c::st).length:=by show(c::st).toArray.size=_;simp
 rw[partsBetween_eq,hw];exact key
def t9(c:Nat)(st:List Nat)(ps:List (List Nat))(h:ps≠[])(hc:∀p∈ps,c∉p)(ha:c<256)(hs:∀x∈st,x<256):Txt.split (T (jn (c::st) ps)) (T (c::st))=ps.map T:=by
 obtain⟨f,hG,hn⟩:=occ_tight (T (jn (c::st) ps)) (T (c::st)) (by show 1<=(c::st).toArray.size;simp);have key:=oo c st ps [] (occurrences (T (jn (c::st) ps)) (T (c::st)) 0 (T (jn (c::st) ps)).length ((T (jn (c::st) ps)).length+1)) f h hc hG hn;have hw:(T (c::st)).length=(c::st).length:=by show(c::st).toArray.size=_;simp
 have one:∀x:Str,strKind x<strKind (T (c::st))->False:=λx hx=>by
  have k1:strKind (T (c::st))=1:=by
   unfold Builtin.Str.strKind;have:(T (c::st)).cps.all (·< 256)=true:=by
    rw[<- Array.all_toList,c8];intro y hy;have hy:y∈c::st:=by simpa using hy
    rcases cJ.mp hy with rfl|hy
    .exact dM ha
    .exact dM (hs y hy)
   rw[dL this]
  rw[k1]at hx;unfold Builtin.Str.strKind at hx;split at hx
  .lia
  .split at hx<;>lia
 have lone:(∃p,ps=[p])\/∃p q r,ps=p::q::r:=by
  cases ps with
  |nil=>exact(h rfl).elim
  |cons p r=>cases r with
   |nil=>exact .inl ⟨p,rfl⟩
   |cons q r=>exact .inr ⟨p,q,r,rfl⟩
 unfold Txt.split;by_cases h1:(decide ((T (jn (c::st) ps)).length<(T (c::st)).length) || decide (strKind (T (jn (c::st) ps))<strKind (T (c::st))))=true
 .rw[dL h1];rw[lV,cI,cI]at h1;rcases h1 with h1|h1
  .rcases lone with⟨p,rfl⟩|⟨p,q,r,rfl⟩
   .rfl
   .exfalso;rw[hw]at h1;have:(T (jn (c::st) (p::q::r))).length=(jn (c::st) (p::q::r)).length:=by show(jn (c::st) (p::q::r)).toArray.size=_;simp
    rw[this,ff _ _ (by simp)]at h1;simp at h1;lia
  .exact(one _ h1).elim
 .rw[f7 h1];by_cases h2:(occurrences (T (jn (c::st) ps)) (T (c::st)) 0 (T (jn (c::st) ps)).length ((T (jn (c::st) ps)).length+1)).isEmpty=true
  .rw[dL h2];have h2':=List.isEmpty_iff.mp h2;rw[h2']at key;rw[<- key];show _=[strSub (T (jn (c::st) ps)) 0 (T (jn (c::st) ps)).length];have:=wz [] (jn (c::st) ps) [];simp only[Sf,lT,mW,Nat.zero_add]at this;have hl:(T (jn (c::st) ps)).length=(jn (c::st) ps).length:=by show(jn (c::st) ps).toArray.size=_;simp
   rw[hl,this]
  .rw[f7 h2,partsBetween_eq,hw];exact key
def Ho(sep:List Nat):∀ps:List (List Nat),ps≠[]->Txt.join (T sep) (ps.map T)=T (jn sep ps):=λps h=>by
 have e:∀ps:List (List Nat),ps≠[]->Str.join (T sep) (ps.map T)=T (jn sep ps):=by
  intro ps;induction ps with
  |nil=>intro h;exact(h rfl).elim
  |cons p r ih=>
   intro _;cases r with
   |nil=>rfl
   |cons q r=>have:=ih (by simp);show T p++T sep++Str.join (T sep) ((q::r).map T)=_;rw[this,show jn sep (p::q::r)=p++sep++jn sep (q::r)from rfl];apply Str.ext';show p.toArray++sep.toArray++(jn sep (q::r)).toArray=(p++sep++jn sep (q::r)).toArray;simp
 show Builtin.Str.glued (T sep) (ps.map T)=_;rw[glued_eq_join];exact e ps h
end W
namespace W
open PySem L2 L3
def Ay{x y:Str}{f g:Bool}{al bl:List Nat}:qx (.val (.str x) f al) (.val (.str y) g bl)=.ok (.val (.bl (!(decide (y.cps.toList<x.cps.toList)))) true []):=(rfl)
def Az(k1 k2:R->R->Res R)(fa fb fc:En->Res R)(env:En){ra rb rc:R}{v:R}(ha:fa env=.ok ra)(hb:fb env=.ok rb)(hc:fc env=.ok rc){f:Bool}{al:List Nat}(h1:k1 ra rb=.ok (.val (.bl true) f al))(h2:k2 rb rc=.ok v):gc k1 k2 fa fb fc env=.ok v:=by unfold gc;rw[ha,jK,hb,jK,h1,jK];show(fc env).bind _=_;rw[hc,jK,h2]
def PV{a b:Nat}(h:b<=a):decide ([a]<[b])=false:=by
 apply fZ;intro z;rw[List.cons_lt_cons_iff]at z;rcases z with z|⟨_,z⟩
 .lia
 .exact absurd z (by simp)
def AA(l:List Nat):jS (T l)=l.map λc=>D.str (T [c]):=by unfold jS;simp
def t_(f:En->Res R)(env:En):Ao f env=(f env).bind An:=(rfl)
def pA{z:Str}{f:Bool}{al:List Nat}:An (.val (.str z) f al)=.ok ⟨jS z,true,[]⟩:=(rfl)
def qP{z:Str}(h:z.length<=1000000):DL (.str z)=.ok (.val (.int z.length) true []):=dL h
def ua{l:List Nat}(h:Nm l):gG [.str (T l)]=.ok (.val (.bl true) true []):=by
 obtain⟨⟨h1,h2⟩,h3⟩:=h;have hc:=bX (mk:=λd=>gN 0 d true (c_ [some (.val (.str (T l)) false)] 1 [])) (test:=λ_=>.ok true) (elt:=mF) (λc:Nat=>D.str (T [c])) (λ_=>.val (.bl true) true []) l
  λc hc=>⟨[some (.val (.str (T [c])) true)],rfl,rfl,by
   refine Az qx qx _ _ _ _ (ra:=.val (.str "a") true []) (rb:=.val (.str (T [c])) true []) (rc:=.val (.str "z") true []) rfl rfl rfl (f:=true) (al:=[]) ?_ ?_
   .rw[Ay,show((T [c]).cps.toList)=[c]from rfl,show(("a" : Str).cps.toList)=[97]from by decide,PV (h3 c hc).1];rfl
   .rw[Ay,show((T [c]).cps.toList)=[c]from rfl,show(("z" : Str).cps.toList)=[122]from by decide,PV (h3 c hc).2];rfl⟩
 have hl:(T l).length<=1000000:=by rw[cC];lia
 have c1:gc uI uI (vC (.int 1)) (gy cr (ac (ak 0) au)) (vC (.int 8)) [some (.val (.str (T l)) false)]=.ok (.val (.bl true) true []):=by
  refine Az uI uI _ _ _ _ (ra:=.val (.int 1) true []) (rb:=.val (.int (T l).length) true []) (rc:=.val (.int 8) true []) rfl ?_ rfl (f:=true) (al:=[]) ?_ ?_
  .simp_arith[qP hl]
  .rw[DC,cC,dM (by lia)]
  .rw[DC,cC,dM (by lia)]
 simp_arith[gG,m8,c1,t_,pA,AA];rw[bZ (by rw[cc];lia) hc,fC (λ_=>D.bl true),bO (aX (λ_=>D.bl true) l λ_=>rfl)];simp_arith[nE,m5]
noncomputable def m_(n:Nat):List Nat:=((toString ((n:Nat):Int):String):Str).cps.toList
def Oy(n:Nat):((toString ((n:Nat):Int):String):Str)=T (m_ n):=mM _
noncomputable def Ru:Res R->Bool
 |.ok (.val (.bl true) true [])=>true
 |_=>false
def qQ{r:Res R}(h:Ru r=true):r=.ok (.val (.bl true) true []):=by
 unfold Ru at h;split at h
 .rfl
 .cases h
noncomputable def pB(l:List Nat):Bool:=l.all λx=>(decide (97<=x)&&decide (x<=122)) ||(decide (48<=x)&&decide (x<=57))
def cv(fo fa:En->Res R)(env:En):n8 fo fa env=(fo env).bind (oO fa env):=(rfl)
def bY{fa:En->Res R}{env:En}{a:Str}{f:Bool}{al:List Nat}:oO fa env (.val (.str a) f al)=(fa env).bind (cP a):=(rfl)
def pC{c:Nat}{st:List Nat}{ps:List (List Nat)}{x:Str}{f:Bool}{al:List Nat}(hx:x=T (c::st))(h:ps≠[])(hc:∀p∈ps,c∉p)(hl:(jn (c::st) ps).length<=100000)(hn:ps.length<=100000)(ha:c<256)(hs:∀y∈st,y<256) :
 cP (T (jn (c::st) ps)) (.val (.str x) f al)=.ok (.new (ps.map λp=>D.str (T p)) true):=by
 subst hx;have e1:=t9 c st ps h hc ha hs;have e2:=yr c st ps h hc;have ok:jM (T (jn (c::st) ps)) (T (c::st)):=by refine⟨by rw[cC];simp,by rw[cC];exact hl,by rw[e1,cc];exact hn,by rw[e2,cc];exact hn⟩
 show(if jM _ _ then _ else _)=_;rw[dL ok,e1,iA];rfl
def BN:(" " : Str)=T [32]:=by decide
def AB{l:List Nat}(h:pB l=true){c:Nat}(hc:c<48\/(57<c/\c<97)):c∉l:=λz=>by unfold pB at h;have:=c8.mp h c z;simp only[lV,cH,cI]at this;lia
theorem qR(sep:List Nat){n:Nat}:∀ps:List (List Nat),(∀p∈ps,p.length<=n)->(jn sep ps).length<=ps.length*(n+sep.length)
 |[],_=>lU _
 |[p],h=>by have:=h p (by simp);show p.length<=1*(n+sep.length);lia
 |p::q::r,h=>by
  have h1:=h p (by simp);have ih:=qR sep (q::r) λx hx=>h x (by simp at hx ⊢;exact .inr hx);have:(jn sep (p::q::r)).length=p.length+sep.length+(jn sep (q::r)).length:=by rw[ff _ _ (by simp)];simp;lia
  rw[this,i8];rw[Nat.succ_mul];lia
theorem lv{sep:List Nat}{x:Nat}:∀{ps:List (List Nat)},x∈jn sep ps->x∈sep\/∃p∈ps,x∈p
 |[],h=>by cases h
 |[p],h=>.inr ⟨p,by simp,h⟩
 |p::q::r,h=>by
  rw[ff _ _ (by simp)]at h;rcases ir.mp h with h|h
  .rcases ir.mp h with h|h
   .exact .inr ⟨p,by simp,h⟩
   .exact .inl h
  .rcases lv h with h|⟨p',h1,h2⟩
   .exact .inl h
   .exact .inr ⟨p',by simp at h1 ⊢;exact .inr h1,h2⟩
structure kX where
 l:Str
 w:List Nat
 d:D
noncomputable def wA(h:Str)(cs:List kX):List D:=.str h::cs.map λc=>.str c.l
def wY(h:Str)(cs:List kX):List D:=.str h::cs.map λc=>.str (T c.w)
def FK(h:Str)(cs:List kX):List D:=.str h::cs.map kX.d
structure Wk(c:kX):Prop where
 Pu:bV [.str c.l,.str (T c.w)]=.ok (.val (.bl true) true [])
 keep:bL [some (.val (.str c.l) true),some (.val (.str (T c.w)) true)]=.ok (.val c.d true [])
 al:pB c.w=true
 len:c.w.length<=8
 str:∀(f:Bool)(al:List Nat),uJ [.val c.d f al]=.ok (.val (.str (T c.w)) true [])
 flat:c.d.flat=true
def kZ{ds es:List D}{f g:Bool}{al:List Nat}:vn [.val (.tup ds) f al,.new es g]=.ok ⟨i_ ds es,f&&g,al++[]⟩:=(rfl)
theorem wB{α:Type}(g k:α->D):∀xs:List α,i_ (xs.map g) (xs.map k)=xs.map λa=>D.tup [g a,k a]
 |[]=>rfl
 |a::r=>by rw[c7,c7,c7];unfold i_;rw[wB g k r]
def uV(d:D)(ds:List D):dN (d::ds) (some 1) none=ds:=by rw[El];rfl
def pD(h:Str)(cs:List kX):D.aL (wA h cs)=true:=by unfold wA;rw[a_,aX _ _ λ_=>rfl];rfl
def uW(d:D)(ds:List D):bI (d::ds) 0=some d:=by unfold bI pZ;rw[dL (by decide),dL (by simp)];rfl
def Oz{w f:Str}{ws fs:List D}(hf:D.aL fs=true)(hne:w≠f):b9 [.lst (.str w::ws),.tup (.str f::fs)]=.ok (.val (.bl false) true []):=by
 have b:(w==f)=false:=by simpa using hne
 have a0:bI (D.str w::ws) 0=some (.str w):=uW _ _;have a1:bI (D.str f::fs) 0=some (.str f):=uW _ _;have e1:dq (.str w) (.str f)=false:=b;cases hl:((((ws.length+1:Nat)):Int)==((fs.length+1:Nat):Int))with
 |true=>simp_arith[b9,gB,hf,iI,a0,a1,e1,aY,hl]
 |false=>simp_arith[b9,gB,hf,iI,a0,a1,e1,aY,hl]
def Lq{h:Str}{cs:List kX}(hl:cs.length<=10)(hc:∀c∈cs,Wk c):b9 [.lst (wY h cs),.tup (wA h cs)]=.ok (.val (.bl true) true []):=by
 have a0:bI (wY h cs) 0=some (.str h):=uW _ _;have a1:bI (wA h cs) 0=some (.str h):=uW _ _;have e1:dq (.str h) (.str h)=true:=fm _;have e2:(((((wY h cs).length:Nat):Int)==(((wA h cs).length:Nat):Int)))=true:=by unfold wY wA;simp
 have c1:dN (wA h cs) (some 1) none=cs.map λc=>.str c.l:=uV _ _;have c2:dN (wY h cs) (some 1) none=cs.map λc=>.str (T c.w):=uV _ _;have f1:D.aL (cs.map λc=>D.str c.l)=true:=aX _ _ λ_=>rfl;have f2:D.aL (cs.map λc=>D.str (T c.w))=true:=aX _ _ λ_=>rfl;have hcm:=bX (mk:=λd=>gT 2 (aJ (gN 0) (aJ (gN 1) cg)) d true (c_ [some (.val (.lst (wY h cs)) false),some (.val (.tup (wA h cs)) false)] 2 [])) (test:=λ_=>.ok true) (elt:=hV) (λc:kX=>D.tup [.str c.l,.str (T c.w)]) (λ_=>.val (.bl true) true []) cs
  λc h=>⟨[some (.val (.str c.l) true),some (.val (.str (T c.w)) true)],rfl,rfl,by simp_arith[hV,(hc c h).Pu]⟩
 simp_arith[b9,gB,pD,iI,a0,a1,e1,aY,e2,c1,c2,f1,f2,kZ,wB (λc:kX=>D.str c.l) (λc=>.str (T c.w))];rw[bZ (by rw[cc];lia) hcm,fC (λ_=>D.bl true),bO (aX (λ_=>D.bl true) cs λ_=>rfl)];simp_arith[nE,m5]
inductive Rw where
 |skip|back|stop
 |set (w:Bool) (n:Int)
 |any (w:Bool)
 |turn (w:Bool)
 |iff (w:Bool) (n k:Int)
 |go (k:Int)
 |fork (k:Int)
 |call (f:Str)
noncomputable def wd(w:Bool):Str:=if w then "own" else "shared"
def Rw.d:Rw->List D
 |.skip=>[.str "skip"]
 |.back=>[.str "back"]
 |.stop=>[.str "stop"]
 |.set w n=>[.str "set",.str (wd w),.int n]
 |.any w=>[.str "any",.str (wd w)]
 |.turn w=>[.str "turn",.str (wd w)]
 |.iff w n k=>[.str "if",.str (wd w),.int n,.int k]
 |.go k=>[.str "go",.int k]
 |.fork k=>[.str "fork",.int k]
 |.call f=>[.str "call",.str f]
noncomputable def vl(sv ov:Int)(w:Bool):Int:=if w then ov else sv
def OA(names:List Str)(sv ov many:Int)(last:Bool):Rw->Prop
 |.call f=>f∈names/\last=false
 |.set w n=>(0<=n/\n<vl sv ov w)/\last=false
 |.iff w n k=>((0<=n/\n<vl sv ov w)/\0<=k/\k<many)/\last=false
 |.go k=>0<=k/\k<many
 |.fork k=>(0<=k/\k<many)/\last=false
 |.skip=>last=false
 |.any _=>last=false
 |.turn _=>last=false
 |.back=>True
 |.stop=>True
def mO(r:Rw):Row r.d:=by
 have t:True:=True.intro;cases r<;>refine⟨by simp[Rw.d],λd hd=>?_⟩<;>simp[Rw.d]at hd
 all_goals first
  |(subst hd;exact t)
  |(rcases hd with rfl|rfl<;>exact t)
  |(rcases hd with rfl|rfl|rfl<;>exact t)
  |(rcases hd with rfl|rfl|rfl|rfl<;>exact t)
def Lr(names:List Str)(sv ov many:Int)(last:Bool)(ds:List D):Prop:=∃r:Rw,ds=r.d/\OA names sv ov many last r
def OB(k1 k2:R->R->Res R)(fa fb fc:En->Res R)(env:En){ra rb rc:R}{b1 b2:Bool}(ha:fa env=.ok ra)(hb:fb env=.ok rb)(hc:fc env=.ok rc)(h1:k1 ra rb=.ok (.val (.bl b1) true []))(h2:k2 rb rc=.ok (.val (.bl b2) true [])):gc k1 k2 fa fb fc env=.ok (.val (.bl (b1&&b2)) true []):=by
 unfold gc;rw[ha,jK,hb,jK,h1,jK];cases b1 with
 |true=>show(fc env).bind _=_;rw[hc,jK,h2];rfl
 |false=>rfl
def OC(a b:Nat):(!decide ([a]<[b]))=decide (b<=a):=by
 by_cases h:b<=a
 .rw[PV h,dM h];rfl
 .rw[fZ h,dM (by rw[List.cons_lt_cons_iff];exact .inl (by lia))];rfl
noncomputable def B7(lo hi:Nat)(l:List Nat):Bool:=l.all λx=>decide (lo<=x)&&decide (x<=hi)
noncomputable def AC(n:Nat)(l:List Nat):Bool:=decide (1<=l.length)&&decide (l.length<=n)
def ub(l:List Nat):Bool:=AC 8 l&&B7 97 122 l
def Iw(l:List Nat):Bool:=(AC 3 l&&B7 48 57 l)&&(decide (l=[48]) || decide (l.head?≠some 48))
theorem all_map{α:Type}(f:α->Bool)(l:List α):G8 (.lst (l.map λc=>D.bl (f c)))=.ok (.val (.bl (l.all f)) true []):=by
 have:∀xs:List α,ia (xs.map λc=>D.bl (f c))=some (xs.map f):=by
  intro xs;induction xs with
  |nil=>rfl
  |cons a r ih=>rw[c7];unfold ia;rw[ih];rfl
 show(match ia (l.map λc=>D.bl (f c))with|some bs=>(Res.ok (.val (.bl (bs.all id)) true []):Res R)|none=>.stuck)=_;rw[this];simp[List.all_map]
def Iy{n:Nat}(l:List Nat)(hl:l.length<=100000):gc uI uI (vC (.int 1)) (gy cr (ac (ak 0) au)) (vC (.int n)) [some (.val (.str (T l)) false)]=.ok (.val (.bl (AC n l)) true []):=by
 have hl:(T l).length<=1000000:=by rw[cC];lia
 refine OB uI uI _ _ _ _ (ra:=.val (.int 1) true []) (rb:=.val (.int (T l).length) true []) (rc:=.val (.int n) true []) rfl ?_ rfl ?_ ?_
 .simp_arith[qP hl]
 .rw[DC,cC];congr 3;apply SY.mpr;lia
 .rw[DC,cC];congr 3;apply SY.mpr;lia
def OD{lo hi:Nat}{elt:En->Res R}{a z:Str}(he:elt=λenv=>gc qx qx (vC (.str a)) (ak 0) (vC (.str z)) env)(ea:a.cps.toList=[lo])(ez:z.cps.toList=[hi])(l:List Nat)(hl:l.length<=100000) :
 xZ 1 [] (gN 0) (λ_=>.ok true) elt [some (.val (.str (T l)) false)] ⟨jS (T l),true,[]⟩=.ok (.new (l.map λc=>.bl (decide (lo<=c)&&decide (c<=hi))) true):=by
 have hc:=bX (mk:=λd=>gN 0 d true (c_ [some (.val (.str (T l)) false)] 1 [])) (test:=λ_=>.ok true) (elt:=elt) (λc:Nat=>D.str (T [c])) (λc=>.val (.bl (decide (lo<=c)&&decide (c<=hi))) true []) l
  λc hc=>⟨[some (.val (.str (T [c])) true)],rfl,rfl,by
   rw[he];refine OB qx qx _ _ _ _ (ra:=.val (.str a) true []) (rb:=.val (.str (T [c])) true []) (rc:=.val (.str z) true []) rfl rfl rfl ?_ ?_
   .rw[Ay,show((T [c]).cps.toList)=[c]from rfl,ea,OC]
   .rw[Ay,show((T [c]).cps.toList)=[c]from rfl,ez,OC]⟩
 rw[AA,bZ (by rw[cc];lia) hc,fC (λc=>D.bl (decide (lo<=c)&&decide (c<=hi))),bO (aX (λc=>D.bl (decide (lo<=c)&&decide (c<=hi))) l λ_=>rfl)]
def Ez(l:List Nat)(hl:l.length<=100000):gG [.str (T l)]=.ok (.val (.bl (ub l)) true []):=by
 have c1:gc uI uI (vC (.int 1)) (gy cr (ac (ak 0) au)) (vC (.int 8)) [some (.val (.str (T l)) false)]=.ok (.val (.bl (AC 8 l)) true []):=Iy (n:=8) l hl;have c2:=OD (lo:=97) (hi:=122) (elt:=mF) (a:="a") (z:="z") rfl (by decide) (by decide) l hl;unfold ub B7;cases q:AC 8 l with
 |true=>rw[q]at c1;simp_arith[gG,m8,c1,t_,pA,c2,nE,all_map,pP]
 |false=>rw[q]at c1;simp_arith[gG,m8,c1,lW]
def AD(l:List Nat)(hl:l.length<=100000):dX [.str (T l)]=.ok (.val (.bl (Iw l)) true []):=by
 have c1:gc uI uI (vC (.int 1)) (gy cr (ac (ak 0) au)) (vC (.int 3)) [some (.val (.str (T l)) false)]=.ok (.val (.bl (AC 3 l)) true []):=Iy (n:=3) l hl;obtain⟨m,c2,hm⟩ : ∃m,xZ 1 [] (gN 0) (λ_=>.ok true) lu [some (.val (.str (T l)) false)] ⟨jS (T l),true,[]⟩=.ok (.new m true)/\G8 (.lst m)=.ok (.val (.bl (B7 48 57 l)) true []):=⟨_,OD (lo:=48) (hi:=57) (elt:=lu) (a:="0") (z:="9") rfl (by decide) (by decide) l hl,all_map _ _⟩;have hT:(T l).length<=1000000:=by rw[cC];lia
 unfold Iw;cases q:AC 3 l with
 |false=>rw[q]at c1;simp_arith[dX,jv,c1,lW]
 |true=>
  rw[q]at c1;cases q2:B7 48 57 l with
  |false=>rw[q2]at hm;simp_arith[dX,jv,c1,t_,pA,c2,nE,hm,lW,So]
  |true=>
   rw[q2]at hm;cases l with
   |nil=>simp[AC]at q
   |cons a r=>
    have e0:dq (.str (T (a::r))) (.str "0")=decide (a::r=[48]):=by
     show(T (a::r)==("0" : Str))=_;by_cases h:a::r=[48]
     .rw[h,dM rfl];decide
     .rw[fZ h];rw[jE];intro z;exact h (yp (z.trans (by decide:("0" : Str)=T [48])))
    have a0:bI (T (a::r)).cps.toList 0=some a:=by show bI (a::r) 0=some a;unfold bI pZ;rw[dL (by decide),dL (by simp)];rfl
    have e1:dq (.str (T [a])) (.str "0")=decide (a=48):=by
     show(T [a]==("0" : Str))=_;by_cases h:a=48
     .rw[h,dM rfl];decide
     .rw[fZ h,jE];intro z;have:=yp (z.trans (by decide:("0" : Str)=T [48]));simp at this;exact h this
    cases q3:decide (a::r=[48])with
    |true=>rw[q3]at e0;simp_arith[dX,jv,c1,t_,pA,c2,nE,hm,bu,e0];rfl
    |false=>rw[q3]at e0;simp_arith[dX,jv,c1,t_,pA,c2,nE,hm,bu,e0,t8 hT a0,iI,e1];simp
noncomputable def OE:List Nat:=("shared" : Str).cps.toList
noncomputable def OF:List Nat:=("own" : Str).cps.toList
noncomputable def Lu:List (List Nat):=[[49],[50],[51],[52]]
def zC(L:Str)(l:List Nat):Bool:=if L="F" then ub l else if L="V" then(decide (l=OE) || decide (l=OF))else if L="S" then decide (l∈Lu)else Iw l
def Tb(l:List Nat)(s:Str):(T l==s)=decide (l=s.cps.toList):=by
 by_cases h:l=s.cps.toList
 .rw[dM h,Sa,h,<- mM]
 .rw[fZ h,jE];intro z;exact h (by rw[<- z])
def Rv(l:List Nat)(s:Str):dq (.str (T l)) (.str s)=decide (l=s.cps.toList):=Tb l s
def dT(l:List Nat)(s:Str):decide (s=T l)=decide (l=s.cps.toList):=by rw[<- Tb l s,rJ,cI,Sa];exact eq_comm
def OG(l:List Nat):(jp [("shared",0),("own",1)] (T l)).isSome=(decide (l=OE) || decide (l=OF)):=by
 unfold jp;rw[jk];dsimp only;rw[dT];show(Option.map _ (match decide (l=OE)with|true=>_|false=>_)).isSome=_;cases decide (l=OE)with
 |true=>rfl
 |false=>dsimp only;rw[jk];dsimp only;rw[dT];show(Option.map _ (match decide (l=OF)with|true=>_|false=>_)).isSome=_;cases decide (l=OF)<;>rfl
def OH(l:List Nat):qB false (.str (T l)) (.tup [.str "1",.str "2",.str "3",.str "4"])=.ok (.val (.bl (decide (l∈Lu))) true []):=by
 show B6 false (.str (T l)) (([("1" : Str),"2","3","4"]:List Str).map D.str)=_;unfold B6;rw[dL ⟨by decide,lU _⟩];have e:(([("1" : Str),"2","3","4"]:List Str).map D.str).any (λe=>dq e (.str (T l)))=decide (l∈Lu):=by
  rw[Tu,rJ,Tt,cI];have k:∀y:Str,((λe=>dq e (.str (T l))) ∘ D.str) y=true↔l=y.cps.toList:=λy=>by show(y==T l)=true↔_;rw[Sa,<- cI (p:=y=T l),dT,cI]
  simp only[k];unfold Lu;simp only[cJ,iy,pK,exists_eq_or_imp,exists_eq_left];rfl
 rw[e];rfl
def EA(L:Str)(l:List Nat)(hl:l.length<=100000):bV [.str L,.str (T l)]=.ok (.val (.bl (zC L l)) true []):=by
 have nb:=Ez l hl;have cb:=AD l hl;have e1:dq (.str L) (.str "F")=decide (L="F"):=by show(L==("F" : Str))=_;exact SU _ _
 have e2:dq (.str L) (.str "V")=decide (L="V"):=by show(L==("V" : Str))=_;exact SU _ _
 have e3:dq (.str L) (.str "S")=decide (L="S"):=by show(L==("S" : Str))=_;exact SU _ _
 unfold zC;by_cases h1:L="F"
 .rw[dL h1];rw[dM h1]at e1;simp_arith[bV,fK,bu,e1,nb]
 .rw[f7 h1];rw[fZ h1]at e1;by_cases h2:L="V"
  .rw[dL h2];rw[dM h2]at e2;have tb:zg [("shared",0),("own",1)] (ak 1) [some (.val (.str L) false),some (.val (.str (T l)) false)]=.ok (.val (.bl (decide (l=OE) || decide (l=OF))) true []):=by rw[<- OG];rfl
   simp_arith[bV,fK,bu,e1,e2,tb]
  .rw[f7 h2];rw[fZ h2]at e2;by_cases h3:L="S"
   .rw[dL h3];rw[dM h3]at e3;simp_arith[bV,fK,bu,e1,e2,e3,OH]
   .rw[f7 h3];rw[fZ h3]at e3;simp_arith[bV,fK,bu,e1,e2,e3,cb]
def Iz(f:Str)(Ls:List Str)(ws:List (List Nat)):Bool:=decide (ws.length=Ls.length+1)&&(decide (ws.head?=some f.cps.toList)&&(Ls.zip ws.tail).all λp=>zC p.1 p.2)
abbrev wD(ws:List (List Nat)):List D:=ws.map λp=>D.str (T p)
noncomputable abbrev lD(Ls:List Str):List D:=Ls.map D.str
def sj(ws:List (List Nat)):D.aL (wD ws)=true:=aX _ _ λ_=>rfl
def sk(ws:List Str):D.aL (lD ws)=true:=aX _ _ λ_=>rfl
theorem EB:∀(Ls:List Str)(ws:List (List Nat)),i_ (lD Ls) (wD ws)=(Ls.zip ws).map λp=>D.tup [.str p.1,.str (T p.2)]
 |[],_=>rfl
 |_::_,[]=>rfl
 |a::r,b::s=>by show i_ (.str a::lD r) (.str (T b)::wD s)=_;unfold i_;rw[EB r s];rfl
def Lv(f:Str)(Ls:List Str)(w:List Nat)(ws:List (List Nat))(hw:∀x∈ws,x.length<=100000)(hl:ws.length<=100000) :
 b9 [.lst (.str (T w)::wD ws),.tup (.str f::lD Ls)]=.ok (.val (.bl (Iz f Ls (w::ws))) true []):=by
 have fl:D.aL (.str f::lD Ls)=true:=by rw[a_,sk];rfl
 have fl2:D.aL (.str (T w)::wD ws)=true:=by rw[a_,sj];rfl
 have a0:bI (D.str (T w)::wD ws) 0=some (.str (T w)):=uW _ _;have a1:bI (D.str f::lD Ls) 0=some (.str f):=uW _ _;have e1:dq (.str (T w)) (.str f)=decide (w=f.cps.toList):=Rv w f;have e2:((((wD ws).length+1:Nat):Int)==(((lD Ls).length+1:Nat):Int))=decide ((w::ws).length=Ls.length+1):=by rw[cc,cc,rJ,Sa,cI,i8];lia
 unfold Iz;cases q1:decide ((w::ws).length=Ls.length+1)with
 |false=>rw[q1]at e2;simp_arith[b9,gB,fl,iI,e2,aY,lW]
 |true=>
  rw[q1]at e2;have hd:decide ((w::ws).head?=some f.cps.toList)=decide (w=f.cps.toList):=by apply SY.mpr;simp
  rw[hd];cases q2:decide (w=f.cps.toList)with
  |false=>rw[q2]at e1;simp_arith[b9,gB,fl,iI,e2,aY,a0,a1,e1,lW]
  |true=>
   rw[q2]at e1;have c1:dN (D.str f::lD Ls) (some 1) none=lD Ls:=uV _ _;have c2:dN (D.str (T w)::wD ws) (some 1) none=wD ws:=uV _ _;have ll:(Ls.zip ws).length<=1000000:=by rw[List.length_zip];lia
   have hcm:=bX (mk:=λd=>gT 2 (aJ (gN 0) (aJ (gN 1) cg)) d true (c_ [some (.val (.lst (.str (T w)::wD ws)) false),some (.val (.tup (.str f::lD Ls)) false)] 2 [])) (test:=λ_=>.ok true) (elt:=hV) (λp:Str×List Nat=>D.tup [.str p.1,.str (T p.2)]) (λp=>.val (.bl (zC p.1 p.2)) true []) (Ls.zip ws)
    λp h=>⟨[some (.val (.str p.1) true),some (.val (.str (T p.2)) true)],rfl,rfl,by simp_arith[hV,EA p.1 p.2 (hw p.2 (S5 h).2)]⟩
   have f1:=sk Ls;have f2:=sj ws;have z:=EB Ls ws;generalize lD Ls=A at *;generalize wD ws=B at *;simp_arith[b9,gB,fl,iI,e2,aY,a0,a1,e1,c1,c2,f1,f2,kZ,z];rw[bZ (by rw[cc];exact ll) hcm,fC (λp:Str×List Nat=>D.bl (zC p.1 p.2)),bO (aX (λp:Str×List Nat=>D.bl (zC p.1 p.2)) _ λ_=>rfl)];simp_arith[nE,all_map,pP];rfl
end W
namespace W
open PySem L2 L3 PySem.StrLaws PySem.Builtin.Str
def ji(sep x:List Nat):List (List Nat):=(Txt.split (T x) (T sep)).map λs=>s.cps.toList
theorem zD(x:Str)(w:Nat):∀(cuts:List Nat)(a:Nat),(partsFrom x w a cuts).length=cuts.length+1
 |[],_=>rfl
 |_::r,a=>by unfold partsFrom;rw[i8,i8,zD x w r]
def qS(x y:Str):Txt.split x y≠[]/\(Txt.split x y).length<=x.length+2:=by
 unfold Txt.split;split
 .exact⟨by simp,by simp⟩
 .split
  .exact⟨by simp,by simp⟩
  .rw[partsBetween_eq];have:=occ_length_le x y 0 x.length (x.length+1);refine⟨λz=>?_,by rw[zD];lia⟩;obtain⟨p,r,e⟩:=partsFrom_ne x y.length 0 (occurrences x y 0 x.length (x.length+1));rw[e]at z;cases z
def EC(sep x:List Nat):(ji sep x).map T=Txt.split (T x) (T sep):=by
 unfold ji;rw[iA]
 conv=>rhs;rw[<- List.map_id (Txt.split (T x) (T sep))]
 exact AO λs _=>(mM s).symm
def uc(sep x:List Nat):ji sep x≠[]:=λz=>by have:=ly (List.map T) z;rw[EC]at this;exact(qS _ _).1 this
def ED(sep:List Nat):∀ps:List (List Nat),ps≠[]->Str.join (T sep) (ps.map T)=T (jn sep ps):=by
 intro ps;induction ps with
 |nil=>intro h;exact(h rfl).elim
 |cons p r ih=>
  intro _;cases r with
  |nil=>rfl
  |cons q r=>have:=ih (by simp);show T p++T sep++Str.join (T sep) ((q::r).map T)=_;rw[this,Eu,Eu,show jn sep (p::q::r)=p++sep++jn sep (q::r)from rfl]
def jY(sep x:List Nat):jn sep (ji sep x)=x:=by apply yp;rw[<- ED sep _ (uc sep x),EC];exact join_split _ _
def so(sep x:List Nat):(ji sep x).length<=x.length+2:=by have:=(qS (T x) (T sep)).2;rw[cC]at this;unfold ji;rw[cc];exact this
def pE{sep x p:List Nat}(h:p∈ji sep x):p.length<=x.length:=by
 have e:=jY sep x;have k:∀ps:List (List Nat),p∈ps->p.length<=(jn sep ps).length:=by
  intro ps;induction ps with
  |nil=>intro h;cases h
  |cons q r ih=>
   intro h;cases r with
   |nil=>rw[nP.mp h];exact dJ _
   |cons s t=>
    rw[ff _ _ (by simp),kK,kK];rcases cJ.mp h with rfl|h
    .lia
    .have:=ih h;lia
 have:=k _ h
 rwa [e]at this
def ud{x sep:List Nat}{z:Str}{f:Bool}{al:List Nat}(hz:z=T sep)(hs:0<sep.length)(hl:x.length<=90000):cP (T x) (.val (.str z) f al)=.ok (.new (wD (ji sep x)) true):=by
 subst hz;have ok:jM (T x) (T sep):=by
  refine⟨by rw[cC];exact hs,by rw[cC];lia,?_,?_⟩
  .have:=(qS (T x) (T sep)).2;rw[cC]at this;lia
  .rw[partsBetween_eq,zD];have:=occ_length_le (T x) (T sep) 0 (T x).length ((T x).length+1);rw[cC]at this ⊢;lia
 show(if jM _ _ then _ else _)=_;rw[dL ok,<- EC,iA];rfl
def ue(c:Nat)(st:List Nat)(ps:List (List Nat))(h:ps≠[])(hc:∀p∈ps,c∉p)(ha:c<256)(hs:∀x∈st,x<256):ji (c::st) (jn (c::st) ps)=ps:=by unfold ji;rw[t9 c st ps h hc ha hs,iA];exact(AO λ_ _=>rfl).trans (List.map_id _)
end W
namespace W
open PySem L2 L3
noncomputable abbrev Fm:=Str×List Str
def fF(p:Fm):D:=.tup (.str p.1::lD p.2)
def fB(x:List Nat)(p:Fm):Bool:=Iz p.1 p.2 (ji [32] x)
def nc(p:Fm):(fF p).flat=true:=by show D.aL (.str p.1::lD p.2)=true;rw[a_,sk];rfl
def EE(fs:List Fm):D.aL (fs.map fF)=true:=fA λd hd=>by obtain⟨p,_,rfl⟩:=eR.mp hd;exact nc p
def sr(x:List Nat):∃w ws,ji [32] x=w::ws:=by
 cases h:ji [32] x with
 |nil=>exact(uc _ _ h).elim
 |cons w ws=>exact⟨w,ws,rfl⟩
def Lw(p:Fm)(x:List Nat)(hl:x.length<=90000):b9 [.lst (wD (ji [32] x)),fF p]=.ok (.val (.bl (fB x p)) true []):=by
 obtain⟨w,ws,e⟩:=sr x;have cj:=so [32] x;have hp:∀y∈ws,y.length<=100000:=λy hy=>by have:=pE (sep:=[32]) (x:=x) (p:=y) (by rw[e];exact gO _ hy);lia
 unfold fB fF;rw[e]at cj ⊢;rw[i8]at cj;exact Lv p.1 p.2 w ws hp (by lia)
def AE(x:List Nat)(hl:x.length<=90000)(fs:List Fm)(hf:fs.length<=20) :
 (∀p,fs.find? (fB x)=some p->bj [.str (T x),.tup (fs.map fF)]=.ok (.val (fF p) true []))/\(fs.find? (fB x)=none->bj [.str (T x),.tup (fs.map fF)]=.exc "NoText"):=by
 have hfl:=EE fs;have sp:∀(f:Bool)(al:List Nat),cP (T x) (.val (.str " ") f al)=.ok (.new (wD (ji [32] x)) true):=λf al=>ud (sep:=[32]) BN (by decide) hl;obtain⟨i1,i2⟩:=m9 fF (asg:=gN 3) (fr:=true) (body:=bM) (λenv=>∃y:Option Sl,env=[some (.val (.str (T x)) false),some (.val (.tup (fs.map fF)) false),some (.own (wD (ji [32] x)) true),y]) (fB x) (λp=>.val (fF p) true []) fs
  [some (.val (.str (T x)) false),some (.val (.tup (fs.map fF)) false),some (.own (wD (ji [32] x)) true),none] ⟨_,rfl⟩ (by
   rintro p hp env ⟨y,rfl⟩;refine⟨_,rfl,?_⟩;have hx:=Lw p x hl;have hpf:=nc p;have ef:∃ds,fF p=.tup ds/\D.aL ds=true:=⟨_,rfl,hpf⟩;obtain⟨ds,ed,hds⟩:=ef;show(_/\bM [some (.val (.str (T x)) false),some (.val (.tup (fs.map fF)) false),some (.own (wD (ji [32] x)) true),some (.val (fF p) true)]=_)\/_;rw[ed]at hx ⊢;cases q:fB x p with
   |true=>rw[q]at hx;refine .inl ⟨rfl,?_⟩;simp_arith[bM,hds,hx]
   |false=>rw[q]at hx;refine .inr ⟨rfl,[some (.val (.str (T x)) false),some (.val (.tup (fs.map fF)) false),some (.own (wD (ji [32] x)) true),some (.val (.tup ds) true)],?_,_,rfl⟩;simp_arith[bM,hds,hx])
 refine⟨λp hp=>?_,λhn=>?_⟩
 .have lp:=i1 p hp;obtain⟨ds,ed,hds⟩ : ∃ds,fF p=.tup ds/\D.aL ds=true:=⟨_,rfl,nc p⟩;rw[ed]at lp ⊢;simp_arith[bj,jc,cv,bY,sp,hfl,lp]
 .obtain⟨bn,lp,y,rfl⟩:=i2 hn;simp_arith[bj,jc,cv,bY,sp,hfl,lp]
def EF(neg:Bool)(x:Str)(l:List Str):qB neg (.str x) (.tup (lD l))=.ok (.val (.bl (if neg then !decide (x∈l)else decide (x∈l))) true []):=by
 show B6 neg (.str x) (l.map D.str)=_;unfold B6;rw[dL ⟨jQ (x_ (n:=0) λ_=>dJ 0) (lU _),lU _⟩];have e:(l.map D.str).any (λe=>dq e (.str x))=decide (x∈l):=by
  rw[Tu,rJ,Tt,cI];constructor
  .rintro⟨y,hy,h⟩;have:y=x:=by simpa[dq]using h
   exact this▸hy
  .intro h;exact⟨x,h,by simp[dq]⟩
 rw[e]
set_option maxRecDepth 100000 in
theorem R3:∀a:Fin 10,(PySem.intText? (T [48+a.val])).isSome=true:=by decide +kernel
set_option maxRecDepth 100000 in
theorem R4:∀a b:Fin 10,(PySem.intText? (T [48+a.val,48+b.val])).isSome=true:=by decide +kernel
set_option maxRecDepth 100000 in
theorem R5:∀a b c:Fin 10,(PySem.intText? (T [48+a.val,48+b.val,48+c.val])).isSome=true:=by decide +kernel
def My{a:Nat}(h:(decide (48<=a)&&decide (a<=57))=true):∃i:Fin 10,a=48+i.val:=by rw[cH,cI,cI]at h;exact⟨⟨a-48,by lia⟩,by show a=48+(a-48);lia⟩
def Lx{l:List Nat}(h:(AC 3 l&&B7 48 57 l)=true):(PySem.intText? (T l)).isSome=true/\l.length<=3:=by
 rw[cH]at h;obtain⟨h1,h2⟩:=h;unfold AC at h1;rw[cH,cI,cI]at h1;refine⟨?_,h1.2⟩;have h2:=c8.mp h2;rcases l with _|⟨a,_|⟨b,_|⟨c,_|⟨d,r⟩⟩⟩⟩
 .simp at h1
 .obtain⟨i,rfl⟩:=My (h2 a (by simp));exact R3 i
 .obtain⟨i,rfl⟩:=My (h2 a (by simp));obtain⟨j,rfl⟩:=My (h2 b (by simp));exact R4 i j
 .obtain⟨i,rfl⟩:=My (h2 a (by simp));obtain⟨j,rfl⟩:=My (h2 b (by simp));obtain⟨k,rfl⟩:=My (h2 c (by simp));exact R5 i j k
 .simp at h1
def BO(p:Str×List Nat):D:=if p.1∈(["F","V"]:List Str)then .str (T p.2)else .int ((PySem.intText? (T p.2)).getD 0)
def pF(p:Str×List Nat):(BO p).flat=true:=by unfold BO;split<;>rfl
def Ly(L:Str)(l:List Nat)(h:zC L l=true):bL [some (.val (.str L) true),some (.val (.str (T l)) true)]=.ok (.val (BO (L,l)) true []):=by
 have i1:qB false (.str L) (.tup [.str "F",.str "V"])=.ok (.val (.bl (decide (L∈(["F","V"]:List Str)))) true []):=EF false L ["F","V"];unfold BO;by_cases hL:L∈(["F","V"]:List Str)
 .rw[dM hL]at i1;rw[dL hL];have t:vB (v2 tu (ak 0) (gg (ac (vC (.str "F")) (ac (vC (.str "V")) au)))) [some (.val (.str L) true),some (.val (.str (T l)) true)]=.ok true:=by simp_arith[i1]
  unfold bL PQ;rw[t];rfl
 .rw[fZ hL]at i1;rw[f7 hL];have hc:(AC 3 l&&B7 48 57 l)=true:=by
   unfold zC at h;rw[f7 (λz=>hL (by simp[z])),f7 (λz=>hL (by simp[z]))]at h;split at h
   .have:=wV h;unfold Lu at this;simp only[cJ,iy,pK]at this;rcases this with rfl|rfl|rfl|rfl<;>decide
   .unfold Iw at h;rw[cH]at h;exact h.1
  obtain⟨h1,h2⟩:=Lx hc;obtain⟨n,hn⟩:=Su.mp h1;have k:tJ [.val (.str (T l)) true []]=.ok (.val (.int n) true []):=by unfold tJ;dsimp only[R.d];rw[hn];dsimp only;rw[cC,dL (by lia)]
  have t:vB (v2 tu (ak 0) (gg (ac (vC (.str "F")) (ac (vC (.str "V")) au)))) [some (.val (.str L) true),some (.val (.str (T l)) true)]=.ok false:=by simp_arith[i1]
  unfold bL PQ;rw[t,hn];exact k
def yt{ds:List D}{f:Bool}:v4 [.new ds f]=.ok (l6 (.tup ds) f []):=(rfl)
def IA(d:D)(ds:List D):dN (d::ds) none (some 1)=[d]:=by have:=qN (d::ds) 1;simpa using this
def EG(x:List Nat)(p:Fm)(hl:x.length<=90000)(hL:p.2.length<=10)(h:fB x p=true):∃ws,ji [32] x=p.1.cps.toList::ws/\ws.length=p.2.length/\(∀q∈p.2.zip ws,zC q.1 q.2=true)/\
 cx [.str (T x),fF p]=.ok (.val (.tup (.str p.1::(p.2.zip ws).map BO)) true []):=by
 obtain⟨w,ws,e⟩:=sr x;have sp:∀(f:Bool)(al:List Nat),cP (T x) (.val (.str " ") f al)=.ok (.new (wD (ji [32] x)) true):=λf al=>ud (sep:=[32]) BN (by decide) hl;unfold fB Iz at h;rw[e]at h sp;rw[cH,cH,cI,cI]at h;obtain⟨h1,h2,h3⟩:=h;have h2:w=p.1.cps.toList:=by simpa using h2
 have g1:ws.length=p.2.length:=by simpa using h1
 have g3:∀q∈p.2.zip ws,zC q.1 q.2=true:=c8.mp h3;clear h1 h3;subst h2;refine⟨ws,e,g1,g3,?_⟩;have e0:T p.1.cps.toList=p.1:=(mM _).symm;have fl:=nc p;have fl:D.aL (.str p.1::lD p.2)=true:=fl;have c1:dN (D.str p.1::lD p.2) (some 1) none=lD p.2:=uV _ _;have c2:dN (D.str p.1::wD ws) (some 1) none=wD ws:=uV _ _;have c3:dN (D.str p.1::wD ws) none (some 1)=[.str p.1]:=IA _ _;have f1:=sk p.2;have f2:=sj ws;have f3:D.aL ((p.2.zip ws).map BO)=true:=aX _ _ pF;have f4:D.aL (D.str p.1::(p.2.zip ws).map BO)=true:=by rw[a_,f3];rfl
 have ll:(p.2.zip ws).length<=10:=by rw[List.length_zip];lia
 have sp:∀(f:Bool)(al:List Nat),cP (T x) (.val (.str " ") f al)=.ok (.new (.str p.1::wD ws) true):=λf al=>by rw[sp];show Res.ok (R.new (.str (T p.1.cps.toList)::wD ws) true)=_;rw[e0]
 have hcm:=bX (mk:=λd=>gT 2 (aJ (gN 0) (aJ (gN 1) cg)) d true (c_ [some (.val (.str (T x)) false),some (.val (.tup (.str p.1::lD p.2)) false),some (.own (.str p.1::wD ws) true),none] 2 [])) (test:=λ_=>.ok true) (elt:=bL) (λq:Str×List Nat=>D.tup [.str q.1,.str (T q.2)]) (λq=>.val (BO q) true []) (p.2.zip ws)
  λq hq=>⟨[some (.val (.str q.1) true),some (.val (.str (T q.2)) true)],rfl,rfl,Ly q.1 q.2 (g3 q hq)⟩
 have hal:[D.str p.1].length+((p.2.zip ws).map BO).length<=1000000:=by rw[cc];show 1+_<=_;lia
 have z:=EB p.2 ws;unfold fF;generalize lD p.2=A at *;generalize wD ws=B at *;simp_arith[cx,lr,cv,bY,sp,fl,c1,c2,f1,f2,kZ,z];rw[bZ (by rw[cc];lia) hcm,fC BO,bO f3];simp_arith[c3];rw[tL hal];rw[show[D.str p.1]++(p.2.zip ws).map BO=D.str p.1::(p.2.zip ws).map BO from rfl,bO f4];simp_arith[yt,f4]
noncomputable def rowsG:List Fm:=[("skip",[]),("set",["V","N"]),("any",["V"]),("turn",["V"]),("if",["V","N","K"]),("go",["K"]),("fork",["K"]),("call",["F"]),("back",[]),("stop",[])]
def nH(x:List Nat):Bool:=(rowsG.find? (fB x)).isSome
def BP:∀p∈rowsG,p.2.length<=10:=by decide
def OI(x:List Nat)(hl:x.length<=90000):(nH x=true->∃ds,D.aL ds=true/\iL [.str (T x)]=.ok (.val (.tup ds) true []))/\(nH x=false->iL [.str (T x)]=.exc "NoText"):=by
 obtain⟨a1,a2⟩:=AE x hl rowsG (by decide);refine⟨λh=>?_,λh=>?_⟩
 .obtain⟨p,hp⟩:=Su.mp h;have hf:=Tc hp;have hm:=qV hp;obtain⟨ws,e1,e2,e3,e4⟩:=EG x p hl (BP p hm) hf;have a1:=a1 p hp;have f4:D.aL (D.str p.1::(p.2.zip ws).map BO)=true:=by rw[a_,aX _ _ pF];rfl
  refine⟨_,f4,?_⟩;obtain⟨ds,ed,hds⟩ : ∃ds,fF p=.tup ds/\D.aL ds=true:=⟨_,rfl,nc p⟩;rw[ed]at a1 e4;have a1:bj [.str (T x),.tup [.tup [.str "skip"],.tup [.str "set",.str "V",.str "N"],.tup [.str "any",.str "V"],.tup [.str "turn",.str "V"],.tup [.str "if",.str "V",.str "N",.str "K"],.tup [.str "go",.str "K"],.tup [.str "fork",.str "K"],.tup [.str "call",.str "F"],.tup [.str "back"],.tup [.str "stop"]]]=_:=a1;simp_arith[iL,o8,a1,hds,e4,f4]
 .have hn:rowsG.find? (fB x)=none:=by unfold nH at h;simpa using h
  have a2:=a2 hn;have a2:bj [.str (T x),.tup [.tup [.str "skip"],.tup [.str "set",.str "V",.str "N"],.tup [.str "any",.str "V"],.tup [.str "turn",.str "V"],.tup [.str "if",.str "V",.str "N",.str "K"],.tup [.str "go",.str "K"],.tup [.str "fork",.str "K"],.tup [.str "call",.str "F"],.tup [.str "back"],.tup [.str "stop"]]]=_:=a2;simp_arith[iL,o8,a2]
def mP(n:Nat)(caps:List Nat)(asg:D->Bool->En->Option En)(test:En->Res Bool)(elt:En->Res R)(env:En)(s:Src):Res R:=if s.xs.length<=lim then
 (cy (λd=>asg d s.fr (c_ env n caps)) test elt s.xs).bind λrs=>.ok (pU (rs.map R.d) (bF rs) (s.al++caps.filter (fq env)))else .stuck
def pG(n:Nat)(caps:List Nat)(src:En->Res Src)(asg:D->Bool->En->Option En)(test:En->Res Bool)(elt:En->Res R)(env:En) :
 qA n caps src asg test elt env=(src env).bind (mP n caps asg test elt env):=(rfl)
def uf{n:Nat}{caps:List Nat}{asg:D->Bool->En->Option En}{test:En->Res Bool}{elt:En->Res R}{env:En}{f:Bool}{al:List Nat}{xs:List D}{rs:List R}(hl:xs.length<=1000000)
 (h:cy (λd=>asg d f (c_ env n caps)) test elt xs=.ok rs):mP n caps asg test elt env ⟨xs,f,al⟩=.ok (pU (rs.map R.d) (bF rs) (al++caps.filter (fq env))):=by
 unfold mP;dsimp only;rw[dL (show xs.length<=lim from hl),h];rfl
def yu{n:Nat}{caps:List Nat}{asg:D->Bool->En->Option En}{test:En->Res Bool}{elt:En->Res R}{env:En}{f:Bool}{al:List Nat}{xs:List D}{c:Str}(hl:xs.length<=1000000)
 (h:cy (λd=>asg d f (c_ env n caps)) test elt xs=.exc c):mP n caps asg test elt env ⟨xs,f,al⟩=.exc c:=by
 unfold mP;dsimp only;rw[dL (show xs.length<=lim from hl),h];rfl
theorem wC{α:Type}{mk:D->Option En}{elt:En->Res R}{c:Str}(g:α->D)(p:α->Bool):∀(xs:List α),(∀a∈xs,∃e,mk (g a)=some e/\((p a=true->∃r,elt e=.ok r)/\(p a=false->elt e=.exc c)))->
 (xs.all p=true->∃rs,cy mk (λ_=>.ok true) elt (xs.map g)=.ok rs)/\(xs.all p=false->cy mk (λ_=>.ok true) elt (xs.map g)=.exc c)
 |[],_=>⟨λ_=>⟨[],rfl⟩,λh=>(by cases h)⟩
 |a::r,h=>by
  obtain⟨e,h1,h2,h3⟩:=h a (by simp);obtain⟨i1,i2⟩:=wC (mk:=mk) (elt:=elt) (c:=c) g p r λb hb=>h b (by simp[hb]);have un:cy mk (λ_=>.ok true) elt ((a::r).map g)=(elt e).bind λr'=>(cy mk (λ_=>.ok true) elt (r.map g)).bind λrs=>.ok (r'::rs):=by
   rw[c7]
   conv=>lhs;unfold cy
   rw[h1];rfl
  rw[un,rF];cases q:p a with
  |false=>rw[h3 q];exact⟨λz=>(by cases z),λ_=>rfl⟩
  |true=>
   obtain⟨r',hr⟩:=h2 q;rw[hr,pP];refine⟨λz=>?_,λz=>?_⟩
   .obtain⟨rs,e⟩:=i1 z;rw[e];exact⟨_,rfl⟩
   .rw[i2 z];rfl
noncomputable def QY:Res R->Bool
 |.ok _=>true
 |_=>false
def AF{r:Res R}(h:QY r=true):∃q,r=.ok q:=by
 cases r with
 |ok q=>exact⟨q,rfl⟩
 |exc c=>cases h
 |stuck=>cases h
def uX(x:List Nat):Bool:=match ji [58,32] x with
 |[a,b]=>ub a&&(ji [44,32] b).all nH
 |_=>false
def Lz:(": " : Str)=T [58,32]:=by decide
def LA:(", " : Str)=T [44,32]:=by decide
def LB:("; " : Str)=T [59,32]:=by decide
def OJ(d e:D)(ds:List D):bI (d::e::ds) 1=some e:=by unfold bI pZ;rw[dL (by decide),dL (by simp;lia)];rfl
def LC(b:List Nat)(hb:b.length<=90000){env:En}{al:List Nat}:((ji [44,32] b).all nH=true->∃r,mP 1 [] (gN 0) (λ_=>.ok true) bR env ⟨wD (ji [44,32] b),true,al⟩=.ok r)/\
 ((ji [44,32] b).all nH=false->mP 1 [] (gN 0) (λ_=>.ok true) bR env ⟨wD (ji [44,32] b),true,al⟩=.exc "NoText"):=by
 have cj:=so [44,32] b;obtain⟨i1,i2⟩:=wC (mk:=λd=>gN 0 d true (c_ env 1 [])) (elt:=bR) (c:="NoText") (λp:List Nat=>D.str (T p)) nH (ji [44,32] b) λp hp=>⟨[some (.val (.str (T p)) true)],rfl,by
  have hpl:=pE hp;obtain⟨r1,r2⟩:=OI p (by lia);refine⟨λh=>?_,λh=>?_⟩
  .obtain⟨ds,fl,e⟩:=r1 h;refine⟨.val (.tup ds) true [],?_⟩;simp_arith[bR,e,fl]
  .have e:=r2 h;simp_arith[bR,e]⟩
 refine⟨λh=>?_,λh=>?_⟩
 .obtain⟨rs,e⟩:=i1 h;exact⟨_,uf (by rw[cc];lia) e⟩
 .exact yu (by rw[cc];lia) (i2 h)
def LD(x:List Nat)(hl:x.length<=90000):(uX x=true->∃r,bq [.str (T x)]=.ok r)/\(uX x=false->bq [.str (T x)]=.exc "NoText"):=by
 have sp:∀(f:Bool)(al:List Nat),cP (T x) (.val (.str ": ") f al)=.ok (.new (wD (ji [58,32] x)) true):=λf al=>ud (sep:=[58,32]) Lz (by decide) hl;have cj:=so [58,32] x;have hpt:=λp h=>pE (sep:=[58,32]) (x:=x) (p:=p) h;unfold uX;generalize ji [58,32] x=l at *;rcases l with _|⟨a,_|⟨b,_|⟨c,r⟩⟩⟩
 .refine⟨λh=>(by cases h),λ_=>?_⟩;simp_arith[bq,ci,cv,bY,sp,iI,aY,rD]
 .refine⟨λh=>(by cases h),λ_=>?_⟩;simp_arith[bq,ci,cv,bY,sp,iI,aY,c7,rD]
 .have ha:=hpt a (by simp);have hb:=hpt b (by simp);have nb:=Ez a (by lia);have sb:∀(f:Bool)(al:List Nat),cP (T b) (.val (.str ", ") f al)=.ok (.new (wD (ji [44,32] b)) true):=λf al=>ud (sep:=[44,32]) LA (by decide) (by lia);have rb:=λenv al=>LC b (by lia) (env:=env) (al:=al);have a0:bI [D.str (T a),.str (T b)] 0=some (.str (T a)):=uW _ _;have a1:bI [D.str (T a),.str (T b)] 1=some (.str (T b)):=OJ _ _ _;have sp:∀(f:Bool)(al:List Nat),cP (T x) (.val (.str ": ") f al)=.ok (.new [.str (T a),.str (T b)] true):=sp;show((ub a&&(ji [44,32] b).all nH)=true->_)/\((ub a&&(ji [44,32] b).all nH)=false->_);cases qa:ub a with
  |false=>rw[qa]at nb;refine⟨λh=>(by cases h),λ_=>?_⟩;simp_arith[bq,ci,cv,bY,sp,iI,aY,a0,nb]
  |true=>
   rw[qa]at nb;refine⟨λh=>?_,λh=>?_⟩
   .obtain⟨r,hr⟩:=(rb [some (.val (.str (T x)) false),some (.own [.str (T a),.str (T b)] true)] []).1 h;refine AF ?_;simp_arith[bq,ci,cv,bY,sp,iI,aY,a0,nb,a1,sb,pG,hr];rfl
   .have hr:=(rb [some (.val (.str (T x)) false),some (.own [.str (T a),.str (T b)] true)] []).2 h;simp_arith[bq,ci,cv,bY,sp,iI,aY,a0,nb,a1,sb,pG,hr]
 .refine⟨λh=>(by cases h),λ_=>?_⟩;have ln:((((wD (a::b::c::r)).length:Nat):Int)==2)=false:=by rw[cc];simp only[i8];rw[jE];lia
  generalize wD (a::b::c::r)=A at *;simp_arith[bq,ci,cv,bY,sp,iI,aY,ln]
noncomputable def uY:Fm:=("values",["S","S"])
def uZ(x:List Nat):Bool:=match ji [59,32] x with
 |p0::p1::ps=>fB p0 uY&&(p1::ps).all uX
 |_=>false
def Hq(ps:List (List Nat)) (n:Nat) (hn:n<=90000) (hp:∀p∈ps,p.length<=n) (hl:ps.length<=100000) (h:ps.all uX=false) {env:En} {al:List Nat}:mP 1 [] (gN 0) (λ_=>.ok true) dh env ⟨wD ps,true,al⟩=.exc "NoText":=by
 obtain⟨_,i2⟩:=wC (mk:=λd=>gN 0 d true (c_ env 1 [])) (elt:=dh) (c:="NoText") (λp:List Nat=>D.str (T p)) uX ps λp hq=>⟨[some (.val (.str (T p)) true)],rfl,by
  have hpl:=hp p hq;obtain⟨r1,r2⟩:=LD p (by lia);refine⟨λh=>?_,λh=>?_⟩
  .obtain⟨r,e⟩:=r1 h;refine AF ?_;simp_arith[dh,e];rfl
  .have e:=r2 h;simp_arith[dh,e]⟩
 exact yu (by rw[cc];lia) (i2 h)
def EH(x:List Nat)(hl:x.length<=90000)(h:uZ x=false):cB [.str (T x)]=.exc "NoText":=by
 have sp:∀(f:Bool)(al:List Nat),cP (T x) (.val (.str "; ") f al)=.ok (.new (wD (ji [59,32] x)) true):=λf al=>ud (sep:=[59,32]) LB (by decide) hl;have cj:=so [59,32] x;have hpt:=λp h=>pE (sep:=[59,32]) (x:=x) (p:=p) h;have hne:=uc [59,32] x;unfold uZ at h;generalize ji [59,32] x=l at *;cases l with
 |nil=>exact(hne rfl).elim
 |cons p0 ps=>
  have h0:=hpt p0 (by simp);have am:=AE p0 (by lia) [uY] (by decide);have a0:bI (D.str (T p0)::wD ps) 0=some (.str (T p0)):=uW _ _;have sp:∀(f:Bool)(al:List Nat),cP (T x) (.val (.str "; ") f al)=.ok (.new (.str (T p0)::wD ps) true):=sp;cases q0:fB p0 uY with
  |false=>have e:bj [.str (T p0),.tup [.tup [.str "values",.str "S",.str "S"]]]=.exc "NoText":=am.2 (by rw[jk,q0];rfl);simp_arith[cB,gH,qM,cv,bY,sp,a0,e]
  |true=>
   have e:bj [.str (T p0),.tup [.tup [.str "values",.str "S",.str "S"]]]=.ok (.val (fF uY) true []):=am.1 uY (by rw[jk,q0]);obtain⟨ws,e1,e2,e3,e4⟩:=EG p0 uY (by lia) (by decide) q0;obtain⟨ds,ed,hds⟩ : ∃ds,fF uY=.tup ds/\D.aL ds=true:=⟨_,rfl,nc uY⟩;rw[ed]at e e4;obtain⟨d1,d2,k1,g1,g2⟩ : ∃d1 d2,cx [.str (T p0),.tup ds]=.ok (.val (.tup [.str "values",d1,d2]) true [])/\d1.flat=true/\d2.flat=true:=by
    rcases ws with _|⟨a,_|⟨b,_|⟨c,r⟩⟩⟩
    .cases e2
    .cases e2
    .exact⟨_,_,e4,pF _,pF _⟩
    .simp[uY]at e2
   have fl:D.aL [D.str "values",d1,d2]=true:=by rw[a_,a_,a_,g1,g2];rfl
   have i1:bI [D.str "values",d1,d2] 1=some d1:=rfl;have i2:bI [D.str "values",d1,d2] 2=some d2:=rfl;have c1:=uV (D.str (T p0)) (wD ps);have f2:=sj ps;cases ps with
   |nil=>simp_arith[cB,gH,qM,cv,bY,sp,a0,e,hds,k1,fl,jN,bu,aY,rD]
   |cons p1 ps=>
    have hb:(p1::ps).all uX=false:=by have h:(fB p0 uY&&(p1::ps).all uX)=false:=h;rw[q0,pP]at h;exact h
    have hx:=λenv al=>Hq (p1::ps) x.length hl (λp hp=>hpt p (gO _ hp)) (by rw[i8]at cj;lia) hb (env:=env) (al:=al);have ln:((((wD (p1::ps)).length+1:Nat):Int)==1)=false:=by rw[cc,i8,jE];lia
    generalize wD (p1::ps)=A at *;simp_arith[cB,gH,qM,cv,bY,sp,a0,e,hds,k1,fl,jN,bu,aY,ln,i1,i2,c1,f2,g1,g2,pG,hx]
noncomputable def yK(c:Nat):Bool:=decide (97<=c)&&decide (c<=122)
noncomputable def ug(c:Nat):Bool:=decide (48<=c)&&decide (c<=57)
noncomputable def wZ(c:Nat):Bool:=decide (c=44) ||(decide (c=58) || decide (c=59))
def pV(s c:Nat):Nat:=
 if s=0 then(if yK c then 1 else if ug c then(if c=48 then 2 else 1)else 9)
 else if s=1\/s=2 then(if yK c then 1 else if ug c then(if s=2 then 9 else 1)else if c=32 then 0 else if wZ c then 3 else 9)
 else if s=3 then(if c=32 then 0 else 9)
 else 9
def run(s:Nat)(l:List Nat):Nat:=l.foldl pV s
def jd(s:Nat)(a b:List Nat):run s (a++b)=run (run s a) b:=Tl
def cO(s c:Nat)(l:List Nat):run s (c::l)=run (pV s c) l:=rfl
theorem zE:∀l:List Nat,run 9 l=9
 |[]=>rfl
 |c::l=>by rw[cO,show pV 9 c=9 from rfl];exact zE l
def gd(l:List Nat):Prop:=run 0 l=1\/run 0 l=2
def OK{l:List Nat}(h:run 0 l=9):¬gd l:=λz=>by rcases z with z|z<;>rw[h]at z<;>cases z
def EI(s:Nat):pV s 32=0\/pV s 32=9:=by
 unfold pV;split
 .exact .inr rfl
 .split
  .exact .inl rfl
  .split
   .exact .inl rfl
   .exact .inr rfl
def EJ{a b:List Nat}{c:Nat}(h:(yK c ||(ug c ||(wZ c || decide (c=32))))=false):run 0 (a++c::b)=9:=by
 rw[jd,cO];simp only[uz,rG]at h;have:pV (run 0 a) c=9:=by unfold pV;simp[h.1,h.2.1,h.2.2.1,h.2.2.2]
 rw[this];exact zE _
def EK{a b:List Nat}:run 0 (a++32::32::b)=9:=by
 rw[jd,cO,cO];have:pV (pV (run 0 a) 32) 32=9:=by rcases EI (run 0 a)with e|e<;>rw[e]<;>rfl
 rw[this];exact zE _
def BQ{a b:List Nat}{d:Nat}(h:ug d=true):run 0 (a++32::48::d::b)=9:=by
 rw[jd,cO,cO,cO];have hl:yK d=false:=by simp only[ug,yK,cH,cI,Bool.and_eq_false_iff,rG]at h ⊢;lia
 have:pV (pV (pV (run 0 a) 32) 48) d=9:=by
  rcases EI (run 0 a)with e|e<;>rw[e]
  .show pV 2 d=9;unfold pV;simp[h,hl]
  .rfl
 rw[this];exact zE _
def BR{a b:List Nat}{c:Nat}(hc:wZ c=true)(h:gd (a++c::32::b)):run 0 (a++c::b)=9:=by
 unfold gd at h;rw[jd,cO,cO]at h;rw[jd,cO];have hm:∀s,pV s c=3\/pV s c=9:=λs=>by
  have:c=44\/c=58\/c=59:=by simpa[wZ]using hc
  unfold pV;rcases this with rfl|rfl|rfl<;>(split;exact .inr rfl;split;exact .inl rfl;split;exact .inr rfl;exact .inr rfl)
 rcases hm (run 0 a)with e|e
 .rw[e]at h ⊢;rw[show pV 3 32=0 from rfl]at h;cases b with
  |nil=>rcases h with h|h<;>cases h
  |cons d b=>
   rw[cO];have:pV 3 d=9:=by
    by_cases hd:d=32
    .subst hd;rw[cO,show pV 0 32=9 from rfl,zE]at h;rcases h with h|h<;>cases h
    .unfold pV;simp[hd]
   rw[this];exact zE _
 .rw[e,zE]
theorem EL:∀ps:List (List Nat),ps≠[]->(∀p∈ps,gd p)->gd (jn [32] ps)
 |[],h,_=>(h rfl).elim
 |[p],_,hp=>hp p (by simp)
 |p::q::r,_,hp=>by
  have i:=EL (q::r) (by simp) λx hx=>hp x (gO _ hx);rw[ff _ _ (by simp)];unfold gd;rw[jd,jd];have:run (run 0 p) [32]=0:=by rcases hp p (by simp)with e|e<;>rw[e]<;>rfl
  rw[this];exact i
theorem wF{c:Nat}(hc:wZ c=true):∀ps:List (List Nat),ps≠[]->(∀p∈ps,gd p)->gd (jn [c,32] ps)
 |[],h,_=>(h rfl).elim
 |[p],_,hp=>hp p (by simp)
 |p::q::r,_,hp=>by
  have i:=wF hc (q::r) (by simp) λx hx=>hp x (gO _ hx);rw[ff _ _ (by simp)];unfold gd;rw[jd,jd];have:run (run 0 p) [c,32]=0:=by
   have:c=44\/c=58\/c=59:=by simpa[wZ]using hc
   rcases hp p (by simp)with e|e<;>rw[e]<;>rcases this with rfl|rfl|rfl<;>rfl
  rw[this];exact i
theorem wG:∀l:List Nat,l.all (λc=>yK c || ug c)=true->run 1 l=1
 |[],_=>rfl
 |c::l,h=>by
  rw[rF,cH]at h;rw[cO,show pV 1 c=1 from ?_]
  .exact wG l h.2
  .unfold pV;cases hl:yK c
   .have:ug c=true:=by have:=h.1;rw[hl]at this;exact this
    simp[this]
   .simp
def IB{l:List Nat}(h:ub l=true):gd l:=by
 unfold ub AC B7 at h;simp only[cH]at h;cases l with
 |nil=>have:=h.1.1;simp at this
 |cons c l=>have ha:(c::l).all yK=true:=h.2;rw[rF,cH]at ha;left;rw[cO,show pV 0 c=1 from by unfold pV;simp[ha.1]];exact wG l (by rw[c8]at ha ⊢;intro x hx;rw[ha.2 x hx];rfl)
def OL{l:List Nat}(h:Iw l=true):gd l:=by
 unfold Iw AC B7 at h;rw[cH,cH,cH]at h;obtain⟨⟨⟨h1,h2⟩,h3⟩,h4⟩:=h;cases l with
 |nil=>simp at h1
 |cons c l=>
  rw[rF,cH]at h3;have hg:ug c=true:=h3.1;have hL:yK c=false:=by simp only[ug,yK,cH,cI,Bool.and_eq_false_iff,rG]at hg ⊢;lia
  rw[lV,cI,cI]at h4;rcases h4 with h4|h4
  .rw[h4];exact .inr rfl
  .have hc:c≠48:=λz=>h4 (by rw[z];rfl);left;rw[cO,show pV 0 c=1 from by unfold pV;simp[hg,hL,hc]];exact wG l (by rw[c8]at h3 ⊢;intro x hx;rw[show ug x=true from h3.2 x hx];simp)
def IC{L:Str}{l:List Nat}(h:zC L l=true):gd l:=by
 unfold zC at h;split at h
 .exact IB h
 .split at h
  .rw[lV,cI,cI]at h;rcases h with rfl|rfl<;>exact .inl rfl
  .split at h
   .have:=wV h;simp only[Lu,cJ,iy,pK]at this;rcases this with rfl|rfl|rfl|rfl<;>exact .inl rfl
   .exact OL h
theorem wH:∀(Ls:List Str)(ws:List (List Nat)),ws.length=Ls.length->∀w∈ws,∃L,(L,w)∈Ls.zip ws
 |[],[],_,w,h=>by cases h
 |L::Ls,x::ws,hl,w,h=>by
  rcases cJ.mp h with rfl|h
  .exact⟨L,by simp⟩
  .obtain⟨L',h'⟩:=wH Ls ws (by simpa using hl) w h;exact⟨L',by rw[List.zip_cons_cons];exact gO _ h'⟩
def ID{x:List Nat}{p:Fm}(hp:gd p.1.cps.toList)(h:fB x p=true):gd x:=by
 unfold fB Iz at h;rw[cH,cH,cI,cI,c8]at h;obtain⟨h1,h2,h3⟩:=h;rw[<- jY [32] x];obtain⟨w,ws,e⟩:=sr x;rw[e]at h1 h2 h3 ⊢;refine EL _ (by simp) λy hy=>?_;rcases cJ.mp hy with rfl|hy
 .have:=h2;simp at this;rw[this];exact hp
 .obtain⟨L,hL⟩:=wH p.2 ws (by simpa using h1) y hy;exact IC (h3 _ hL)
def OM{x:List Nat}(h:nH x=true):gd x:=by
 unfold nH at h;cases q:rowsG.find? (fB x)with
 |none=>rw[q]at h;cases h
 |some p=>
  have h1:fB x p=true:=Tc q;have h2:=qV q;refine ID ?_ h1;have:∀p∈rowsG,run 0 p.1.cps.toList=1:=by decide
  exact .inl (this p h2)
def ON{x:List Nat}(h:uX x=true):gd x:=by
 unfold uX at h;rw[<- jY [58,32] x];generalize ji [58,32] x=l at *
 match l,h with
 |[a,b],h=>
  rw[cH,c8]at h;refine wF (by decide) _ (by simp) λy hy=>?_;simp only[cJ,iy,pK]at hy;rcases hy with rfl|rfl
  .exact IB h.1
  .rw[<- jY [44,32] y];exact wF (by decide) _ (uc _ _) λz hz=>OM (h.2 z hz)
def IE{x:List Nat}(h:uZ x=true):gd x:=by
 unfold uZ at h;rw[<- jY [59,32] x];generalize ji [59,32] x=l at *
 match l,h with
 |p0::p1::ps,h=>
  rw[cH,c8]at h;refine wF (by decide) _ (by simp) λy hy=>?_;rcases cJ.mp hy with rfl|hy
  .exact ID (.inl rfl) h.1
  .exact ON (h.2 y hy)
def ss{x:List Nat}(h:run 0 x=9):uZ x=false:=by
 cases q:uZ x
 .rfl
 .exact(OK h (IE q)).elim
def BS(l:List Nat):Bool:=l.all λc=>yK c || ug c
def uB(l:List Nat):Bool:=l.all λc=>!wZ c
def LF(l:List Nat):Bool:=l.all λc=>(yK c || ug c) || decide (c=32)
def EM{l:List Nat}(h:BS l=true){c:Nat}(hc:c∈l):(yK c || ug c)=true:=c8.mp h c hc
def EN{l:List Nat}(h:LF l=true):uB l=true:=by unfold LF at h;unfold uB;rw[c8]at h ⊢;intro c hc;have:=h c hc;simp only[yK,ug,wZ,lV,cH,cI,Tj,uz,rG]at this ⊢;lia
def OO{l:List Nat}(h:BS l=true):LF l=true:=by unfold BS at h;unfold LF;rw[c8]at h ⊢;intro c hc;rw[h c hc];rfl
def EO{l:List Nat}(h:BS l=true):32∉l:=λz=>by have:=EM h z;cases this
def vz{l:List Nat}(h:uB l=true){c:Nat}(hc:wZ c=true):c∉l:=λz=>by have:=c8.mp h c z;simp[hc]at this
def zF{l:List Nat}(h:ub l=true):BS l=true:=by unfold ub B7 at h;rw[cH,c8]at h;unfold BS;rw[c8];intro c hc;rw[show yK c=true from h.2 c hc];rfl
def OP{L:Str}{l:List Nat}(h:zC L l=true):BS l=true:=by
 unfold zC at h;split at h
 .exact zF h
 .split at h
  .rw[lV,cI,cI]at h;rcases h with rfl|rfl<;>rfl
  .split at h
   .have:=wV h;simp only[Lu,cJ,iy,pK]at this;rcases this with rfl|rfl|rfl|rfl<;>rfl
   .unfold Iw B7 at h;rw[cH,cH,c8]at h;unfold BS;rw[c8];intro c hc;rw[show ug c=true from h.1.2 c hc];simp
def yw{x:List Nat}{p:Fm}(h:fB x p=true):∃ws,ji [32] x=p.1.cps.toList::ws/\ws.length=p.2.length/\∀w∈ws,BS w=true/\w≠[]:=by
 unfold fB Iz at h;rw[cH,cH,cI,cI,c8]at h;obtain⟨h1,h2,h3⟩:=h;obtain⟨w,ws,e⟩:=sr x;rw[e]at h1 h2 h3;have hl:ws.length=p.2.length:=by simpa using h1
 refine⟨ws,by rw[e];simp at h2;rw[h2],hl,λy hy=>?_⟩;obtain⟨L,hL⟩:=wH p.2 ws hl y hy;have:=h3 _ hL;refine⟨OP this,λz=>?_⟩;have g:=IC this;dsimp only at g;rw[z]at g;rcases g with g|g<;>cases g
def IF{x:List Nat}{p:Fm}(hp:BS p.1.cps.toList=true)(h:fB x p=true):LF x=true:=by
 obtain⟨ws,e,_,h3⟩:=yw h;rw[<- jY [32] x,e];unfold LF;rw[c8];intro c hc;rcases lv hc with z|⟨q,hq,z⟩
 .rw[nP.mp z];rfl
 .have:BS q=true:=by
   rcases cJ.mp hq with rfl|hq
   .exact hp
   .exact(h3 q hq).1
  rw[EM this z];rfl
def EQ{x:List Nat}(h:nH x=true):∃p∈rowsG,fB x p=true:=by
 unfold nH at h;cases q:rowsG.find? (fB x)with
 |none=>rw[q]at h;cases h
 |some p=>exact⟨p,qV q,Tc q⟩
def OQ{x:List Nat}(h:∀p∈rowsG,fB x p=false):nH x=false:=by
 cases q:nH x with
 |false=>rfl
 |true=>obtain⟨p,hp,e⟩:=EQ q;rw[h p hp]at e;cases e
def yx:∀p∈rowsG,BS p.1.cps.toList=true:=by decide
def OR{x:List Nat}(h:nH x=true):LF x=true:=by obtain⟨p,hp,e⟩:=EQ h;exact IF (yx p hp) e
def Rx(p q:List Nat)(r:List (List Nat)):p++jn [32] (q::r)=jn [32] ((p++q)::r):=by
 cases r with
 |nil=>rfl
 |cons s t=>show p++(q++[32]++jn [32] (s::t))=(p++q)++[32]++jn [32] (s::t);simp only[kI]
theorem ER:∀(ws:List (List Nat))(a b:List Nat),(∀w∈ws,32∉w)->a++32::b=jn [32] ws->∃l w w' r,ws=l++w::w'::r/\a++b=jn [32] (l++(w++w')::r)
 |[],a,b,_,h=>by exfalso;cases a<;>cases h
 |[p],a,b,hw,h=>by
  have:32∈p:=by rw[show p=a++32::b from h.symm];simp
  exact(hw p (by simp) this).elim
 |p::q::r,a,b,hw,h=>by
  rw[ff _ _ (by simp),kI]at h;rcases List.append_eq_append_iff.mp h with⟨a',h1,h2⟩|⟨c',h1,h2⟩
  .rcases a' with _|⟨z,a'⟩
   .refine⟨[],p,q,r,rfl,?_⟩;have h2:32::b=32::jn [32] (q::r):=h2;injection h2 with _ h2;rw[lT]at h1;rw[h2,<- h1,Sf];exact Rx p q r
   .exfalso;have h2:32::b=z::(a'++[32]++jn [32] (q::r)):=by simpa using h2
    injection h2 with h2 _;exact hw p (by simp) (by rw[h1,<- h2];simp)
  .rcases c' with _|⟨z,c'⟩
   .refine⟨[],p,q,r,rfl,?_⟩;have h2:32::jn [32] (q::r)=32::b:=h2;injection h2 with _ h2;rw[lT]at h1;rw[<- h2,h1,Sf];exact Rx p q r
   .have h2:32::jn [32] (q::r)=z::(c'++32::b):=by simpa using h2
    injection h2 with hz h2;obtain⟨l,w,w',r',e1,e2⟩:=ER (q::r) c' b (λw hw'=>hw w (gO _ hw')) h2.symm;refine⟨p::l,w,w',r',by rw[e1];rfl,?_⟩;rw[h1,<- hz,SV,ff _ _ (by simp),<- e2];simp
theorem wI{c:Nat}(hc:c≠32):∀(ps:List (List Nat))(a b:List Nat),a++32::b=jn [c,32] ps->(∃a',a=a'++[c])\/∃l p r a' b',ps=l++p::r/\p=a'++32::b'/\a++b=jn [c,32] (l++(a'++b')::r)/\∃pre,a=pre++a'
 |[],a,b,h=>by exfalso;cases a<;>cases h
 |[p],a,b,h=>.inr ⟨[],p,[],a,b,rfl,h.symm,rfl,[],rfl⟩
 |p::q::r,a,b,h=>by
  rw[ff _ _ (by simp),kI]at h;rcases List.append_eq_append_iff.mp h with⟨a',h1,h2⟩|⟨c',h1,h2⟩
  .rcases a' with _|⟨z,a'⟩
   .exfalso;have h2:32::b=c::32::jn [c,32] (q::r):=h2;injection h2 with h2 _;exact hc h2.symm
   .have h2:32::b=z::(a'++c::32::jn [c,32] (q::r)):=by simpa using h2
    injection h2 with hz h2;refine .inr ⟨[],p,q::r,a,a',rfl,by rw[h1,<- hz],?_,[],rfl⟩;rw[h2,Sf];show _=(a++a')++[c,32]++jn [c,32] (q::r);simp
  .rcases c' with _|⟨z,c'⟩
   .exfalso;have h2:c::32::jn [c,32] (q::r)=32::b:=h2;injection h2 with h2 _;exact hc h2
   .have h2:c::32::jn [c,32] (q::r)=z::(c'++32::b):=by simpa using h2
    injection h2 with hz h2;rcases c' with _|⟨y,c'⟩
    .exact .inl ⟨p,by rw[h1,<- hz]⟩
    .have h2:32::jn [c,32] (q::r)=y::(c'++32::b):=h2;injection h2 with hy h2;rcases wI hc (q::r) c' b h2.symm with⟨a',e⟩|⟨l,p',r',a',b',e1,e2,e3,pre,e4⟩
     .exact .inl ⟨p++z::y::a',by rw[h1,e];simp⟩
     .refine .inr ⟨p::l,p',r',a',b',by rw[e1];rfl,e2,?_,p++z::y::pre,by rw[h1,e4];simp⟩;rw[h1,<- hz,<- hy,SV,ff _ _ (by simp),<- e3];simp
def LG:∀p∈uY::rowsG,∀q∈uY::rowsG,(p.1.cps.toList=q.1.cps.toList->p.2.length=q.2.length)/\(p.1.cps.toList.isPrefixOf q.1.cps.toList=true->p.1.cps.toList.length=q.1.cps.toList.length):=by decide
def ES{a b:List Nat}{p:Fm}(hp:p∈uY::rowsG)(h:fB (a++32::b) p=true):∀q∈uY::rowsG,fB (a++b) q=false:=λq hq=>by
 obtain⟨ws,e,hl,hw⟩:=yw h;have hpa:BS p.1.cps.toList=true:=by
  rcases cJ.mp hp with rfl|hp
  .rfl
  .exact yx p hp
 have hno:∀w∈p.1.cps.toList::ws,32∉w:=λw h=>by
  rcases cJ.mp h with rfl|h
  .exact EO hpa
  .exact EO (hw w h).1
 obtain⟨l,w,w',r,e1,e2⟩:=ER (p.1.cps.toList::ws) a b hno (by rw[<- e];exact(jY _ _).symm);obtain⟨n1,n2⟩:=LG p hp q hq;have es:ji [32] (a++b)=l++(w++w')::r:=by
  rw[e2];refine ue 32 [] _ (by simp) (λy hy=>?_) (by decide) (by simp);have mm:∀y,y∈l\/y=w\/y=w'\/y∈r->32∉y:=λy h=>hno y (by rw[e1];simp;exact h);rw[ir,cJ]at hy;rcases hy with h|rfl|h
  .exact mm y (.inl h)
  .intro z;rcases ir.mp z with z|z
   .exact mm w (.inr (.inl rfl)) z
   .exact mm w' (.inr (.inr (.inl rfl))) z
  .exact mm y (.inr (.inr (.inr h)))
 have cj:(l++(w++w')::r).length=p.2.length:=by have:=ly List.length e1;simp only[i8,kK]at this ⊢;lia
 unfold fB Iz;rw[es];cases hd:decide ((l++(w++w')::r).head?=some q.1.cps.toList)with
 |false=>simp
 |true=>
  have hd:=wV hd;have:decide ((l++(w++w')::r).length=q.2.length+1)=false:=by
   rw[rG,cj];cases l with
   |nil=>exfalso;injection e1 with f1 f2;have hd:some (w++w')=some q.1.cps.toList:=hd;injection hd with hd;have hn:w'≠[]:=(hw w' (by rw[f2];simp)).2;have:=n2 (by rw[<- hd,f1];rw[List.isPrefixOf_iff_prefix];exact List.prefix_append _ _);rw[<- hd,f1,kK]at this;exact hn (List.length_eq_zero_iff.mp (by lia))
   |cons h l=>injection e1 with f1 f2;have hd:some h=some q.1.cps.toList:=hd;injection hd with hd;have:=n1 (by rw[f1,hd]);lia
  rw[this];rfl
def LH{a b:List Nat}(h:nH (a++32::b)=true):nH (a++b)=false:=by obtain⟨p,hp,e⟩:=EQ h;exact OQ λq hq=>ES (gO _ hp) e q (gO _ hq)
noncomputable abbrev PT:=List Nat×List (List Nat)
def l9(p:PT):List Nat:=jn [58,32] [p.1,jn [44,32] p.2]
structure Ml(p:PT):Prop where
 nf:uB p.1=true
 ne:p.2≠[]
 rf:∀r∈p.2,uB r=true
def AG{rs:List (List Nat)}(h:∀r∈rs,uB r=true){c:Nat}(hc:c=58\/c=59):c∉jn [44,32] rs:=λz=>by
 rcases lv z with z|⟨p,hp,z⟩
 .simp at z;lia
 .exact vz (h p hp) (by rcases hc with rfl|rfl<;>rfl) z
def IG{p:PT}(h:Ml p):59∉l9 p:=λz=>by
 rcases lv z with z|⟨q,hq,z⟩
 .simp at z
 .simp only[cJ,iy,pK]at hq;rcases hq with rfl|rfl
  .exact vz h.nf rfl z
  .exact AG h.rf (.inr rfl) z
def IH{p:PT}(h:Ml p):uX (l9 p)=(ub p.1&&p.2.all nH):=by
 unfold uX l9;have e1:ji [58,32] (jn [58,32] [p.1,jn [44,32] p.2])=[p.1,jn [44,32] p.2]:=ue 58 [32] _ (by simp) (λq hq=>by
  simp only[cJ,iy,pK]at hq;rcases hq with rfl|rfl
  .exact vz h.nf rfl
  .exact AG h.rf (.inl rfl)) (by decide) (by decide)
 have e2:ji [44,32] (jn [44,32] p.2)=p.2:=ue 44 [32] _ h.ne (λq hq=>vz (h.rf q hq) rfl) (by decide) (by decide);rw[e1];show(ub p.1&&(ji [44,32] (jn [44,32] p.2)).all nH)=_;rw[e2]
def uh{v:List Nat}{ps:List (List Nat)}(hn:ps≠[])(hv:59∉v)(hp:∀p∈ps,59∉p):uZ (jn [59,32] (v::ps))=(fB v uY&&ps.all uX):=by
 unfold uZ;have e1:ji [59,32] (jn [59,32] (v::ps))=v::ps:=ue 59 [32] _ (by simp) (λq hq=>by
  rcases cJ.mp hq with rfl|hq
  .exact hv
  .exact hp q hq) (by decide) (by decide)
 rw[e1];cases ps with
 |nil=>exact(hn rfl).elim
 |cons p ps=>rfl
def II{v:List Nat}{ps:List PT}(hn:ps≠[])(hv:uB v=true)(hp:∀p∈ps,Ml p):uZ (jn [59,32] (v::ps.map l9))=(fB v uY&&ps.all λp=>ub p.1&&p.2.all nH):=by
 rw[uh (by simpa using hn) (vz hv rfl) λq hq=>by obtain⟨p,h,rfl⟩:=eR.mp hq;exact IG (hp p h)];congr 1;rw[List.all_map];have:∀l:List PT,(∀p∈l,Ml p)->l.all (uX ∘ l9)=l.all λp=>ub p.1&&p.2.all nH:=λl=>by
  induction l with
  |nil=>intro _;rfl
  |cons a r ih=>intro h;rw[rF,rF,ih λp hp=>h p (gO _ hp),Function.comp,IH (h a (by simp))]
 exact this ps hp
def IJ{x:List Nat}(h:uX x=true):∃p:PT,x=l9 p/\ub p.1=true/\p.2.all nH=true/\p.2≠[]:=by
 unfold uX at h;have e:=jY [58,32] x;generalize ji [58,32] x=l at *
 match l,h with
 |[a,b],h=>rw[cH]at h;exact⟨(a,ji [44,32] b),by unfold l9;dsimp only;rw[jY];exact e.symm,h.1,h.2,uc _ _⟩
def OS{p:PT}(h1:ub p.1=true)(h2:p.2.all nH=true)(h3:p.2≠[]):Ml p:=⟨EN (OO (zF h1)),h3,λr hr=>EN (OR (c8.mp h2 r hr))⟩
def ET{a b:List Nat}{c:Nat}(h:c∉a++32::b):c∉a++b:=λz=>h (by
 rcases ir.mp z with z|z
 .exact nQ _ z
 .exact f_ _ (gO _ z))
def Hr{a b:List Nat}(h:uB (a++32::b)=true):uB (a++b)=true:=by unfold uB at h ⊢;rw[Td,rF]at h;rw[Td];simp only[cH]at h ⊢;exact⟨h.1,h.2.2⟩
def LI{a b:List Nat}(h:uX (a++32::b)=true):uX (a++b)=false\/∃a' c,a=a'++[c]/\wZ c=true:=by
 obtain⟨⟨n,rs⟩,e,h1,h2,h3⟩:=IJ h;dsimp only at h1 h2 h3;unfold l9 at e;dsimp only at e;rcases wI (c:=58) (by decide) _ a b e with⟨a',z⟩|⟨l,p,r,a',b',e1,e2,e3,pre,e4⟩
 .exact .inr ⟨a',58,z,rfl⟩
 .rcases l with _|⟨x,_|⟨y,l⟩⟩
  .injection e1 with f1 f2;exact(EO (zF h1) (by rw[f1,e2];simp)).elim
  .injection e1 with f1 f2;injection f2 with f2 f3;subst f1;subst f3;rcases wI (c:=44) (by decide) rs a' b' (by rw[<- e2];exact f2.symm)with⟨a'',z⟩|⟨l,q,r,a'',b'',g1,g2,g3,_⟩
   .exact .inr ⟨pre++a'',44,by rw[e4,z,kI],rfl⟩
   .left;have hq:nH q=true:=c8.mp h2 q (by rw[g1];simp);have hf:=LH (a:=a'') (b:=b'') (by rw[<- g2];exact hq);have pf:=OS (p:=(n,rs)) h1 h2 h3;have key:uX (l9 (n,l++(a''++b'')::r))=_:=IH (p:=(n,l++(a''++b'')::r)) ⟨pf.nf,by simp,λt ht=>by
     rw[ir,cJ]at ht;rcases ht with ht|rfl|ht
     .exact pf.rf t (by show t∈rs;rw[g1];simp[ht])
     .exact Hr (by rw[<- g2];exact pf.rf q (by show q∈rs;rw[g1];simp))
     .exact pf.rf t (by show t∈rs;rw[g1];simp[ht])⟩
    rw[e3,show[n]++[a'++b']=[n,a'++b']from rfl,g3];show uX (l9 (n,l++(a''++b'')::r))=false;rw[key,Td,rF,hf];simp
  .have:=ly List.length e1;simp at this
def LJ{a b:List Nat}(h:uZ (a++32::b)=true):uZ (a++b)=false:=by
 have hg:=IE h;have mk:∀a' c,a=a'++[c]->wZ c=true->uZ (a++b)=false:=λa' c e hc=>by subst e;refine ss ?_;have:=BR (a:=a') (b:=b) hc (by simpa using hg);simpa using this
 unfold uZ at h;have e:=jY [59,32] (a++32::b);generalize ji [59,32] (a++32::b)=L at *
 match L,h with
 |p0::p1::ps,h=>
  rw[cH]at h;obtain⟨h0,hp⟩:=h;have no0:59∉p0:=vz (EN (IF (p:=uY) rfl h0)) rfl;have nop:∀p∈p1::ps,59∉p:=λp hq=>by obtain⟨q,e,k1,k2,k3⟩:=IJ (c8.mp hp p hq);rw[e];exact IG (OS k1 k2 k3)
  rcases wI (c:=59) (by decide) _ a b e.symm with⟨a',z⟩|⟨l,p,r,a',b',e1,e2,e3,pre,e4⟩
  .exact mk a' 59 z rfl
  .rcases l with _|⟨x,l⟩
   .injection e1 with f1 f2;subst f1;have hf:=ES (a:=a') (b:=b') (p:=uY) (by simp) (by rw[<- e2];exact h0) uY (by simp);rw[e3,Sf,<- f2,uh (by simp) (ET (by rw[<- e2];exact no0)) nop,hf];rfl
   .injection e1 with f1 f2;have hpp:uX p=true:=c8.mp hp p (by rw[f2];simp);rcases LI (a:=a') (b:=b') (by rw[<- e2];exact hpp)with hf|⟨a'',c,z,hc⟩
    .rw[e3,<- f1,SV,uh (by simp) no0 λt ht=>by
      rw[ir,cJ]at ht;rcases ht with ht|rfl|ht
      .exact nop t (by rw[f2];simp[ht])
      .exact ET (by rw[<- e2];exact nop p (by rw[f2];simp))
      .exact nop t (by rw[f2];simp[ht])]
     rw[Td,rF,hf];simp
    .exact mk (pre++a'') c (by rw[e4,z,kI]) hc
noncomputable def fD(p:Str×List D):D:=.tup (.str p.1::p.2)
noncomputable def rS(h:Str)(cs:List kX):List (List Nat):=h.cps.toList::cs.map kX.w
def mQ(h:Str)(cs:List kX):List Nat:=jn [32] (rS h cs)
def LK(h:Str)(cs:List kX):((rS h cs).map λp=>D.str (T p))=wY h cs:=by unfold rS wY;rw[c7,<- mM,iA];rfl
structure vF(h:Str) (cs:List kX):Prop where
 hd:pB h.cps.toList=true
 hl:h.cps.toList.length<=8
 len:cs.length<=3
 wk:∀c∈cs,Wk c
def vF.no{h:Str}{cs:List kX}(r:vF h cs){c:Nat}(hc:c<48\/(57<c/\c<97)):∀p∈rS h cs,c∉p:=λp hp=>by
 rcases cJ.mp hp with rfl|hp
 .exact AB r.hd hc
 .obtain⟨x,hx,rfl⟩:=eR.mp hp;exact AB (r.wk x hx).al hc
def vF.FD{h:Str}{cs:List kX}(r:vF h cs):(mQ h cs).length<=36:=by
 have:=qR [32] (n:=8) (rS h cs) λp hp=>by
  rcases cJ.mp hp with rfl|hp
  .exact r.hl
  .obtain⟨x,hx,rfl⟩:=eR.mp hp;exact(r.wk x hx).len
 have hl:=r.len;have e:(rS h cs).length=cs.length+1:=by unfold rS;simp
 rw[e]at this;simp only[i8,mW]at this;unfold mQ;lia
def vF.split{h:Str}{cs:List kX}(r:vF h cs){f:Bool}{al:List Nat}:cP (T (mQ h cs)) (.val (.str " ") f al)=.ok (.new (wY h cs) true):=by rw[<- LK];have hl:=r.len;have ht:=r.FD;exact pC (c:=32) (st:=[]) BN (by unfold rS;simp) (r.no (.inl (by decide))) (jQ ht (by decide)) (by unfold rS;simp;lia) (by decide) (λ_ z=>by cases z)
def IK{h:Str}{cs:List kX}(r:vF h cs){forms:List (Str×List D)}(hF:∀p∈forms,D.aL p.2=true/\(p.1=h->p.2=cs.map λc=>.str c.l))(hin:h∈forms.map (·.1)) :
 bj [.str (T (mQ h cs)),.tup (forms.map fD)]=.ok (.val (.tup (wA h cs)) true []):=by
 have hfl:D.aL (forms.map fD)=true:=fA λd hd=>by obtain⟨p,hp,rfl⟩:=eR.mp hd;show D.aL (.str p.1::p.2)=true;rw[a_,(hF p hp).1];rfl
 obtain⟨i1,_⟩:=m9 fD (asg:=gN 3) (fr:=true) (body:=bM) (λenv=>∃x:Option Sl,env=[some (.val (.str (T (mQ h cs))) false),some (.val (.tup (forms.map fD)) false),some (.own (wY h cs) true),x]) (λp=>decide (p.1=h)) (λp=>.val (fD p) true []) forms
  [some (.val (.str (T (mQ h cs))) false),some (.val (.tup (forms.map fD)) false),some (.own (wY h cs) true),none] ⟨_,rfl⟩ (by
   rintro p hp env ⟨x,rfl⟩;refine⟨_,rfl,?_⟩;have hpf:D.aL (.str p.1::p.2)=true:=by rw[a_,(hF p hp).1];rfl
   by_cases e:p.1=h
   .refine .inl ⟨dM e,?_⟩;have e2:fD p=.tup (wA h cs):=by unfold fD wA;rw[e,(hF p hp).2 e]
    show bM [some (.val (.str (T (mQ h cs))) false),some (.val (.tup (forms.map fD)) false),some (.own (wY h cs) true),some (.val (fD p) true)]=_;rw[e2];simp_arith[bM,pD,Lq (jQ r.len (by decide)) r.wk]
   .refine .inr ⟨fZ e,[some (.val (.str (T (mQ h cs))) false),some (.val (.tup (forms.map fD)) false),some (.own (wY h cs) true),some (.val (fD p) true)],?_,_,rfl⟩;show bM [some (.val (.str (T (mQ h cs))) false),some (.val (.tup (forms.map fD)) false),some (.own (wY h cs) true),some (.val (fD p) true)]=_;have hno:=Oz (w:=h) (f:=p.1) (ws:=cs.map λc=>.str (T c.w)) (hF p hp).1 (lX e);have hno:b9 [.lst (wY h cs),.tup (.str p.1::p.2)]=.ok (.val (.bl false) true []):=hno;simp_arith[bM,fD,hpf,hno])
 obtain⟨p,hp,e⟩:=eR.mp hin;have hfind:∃q,forms.find? (λp=>decide (p.1=h))=some q/\fD q=.tup (wA h cs):=by
  cases q:forms.find? (λp=>decide (p.1=h))with
  |none=>have:=List.find?_eq_none.mp q p hp;simp[e]at this
  |some z=>
   have hz:z.1=h:=by have:=Tc q;simpa using this
   have hm:=qV q;exact⟨z,rfl,by unfold fD wA;rw[hz,(hF z hm).2 hz]⟩
 obtain⟨q,hq,eq⟩:=hfind;have lp:=i1 q hq;rw[eq]at lp;simp_arith[bj,jc,cv,bY,r.split,hfl,lp]
def IL{h:Str}{cs:List kX}(r:vF h cs):cx [.str (T (mQ h cs)),.tup (wA h cs)]=.ok (.val (.tup (FK h cs)) true []):=by
 have c1:dN (wA h cs) (some 1) none=cs.map λc=>.str c.l:=uV _ _;have c2:dN (wY h cs) (some 1) none=cs.map λc=>.str (T c.w):=uV _ _;have c3:dN (wY h cs) none (some 1)=[.str h]:=IA _ _;have f1:D.aL (cs.map λc=>D.str c.l)=true:=aX _ _ λ_=>rfl;have f2:D.aL (cs.map λc=>D.str (T c.w))=true:=aX _ _ λ_=>rfl;have f3:D.aL (cs.map kX.d)=true:=fA λd hd=>by obtain⟨c,hc,rfl⟩:=eR.mp hd;exact(r.wk c hc).flat
 have f4:D.aL (D.str h::cs.map kX.d)=true:=by rw[a_,f3];rfl
 have hcm:=bX (mk:=λd=>gT 2 (aJ (gN 0) (aJ (gN 1) cg)) d true (c_ [some (.val (.str (T (mQ h cs))) false),some (.val (.tup (wA h cs)) false),some (.own (wY h cs) true),none] 2 [])) (test:=λ_=>.ok true) (elt:=bL) (λc:kX=>D.tup [.str c.l,.str (T c.w)]) (λc=>.val c.d true []) cs
  λc h=>⟨[some (.val (.str c.l) true),some (.val (.str (T c.w)) true)],rfl,rfl,(r.wk c h).keep⟩
 have hl:=r.len;have hal:[D.str h].length+(cs.map kX.d).length<=1000000:=by simp;lia
 simp_arith[cx,lr,cv,bY,r.split,pD,c1,c2,f1,f2,kZ,wB (λc:kX=>D.str c.l) (λc=>.str (T c.w))];rw[bZ (by rw[cc];lia) hcm,fC kX.d,bO f3];simp_arith[c3];rw[tL hal];rw[show[D.str h]++cs.map kX.d=D.str h::cs.map kX.d from rfl,bO f4];simp_arith[yt,f4,FK]
set_option maxRecDepth 100000 in
theorem EU:∀n:Fin 1000,(Iw (m_ n.val)&&(decide (PySem.intText? (T (m_ n.val))=some ((n.val:Nat):Int))&&(pB (m_ n.val)&&decide ((m_ n.val).length<=3))))=true:=by decide +kernel
def ng{n:Nat}(h:n<1000):dX [.str (T (m_ n))]=.ok (.val (.bl true) true [])/\PySem.intText? (T (m_ n))=some ((n:Nat):Int)/\pB (m_ n)=true/\(m_ n).length<=3:=by have:=EU ⟨n,h⟩;dsimp only at this;rw[cH,cH,cH,cI,cI]at this;obtain⟨h1,h2,h3,h4⟩:=this;exact⟨by rw[AD _ (by lia),h1],h2,h3,h4⟩
def cV(w:Bool):kX:=⟨"V",(wd w).cps.toList,.str (wd w)⟩
def cN(l:Str)(n:Int):kX:=⟨l,m_ n.toNat,.int n⟩
noncomputable def cF(f:Str):kX:=⟨"F",f.cps.toList,.str f⟩
def IM(l:Str)(x:Str)(hl:l="N"\/l="K"\/l="S"):bL [some (.val (.str l) true),some (.val (.str x) true)]=tJ [.val (.str x) true []]:=by rcases hl with rfl|rfl|rfl<;>rfl
def yz{x:Str}{n:Int}(h:PySem.intText? x=some n)(hl:x.length<=100):tJ [.val (.str x) true []]=.ok (.val (.int n) true []):=by show(match PySem.intText? x with|some n=>if x.length<=100 then _ else _|none=>_)=_;rw[h];exact dL hl
def AH{n:Nat}(h:n<1000)(f:Bool)(al:List Nat):uJ [.val (.int (n:Int)) f al]=.ok (.val (.str (T (m_ n))) true []):=by show(if((n:Nat):Int).natAbs<1000000 then _ else _)=_;rw[dL (by lia),Oy]
def PZ(w:Bool):Wk (cV w):=by
 cases w
 .exact⟨qQ (by decide +kernel),rfl,by decide,by decide,λf al=>by rw[show T (cV false).w=wd false from(mM _).symm];rfl,rfl⟩
 .exact⟨qQ (by decide +kernel),rfl,by decide,by decide,λf al=>by rw[show T (cV true).w=wd true from(mM _).symm];rfl,rfl⟩
def OT(l:Str)(x:Str)(hl:l="N"\/l="K") (h:dX [.str x]=.ok (.val (.bl true) true [])):bV [.str l,.str x]=.ok (.val (.bl true) true []):=by
 rcases hl with rfl|rfl
 .have a:dq (.str "N") (.str "F")=false:=rfl;have b:dq (.str "N") (.str "V")=false:=rfl;have c:dq (.str "N") (.str "S")=false:=rfl;simp_arith[bV,fK,bu,a,b,c,h]
 .have a:dq (.str "K") (.str "F")=false:=rfl;have b:dq (.str "K") (.str "V")=false:=rfl;have c:dq (.str "K") (.str "S")=false:=rfl;simp_arith[bV,fK,bu,a,b,c,h]
def OU{l:Str}(hl:l="N"\/l="K") {n:Int} (h0:0<=n) (h1:n<1000):Wk (cN l n):=by
 obtain⟨k,rfl⟩ : ∃k:Nat,n=k:=⟨n.toNat,by lia⟩;have hk:k<1000:=by lia
 obtain⟨c1,c2,c3,c4⟩:=ng hk;have e:(cN l (k:Int)).w=m_ k:=rfl;refine⟨by rw[e];exact OT l _ hl c1,?_,by rw[e];exact c3,by rw[e];lia,λf al=>by rw[e];exact AH hk f al,rfl⟩;rw[e];show bL [some (.val (.str l) true),some (.val (.str (T (m_ k))) true)]=_;rw[IM l _ (hl.elim .inl λz=>.inr (.inl z))];exact yz c2 (by rw[cC];lia)
def EV{l:List Nat}(h:Nm l):pB l=true:=by unfold pB;rw[c8];intro x hx;have:=h.2 x hx;simp only[lV,cH,cI];exact .inl this
def OV(l:List Nat)(h:Nm l):bV [.str "F",.str (T l)]=.ok (.val (.bl true) true []):=by have a:dq (.str "F") (.str "F")=true:=fm _;simp_arith[bV,fK,bu,a,ua h]
def R6{f:Str}(h:Nm f.cps.toList):Wk (cF f):=by have e:T (cF f).w=f:=(mM f).symm;refine⟨OV _ h,?_,EV h,h.1.2,λg al=>by rw[e];rfl,rfl⟩;rw[e];rfl
set_option maxRecDepth 100000 in
theorem Ry{n:Int}(h0:1<=n)(h1:n<=4):Wk (cN "S" n):=by
 have:n=1\/n=2\/n=3\/n=4:=by lia
 have key:∀k:Nat,k<1000->bV [.str "S",.str (T (m_ k))]=.ok (.val (.bl true) true [])->Wk (cN "S" (k:Int)):=λk hk hm=>by obtain⟨c1,c2,c3,c4⟩:=ng hk;have e:(cN "S" (k:Int)).w=m_ k:=rfl;refine⟨by rw[e];exact hm,?_,by rw[e];exact c3,by rw[e];lia,λf al=>by rw[e];exact AH hk f al,rfl⟩;rw[e];show bL [some (.val (.str "S") true),some (.val (.str (T (m_ k))) true)]=_;rw[IM "S" _ (.inr (.inr rfl))];exact yz c2 (by rw[cC];lia)
 rcases this with rfl|rfl|rfl|rfl
 .exact key 1 (by decide) (qQ (by decide +kernel))
 .exact key 2 (by decide) (qQ (by decide +kernel))
 .exact key 3 (by decide) (qQ (by decide +kernel))
 .exact key 4 (by decide) (qQ (by decide +kernel))
noncomputable def Rw.hd:Rw->Str
 |.skip=>"skip"
 |.back=>"back"
 |.stop=>"stop"
 |.set _ _=>"set"
 |.any _=>"any"
 |.turn _=>"turn"
 |.iff _ _ _=>"if"
 |.go _=>"go"
 |.fork _=>"fork"
 |.call _=>"call"
def Rw.cs:Rw->List kX
 |.skip=>[]
 |.back=>[]
 |.stop=>[]
 |.set w n=>[cV w,cN "N" n]
 |.any w=>[cV w]
 |.turn w=>[cV w]
 |.iff w n k=>[cV w,cN "N" n,cN "K" k]
 |.go k=>[cN "K" k]
 |.fork k=>[cN "K" k]
 |.call f=>[cF f]
def ui(r:Rw):r.d=FK r.hd r.cs:=by cases r<;>rfl
noncomputable def IN:List Str:=["skip","back","stop","set","any","turn","if","go","fork","call"]
def EY:∀h∈IN,pB h.cps.toList=true/\h.cps.toList.length<=8:=by decide
def OW(r:Rw):r.hd∈IN:=by cases r<;>(simp only[Rw.hd];decide)
noncomputable def rowsF:List (Str×List D):=[("skip",[]),("set",[.str "V",.str "N"]),("any",[.str "V"]),("turn",[.str "V"]),("if",[.str "V",.str "N",.str "K"]),("go",[.str "K"]),("fork",[.str "K"]),("call",[.str "F"]),("back",[]),("stop",[])]
noncomputable def Mz:Rw->Prop
 |.set _ n=>0<=n/\n<1000
 |.iff _ n k=>(0<=n/\n<1000)/\(0<=k/\k<1000)
 |.go k=>0<=k/\k<1000
 |.fork k=>0<=k/\k<1000
 |.call f=>Nm f.cps.toList
 |_=>True
def QZ{r:Rw}(h:Mz r):vF r.hd r.cs:=by
 have ho:=EY _ (OW r);have no:∀c∈([]:List kX),Wk c:=λ_ z=>by cases z
 have one:∀{a:kX},Wk a->∀c∈[a],Wk c:=λha c hc=>by rw[nP.mp hc];exact ha
 cases r with
 |skip=>exact⟨ho.1,ho.2,by decide,no⟩
 |back=>exact⟨ho.1,ho.2,by decide,no⟩
 |stop=>exact⟨ho.1,ho.2,by decide,no⟩
 |any w=>exact⟨ho.1,ho.2,by show 1<=3;decide,one (PZ w)⟩
 |turn w=>exact⟨ho.1,ho.2,by show 1<=3;decide,one (PZ w)⟩
 |set w n=>
  refine⟨ho.1,ho.2,by show 2<=3;decide,λc hc=>?_⟩;rcases cJ.mp hc with rfl|hc
  .exact PZ w
  .exact one (OU (.inl rfl) h.1 h.2) c hc
 |iff w n k=>
  refine⟨ho.1,ho.2,by show 3<=3;decide,λc hc=>?_⟩;rcases cJ.mp hc with rfl|hc
  .exact PZ w
  .rcases cJ.mp hc with rfl|hc
   .exact OU (.inl rfl) h.1.1 h.1.2
   .exact one (OU (.inr rfl) h.2.1 h.2.2) c hc
 |go k=>exact⟨ho.1,ho.2,by show 1<=3;decide,one (OU (.inr rfl) h.1 h.2)⟩
 |fork k=>exact⟨ho.1,ho.2,by show 1<=3;decide,one (OU (.inr rfl) h.1 h.2)⟩
 |call f=>exact⟨ho.1,ho.2,by show 1<=3;decide,one (R6 h)⟩
def zG:∀p∈rowsF,D.aL p.2=true:=by intro p hp;unfold rowsF at hp;simp only[cJ,iy,pK]at hp;rcases hp with rfl|rfl|rfl|rfl|rfl|rfl|rfl|rfl|rfl|rfl<;>rfl
def yA(r:Rw):(∀p∈rowsF,p.1=r.hd->p.2=r.cs.map λc=>.str c.l)/\r.hd∈rowsF.map (·.1):=by
 constructor
 .intro p hp;unfold rowsF at hp;simp only[cJ,iy,pK]at hp;rcases hp with rfl|rfl|rfl|rfl|rfl|rfl|rfl|rfl|rfl|rfl<;>cases r<;>intro e<;>first|rfl|(exfalso;revert e;simp only[Rw.hd];decide)
 .cases r<;>(simp only[Rw.hd];decide)
def Rw.tx(r:Rw):List Nat:=mQ r.hd r.cs
def BU{r:Rw}(h:vF r.hd r.cs):iL [.str (T r.tx)]=.ok (.val (.tup r.d) true []):=by
 have e1:=IK h (forms:=rowsF) (λp hp=>⟨zG p hp,(yA r).1 p hp⟩) (yA r).2;have e2:=IL h;have e3:D.aL (FK r.hd r.cs)=true:=by rw[<- ui];exact(mO r).aL
 rw[ui];unfold Rw.tx;have e1:bj [.str (T (mQ r.hd r.cs)),.tup [.tup [.str "skip"],.tup [.str "set",.str "V",.str "N"],.tup [.str "any",.str "V"],.tup [.str "turn",.str "V"],.tup [.str "if",.str "V",.str "N",.str "K"],.tup [.str "go",.str "K"],.tup [.str "fork",.str "K"],.tup [.str "call",.str "F"],.tup [.str "back"],.tup [.str "stop"]]]=.ok (.val (.tup (wA r.hd r.cs)) true []):=e1;simp_arith[iL,o8,e1,pD,e2,e3]
noncomputable abbrev Pq:=Str×List Rw
def FL(rs:List Rw):List Nat:=jn [44,32] (rs.map Rw.tx)
def vA(q:Pq):List Nat:=jn [58,32] [q.1.cps.toList,FL q.2]
structure HF(q:Pq):Prop where
 nm:Nm q.1.cps.toList
 ne:0<q.2.length
 le:q.2.length<=300
 rw:∀r∈q.2,vF r.hd r.cs
def EZ{r:Rw}(h:vF r.hd r.cs){c:Nat}(hc:(c<48/\c≠32)\/(57<c/\c<97)):c∉r.tx:=λz=>by
 rcases lv z with z|⟨p,hp,z⟩
 .simp at z;lia
 .exact h.no (hc.imp (·.1) id) p hp z
def IQ{rs:List Rw}(h:∀r∈rs,vF r.hd r.cs){c:Nat}(hc:(c<48/\c≠32/\c≠44)\/(57<c/\c<97)):c∉FL rs:=λz=>by
 rcases lv z with z|⟨p,hp,z⟩
 .simp at z;lia
 .obtain⟨r,hr,rfl⟩:=eR.mp hp;exact EZ (h r hr) (hc.imp (λz=>⟨z.1,z.2.1⟩) id) z
def E1{rs:List Rw}(h:∀r∈rs,vF r.hd r.cs)(hl:rs.length<=300):(FL rs).length<=11400:=by
 have:=qR [44,32] (n:=36) (rs.map Rw.tx) λp hp=>by obtain⟨r,hr,rfl⟩:=eR.mp hp;exact(h r hr).FD
 rw[cc]at this;simp only[i8,mW]at this;unfold FL;have h2:rs.length*(36+(0+1+1))<=300*(36+(0+1+1)):=nR _ hl;lia
def E2{q:Pq}(h:HF q):(vA q).length<=11500:=by
 have h1:=E1 h.rw h.le;have h2:=h.nm.1.2;have:(vA q).length=q.1.cps.toList.length+2+(FL q.2).length:=by unfold vA;rw[ff _ _ (by simp)];simp[jn];lia
 lia
def OX{q:Pq}(h:HF q):59∉vA q:=λz=>by
 rcases lv z with z|⟨p,hp,z⟩
 .simp at z
 .simp only[cJ,iy,pK]at hp;rcases hp with rfl|rfl
  .exact AB (EV h.nm) (.inr (by decide)) z
  .exact IQ h.rw (.inr (by decide)) z
def qD(q:Pq):D:=.tup [.str q.1,.lst (q.2.map λr=>.tup r.d)]
def Hs{q:Pq}(h:HF q):bq [.str (T (vA q))]=.ok (.val (qD q) true []):=by
 have h1:=E1 h.rw h.le;have h2:=E2 h;have hle:=h.le;have hne:=h.ne;have s1:∀(f:Bool)(al:List Nat),cP (T (vA q)) (.val (.str ": ") f al)=.ok (.new [.str (T q.1.cps.toList),.str (T (FL q.2))] true):=λf al=>
  pC (c:=58) (st:=[32]) (ps:=[q.1.cps.toList,FL q.2]) Lz (by simp) (λp hp=>by
   simp only[cJ,iy,pK]at hp;rcases hp with rfl|rfl
   .exact AB (EV h.nm) (.inr (by decide))
   .exact IQ h.rw (.inr (by decide))) (by show(vA q).length<=100000;lia) (by show 2<=100000;decide) (by decide) (by decide)
 have s2:∀(f:Bool)(al:List Nat),cP (T (FL q.2)) (.val (.str ", ") f al)=.ok (.new ((q.2.map Rw.tx).map λp=>D.str (T p)) true):=λf al=>pC (c:=44) (st:=[32]) (ps:=q.2.map Rw.tx) LA (by intro z;have:(q.2.map Rw.tx).length=0:=(by rw[z];rfl);rw[cc]at this;lia) (λp hp=>by obtain⟨r,hr,rfl⟩:=eR.mp hp;exact EZ (h.rw r hr) (.inl (by decide))) (by show(FL q.2).length<=100000;lia) (by rw[cc];lia) (by decide) (by decide);have e0:T q.1.cps.toList=q.1:=(mM _).symm;have nm:=ua h.nm;rw[e0]at s1 nm;have a0:∀y,bI [D.str q.1,y] 0=some (.str q.1):=λy=>uW _ _;have a1:∀y,bI [D.str q.1,y] 1=some y:=λy=>OJ _ _ _;have hcm:=bX (mk:=λd=>gN 0 d true (c_ [some (.val (.str (T (vA q))) false),some (.own [.str q.1,.str (T (FL q.2))] true)] 1 [])) (test:=λ_=>.ok true) (elt:=bR) (λr:Rw=>D.str (T r.tx)) (λr=>.val (.tup r.d) true []) q.2
  λr hr=>⟨[some (.val (.str (T r.tx)) true)],rfl,rfl,by have fl:=(mO r).aL;simp_arith[bR,BU (h.rw r hr),fl]⟩
 have fl:D.aL (q.2.map λr=>D.tup r.d)=true:=fA λd hd=>by obtain⟨r,_,rfl⟩:=eR.mp hd;exact(mO r).aL
 simp_arith[bq,ci,pG,cv,bY,s1,iI,aY,a0,nm];rw[s2,iA];simp_arith;rw[show List.map ((λp=>D.str (T p)) ∘ Rw.tx) q.2=q.2.map (λr=>D.str (T r.tx))from rfl,uf (by rw[cc];lia) hcm,fC (λr:Rw=>D.tup r.d),bO fl];simp_arith[qD]
def E3{α:Type}(g:α->D)(xs:List α):bF (xs.map λa=>.sy (g a))=true:=by
 induction xs with
 |nil=>rfl
 |cons a r ih=>rw[c7,vv,ih];rfl
def LL{α:Type}(g:α->D)(xs:List α):(xs.map λa=>R.sy (g a)).map R.d=xs.map g:=by rw[iA];rfl
def uj(sv ov:Int):List kX:=[cN "S" sv,cN "S" ov]
def E4{sv ov:Int}(h1:1<=sv)(h2:sv<=4)(h3:1<=ov)(h4:ov<=4):vF "values" (uj sv ov):=by
 refine⟨by decide,by decide,by show 2<=3;decide,λc hc=>?_⟩;unfold uj at hc;simp only[cJ,iy,pK]at hc;rcases hc with rfl|rfl
 .exact Ry h1 h2
 .exact Ry h3 h4
def w6(sv ov:Int)(qs:List Pq):List Nat:=jn [59,32] (mQ "values" (uj sv ov)::qs.map vA)
def cK(sv ov:Int)(qs:List Pq):D:=.tup [.int sv,.int ov,.lst (qs.map qD)]
def wJ(q:Pq):(qD q).flat=false:=by unfold qD;simp only[kg,a_,mx,my,pP,lW]
def bB(sv ov:Int)(qs:List Pq):(cK sv ov qs).flat=false:=by unfold cK;simp only[kg,a_,tP,my,pP,lW]
structure zL(sv ov:Int) (qs:List Pq):Prop where
 s1:1<=sv
 s2:sv<=4
 o1:1<=ov
 o2:ov<=4
 n0:0<qs.length
 n4:qs.length<=4
 qw:∀q∈qs,HF q
section
variable{sv ov:Int}{qs:List Pq}
def zL.len(h:zL sv ov qs):(w6 sv ov qs).length<=100000:=by
 have hv:=(E4 h.s1 h.s2 h.o1 h.o2).FD;have h4:=h.n4;have:=qR [59,32] (n:=11500) (mQ "values" (uj sv ov)::qs.map vA) λp hp=>by
  rcases cJ.mp hp with rfl|hp
  .lia
  .obtain⟨q,hq,rfl⟩:=eR.mp hp;exact E2 (h.qw q hq)
 simp only[i8,mW,cc]at this;have h2:(qs.length+1)*(11500+(0+1+1))<=5*(11500+(0+1+1)):=nR _ (by lia);unfold w6;lia
def nh(h:zL sv ov qs):cB [.str (T (w6 sv ov qs))]=.ok (.val (cK sv ov qs) true []):=by
 have hv:=E4 h.s1 h.s2 h.o1 h.o2;have h4:=h.n4;have h0:=h.n0;have cj:=h.len;have s1:∀(f:Bool)(al:List Nat),cP (T (w6 sv ov qs)) (.val (.str "; ") f al)=.ok (.new ((mQ "values" (uj sv ov)::qs.map vA).map λp=>D.str (T p)) true):=λf al=>
  pC (c:=59) (st:=[32]) (ps:=mQ "values" (uj sv ov)::qs.map vA) LB (by simp) (λp hp=>by
   rcases cJ.mp hp with rfl|hp
   .intro z;rcases lv z with z|⟨p,hp,z⟩
    .simp at z
    .exact hv.no (.inr (by decide)) p hp z
   .obtain⟨q,hq,rfl⟩:=eR.mp hp;exact OX (h.qw q hq)) cj (by simp;lia) (by decide) (by decide)
 rw[c7,iA]at s1;have e1:=IK hv (forms:=[("values",[.str "S",.str "S"])]) (λp hp=>by rw[nP.mp hp];exact⟨rfl,λ_=>rfl⟩) (by simp);have e1:bj [.str (T (mQ "values" (uj sv ov))),.tup [.tup [.str "values",.str "S",.str "S"]]]=.ok (.val (.tup (wA "values" (uj sv ov))) true []):=e1;have e2:=IL hv;have e2:cx [.str (T (mQ "values" (uj sv ov))),.tup (wA "values" (uj sv ov))]=.ok (.val (.tup [.str "values",.int sv,.int ov]) true []):=e2;have hcm:=λ(x y:Option Sl)=>bX (mk:=λd=>gN 0 d true (c_ [x,some (.own (D.str (T (mQ "values" (uj sv ov)))::qs.map λq=>D.str (T (vA q))) true),y] 1 [])) (test:=λ_=>.ok true) (elt:=dh) (λq:Pq=>D.str (T (vA q))) (λq=>.sy (qD q)) qs
  λq hq=>⟨[some (.val (.str (T (vA q))) true)],rfl,rfl,by simp_arith[dh,Hs (h.qw q hq),wJ]⟩
 have s1:∀(f:Bool)(al:List Nat),cP (T (w6 sv ov qs)) (.val (.str "; ") f al)=.ok (.new (D.str (T (mQ "values" (uj sv ov)))::qs.map λq=>D.str (T (vA q))) true):=s1;have a0:∀(d:D)(ds:List D),bI (d::ds) 0=some d:=uW;have c1:=uV (D.str (T (mQ "values" (uj sv ov)))) (qs.map λq=>D.str (T (vA q)));have f2:D.aL (qs.map λq=>D.str (T (vA q)))=true:=aX _ _ λ_=>rfl;have hl1:((((qs.map λq=>D.str (T (vA q))).length+1:Nat):Int)==1)=false:=by rw[cc];simp;lia
 have i1:bI [D.str "values",D.int sv,D.int ov] 1=some (.int sv):=rfl;have i2:bI [D.str "values",D.int sv,D.int ov] 2=some (.int ov):=rfl;simp_arith[cB,gH,pG,qM,cv,bY,s1,a0,e1,pD,e2,jN,bu,aY,hl1,i1,i2,c1,f2];rw[uf (by rw[cc];lia) (hcm _ _),LL qD,E3,List.filter_nil,lT,sh];simp_arith[cK]
end
def yB(l:List Str):D.iS (l.map D.str)<=50:=jQ (x_ (n:=0) λ_=>dJ 0) (lU _)
def BV(l:List Str):D.aL (l.map D.str)=true:=aX _ _ λ_=>rfl
def yC(neg:Bool)(x:Str)(l:List Str):qB neg (.str x) (.lst (l.map D.str))=.ok (.val (.bl (if neg then !decide (x∈l)else decide (x∈l))) true []):=by
 show B6 neg (.str x) (l.map D.str)=_;unfold B6;rw[dL ⟨yB l,lU _⟩];have e:(l.map D.str).any (λe=>dq e (.str x))=decide (x∈l):=by
  rw[Tu,rJ,Tt,cI];constructor
  .rintro⟨y,hy,h⟩;have:y=x:=by simpa[dq]using h
   exact this▸hy
  .intro h;exact⟨x,h,by simp[dq]⟩
 rw[e]
def di(x:Str)(l:List Str):qB true (.str x) (.lst (l.map D.str))=.ok (.val (.bl (!decide (x∈l))) true []):=yC true x l
def oq{n:Nat}{k:Int}(h0:0<=k)(h:k<n):pZ n k=some k.toNat:=by unfold pZ;rw[dL h0,dL h]
def lw{t:En->Res Bool}{a bd:En->Res Fl}{env:En}(h:t env=.ok false):aI (fj t a bw) bd env=bd env:=by rw[xX,zl,h];rfl
def kD{s bd:En->Res Fl}{env bn:En}(h:s env=.ok (.nx bn)):aI s bd env=bd bn:=by rw[xX,h];rfl
section
variable{sv ov:Int}{qs:List Pq}{names:List Str}
def Q0(w:Bool):jp [("shared",0),("own",1)] (wd w)=some (if w then 1 else 0):=by cases w<;>decide
def OY(w:Bool):bI [D.int sv,D.int ov,D.lst (qs.map qD)] (if w then 1 else 0)=some (.int (vl sv ov w)):=by cases w<;>rfl
def wK{t:En->Res Bool}{a bd:En->Res Fl}{env:En}{c:Str}(h:t env=.ok true)(ha:a env=.exc c):aI (fj t a bw) bd env=.exc c:=by rw[xX,zl,h];show(Res.bind (a env) _)=_;rw[ha];rfl
def AI{t:En->Res Bool}{a bd:En->Res Fl}{env:En}{r:R}(h:t env=.ok true)(ha:a env=.ok (.rt r)):aI (fj t a bw) bd env=.ok (.rt r):=by rw[xX,zl,h];show(Res.bind (a env) _)=_;rw[ha];rfl
noncomputable def cls:Nat->Str
 |1=>"NoName"
 |2=>"NoValue"
 |4=>"Twice"
 |_=>"NoRow"
noncomputable def E5:Nat->Str
 |0=>"none"
 |1=>"name"
 |2=>"value"
 |4=>"twice"
 |_=>"row"
noncomputable def nI(t1 t2 t3 t4:Bool):Nat:=if t1 then 1 else if t2 then 2 else if t3 then 3 else if t4 then 3 else 0
def LM(n:Nat):Res R:=if n=0 then .ok (.val .gP true [])else .exc (cls n)
def cD{rs:List Rw}{i:Int}{ds:List D}{hd:Str}{b1 b2 b3 b4 last t1 t2 t3:Bool}(ea:bI (rs.map λr=>D.tup r.d) i=some (.tup ds))(fl:D.aL ds=true)(a0:bI ds 0=some (.str hd))(hlast:(i==(rs.length:Int)-1)=last)
 (q1:dq (.str hd) (.str "call")=b1) (c1:(b1=false/\t1=false)\/(b1=true/\∃f,bI ds 1=some (.str f)/\(!decide (f∈names))=t1))
 (q2:qB false (.str hd) (.tup [.str "set",.str "if"])=.ok (.val (.bl b2) true [])) (c2:(b2=false/\t2=false)\/(b2=true/\∃w n,bI ds 1=some (.str (wd w))/\bI ds 2=some (.int n)/\decide (vl sv ov w<=n)=t2))
 (q3:qB false (.str hd) (.tup [.str "if",.str "go",.str "fork"])=.ok (.val (.bl b3) true [])) (c3:(b3=false/\t3=false)\/(b3=true/\∃k,bI ds (-1)=some (.int k)/\decide ((rs.length:Int)<=k)=t3))
 (q4:qB true (.str hd) (.tup [.str "go",.str "back",.str "stop"])=.ok (.val (.bl b4) true [])) :
 dY [cK sv ov qs,.lst (names.map D.str),.lst (rs.map λr=>.tup r.d),.int i]=LM (nI t1 t2 t3 (last&&b4)):=by
 have hln:(((rs.map λr=>D.tup r.d).length:Nat):Int)=rs.length:=by simp
 have s0:bN 4 (aR 2 (ak 3)) [some (.val (cK sv ov qs) false),some (.val (.lst (names.map D.str)) false),some (.val (.lst (rs.map λr=>.tup r.d)) false),some (.val (.int i) false),none]=.ok (.nx [some (.val (cK sv ov qs) false),some (.val (.lst (names.map D.str)) false),some (.val (.lst (rs.map λr=>.tup r.d)) false),some (.val (.int i) false),some (.val (.tup ds) true)]):=by simp_arith[ea,fl]
 generalize hE:([some (.val (cK sv ov qs) false),some (.val (.lst (names.map D.str)) false),some (.val (.lst (rs.map λr=>.tup r.d)) false),some (.val (.int i) false),some (.val (.tup ds) true)]:En)=E at s0;have T1:h_ (vB (v2 ga (aR 4 (vC (.int 0))) (vC (.str "call")))) (vB (v2 gV (aR 4 (vC (.int 1))) (ak 1))) E=.ok t1:=by
  subst hE;rcases c1 with⟨rfl,rfl⟩|⟨rfl,f,hf,hm⟩
  .simp_arith[fl,a0,bu,q1]
  .simp_arith[fl,a0,bu,q1,hf,wa,di,hm]
 have T2:h_ (vB (v2 tu (aR 4 (vC (.int 0))) (gg (ac (vC (.str "set")) (ac (vC (.str "if")) au))))) (vB (v2 Bi (aR 4 (vC (.int 2))) (aR 0 (GC [("shared",0),("own",1)] (aR 4 (vC (.int 1))))))) E=.ok t2:=by
  subst hE;rcases c2 with⟨rfl,rfl⟩|⟨rfl,w,n,h1,h2,h3⟩
  .simp_arith[fl,a0,q2]
  .simp_arith[fl,a0,q2,h1,h2,Ej (Q0 w),cK,OY,h3]
 have T3:h_ (vB (v2 tu (aR 4 (vC (.int 0))) (gg (ac (vC (.str "if")) (ac (vC (.str "go")) (ac (vC (.str "fork")) au)))))) (vB (v2 Bi (aR 4 (xJ (vC (.int 1)))) (gy cr (ac (ak 2) au)))) E=.ok t3:=by
  subst hE;rcases c3 with⟨rfl,rfl⟩|⟨rfl,k,h1,h2⟩
  .simp_arith[fl,a0,q3]
  .simp_arith[fl,a0,q3,h1,hln,h2]
 have T4:h_ (vB (v2 ga (ak 3) (v2 sU (gy cr (ac (ak 2) au)) (vC (.int 1))))) (vB (v2 gV (aR 4 (vC (.int 0))) (gg (ac (vC (.str "go")) (ac (vC (.str "back")) (ac (vC (.str "stop")) au)))))) E=.ok (last&&b4):=by
  subst hE;cases last with
  |false=>simp_arith[fl,aY,hln,hlast,bu]
  |true=>simp_arith[fl,aY,hln,hlast,bu,a0,q4]
 have X:∀(c:Str)(m:Str),gb c (ac (vC (.str m)) au) E=.exc c:=λc m=>by simp_arith
 show sZ (gC [some (.val (cK sv ov qs) false),some (.val (.lst (names.map D.str)) false),some (.val (.lst (rs.map λr=>.tup r.d)) false),some (.val (.int i) false),none])=_;unfold gC;rw[kD s0];cases t1 with
 |true=>rw[wK T1 (X _ _)];rfl
 |false=>
  rw[lw T1];cases t2 with
  |true=>rw[wK T2 (X _ _)];rfl
  |false=>
   rw[lw T2];cases t3 with
   |true=>rw[wK T3 (X _ _)];rfl
   |false=>
    rw[lw T3,zl,T4];cases last&&b4
    .rfl
    .have hx:=X "NoRow" "behind the last row there is none to go on with";rw[jK,show Mw (gb "NoRow" (ac (vC (.str "behind the last row there is none to go on with")) au)) bw E true=gb "NoRow" (ac (vC (.str "behind the last row there is none to go on with")) au) E from rfl,hx];rfl
def LN(names:List Str)(sv ov many:Int)(last:Bool):Rw->Nat
 |.skip=>nI false false false last
 |.back=>0
 |.stop=>0
 |.any _=>nI false false false last
 |.turn _=>nI false false false last
 |.set w n=>nI false (decide (vl sv ov w<=n)) false last
 |.iff w n k=>nI false (decide (vl sv ov w<=n)) (decide (many<=k)) last
 |.go k=>nI false false (decide (many<=k)) false
 |.fork k=>nI false false (decide (many<=k)) last
 |.call f=>nI (!decide (f∈names)) false false last
def E6{rs:List Rw}{i:Nat}{r:Rw}(e:rs[i]?=some r) :
 dY [cK sv ov qs,.lst (names.map D.str),.lst (rs.map λr=>.tup r.d),.int (i:Nat)]=LM (LN names sv ov rs.length (decide (i+1=rs.length)) r):=by
 have hi:=(c5.mp e).1;have fl:=(mO r).aL;have ea:bI (rs.map λr=>D.tup r.d) (i:Int)=some (.tup r.d):=by unfold bI;rw[oq (by lia) (by rw[cc];lia)];simp[e]
 have hlast:((i:Int)==(rs.length:Int)-1)=decide (i+1=rs.length):=by
  by_cases q:i+1=rs.length
  .rw[dM q];simp;lia
  .rw[fZ q];simp;lia
 generalize decide (i+1=rs.length)=last at *;have no:false=false/\false=false:=⟨rfl,rfl⟩;have at':(last&&true)=last:=Bool.and_true _;have af:(last&&false)=false:=So _;cases r with
 |skip=>refine(cD (b4:=true) ea fl rfl hlast rfl (.inl no) rfl (.inl no) rfl (.inl no) rfl).trans ?_;rw[at'];rfl
 |back=>refine(cD (b4:=false) ea fl rfl hlast rfl (.inl no) rfl (.inl no) rfl (.inl no) rfl).trans ?_;rw[af];rfl
 |stop=>refine(cD (b4:=false) ea fl rfl hlast rfl (.inl no) rfl (.inl no) rfl (.inl no) rfl).trans ?_;rw[af];rfl
 |any w=>refine(cD (b4:=true) ea fl rfl hlast rfl (.inl no) rfl (.inl no) rfl (.inl no) rfl).trans ?_;rw[at'];rfl
 |turn w=>refine(cD (b4:=true) ea fl rfl hlast rfl (.inl no) rfl (.inl no) rfl (.inl no) rfl).trans ?_;rw[at'];rfl
 |set w n=>refine(cD (b4:=true) ea fl rfl hlast rfl (.inl no) rfl (.inr ⟨rfl,w,n,rfl,rfl,rfl⟩) rfl (.inl no) rfl).trans ?_;rw[at'];rfl
 |iff w n k=>refine(cD (b4:=true) ea fl rfl hlast rfl (.inl no) rfl (.inr ⟨rfl,w,n,rfl,rfl,rfl⟩) rfl (.inr ⟨rfl,k,rfl,rfl⟩) rfl).trans ?_;rw[at'];rfl
 |go k=>refine(cD (b4:=false) ea fl rfl hlast rfl (.inl no) rfl (.inl no) rfl (.inr ⟨rfl,k,rfl,rfl⟩) rfl).trans ?_;rw[af];rfl
 |fork k=>refine(cD (b4:=true) ea fl rfl hlast rfl (.inl no) rfl (.inl no) rfl (.inr ⟨rfl,k,rfl,rfl⟩) rfl).trans ?_;rw[at'];rfl
 |call f=>refine(cD (b4:=true) ea fl rfl hlast rfl (.inr ⟨rfl,f,rfl,rfl⟩) rfl (.inl no) rfl (.inl no) rfl).trans ?_;rw[at'];rfl
def E7{fa:En->Res R}{env:En}{ds:List D}:Ei fa env (.lst ds)=(fa env).bind (xS ds):=rfl
def IR(w:Bool){f:Bool}{al:List Nat}:xS [.str "shared",.str "own"] (.val (.str (wd w)) f al)=.ok (.val (.int (if w then 1 else 0)) true []):=by cases w<;>rfl
def E8(w:Bool):bI [D.int sv,D.int ov] (if w then 1 else 0)=some (.int (vl sv ov w)):=by cases w<;>rfl
def eO{rs:List Rw}{i:Int}{ds:List D}{hd:Str}{b1 bs bi bg bf bb bt last t1 t2 t3:Bool}(ea:bI (rs.map λr=>D.tup r.d) i=some (.tup ds))(fl:D.aL ds=true)(a0:bI ds 0=some (.str hd))(hlast:(i==(rs.length:Int)-1)=last)
 (q1:dq (.str hd) (.str "call")=b1) (c1:(b1=false/\t1=false)\/(b1=true/\∃f,bI ds 1=some (.str f)/\(!decide (f∈names))=t1))
 (qs':dq (.str hd) (.str "set")=bs) (qi:dq (.str hd) (.str "if")=bi) (c2:((bs || bi)=false/\t2=false)\/((bs || bi)=true/\∃w n,bI ds 1=some (.str (wd w))/\bI ds 2=some (.int n)/\decide (vl sv ov w<=n)=t2))
 (qg:dq (.str hd) (.str "go")=bg) (qf:dq (.str hd) (.str "fork")=bf) (c3:((bg ||(bf || bi))=false/\t3=false)\/((bg ||(bf || bi))=true/\∃k,bI ds (-1)=some (.int k)/\decide ((rs.length:Int)<=k)=t3))
 (qb:dq (.str hd) (.str "back")=bb) (qt:dq (.str hd) (.str "stop")=bt) :
 gp [cK sv ov qs,.lst (names.map D.str),.lst (rs.map λr=>.tup r.d),.int i]=.ok (.val (.str (E5 (nI t1 t2 t3 (last&&(!bg&&(!bb&&!bt)))))) true []):=by
 have hln:(((rs.map λr=>D.tup r.d).length:Nat):Int)=rs.length:=by simp
 have i0:bI [D.int sv,D.int ov,D.lst (qs.map qD)] 0=some (.int sv):=rfl;have i1:bI [D.int sv,D.int ov,D.lst (qs.map qD)] 1=some (.int ov):=rfl;have s0:bN 4 (aR 2 (ak 3)) [some (.val (cK sv ov qs) false),some (.val (.lst (names.map D.str)) false),some (.val (.lst (rs.map λr=>.tup r.d)) false),some (.val (.int i) false),none]=.ok (.nx [some (.val (cK sv ov qs) false),some (.val (.lst (names.map D.str)) false),some (.val (.lst (rs.map λr=>.tup r.d)) false),some (.val (.int i) false),some (.val (.tup ds) true)]):=by simp_arith[ea,fl]
 generalize hE:([some (.val (cK sv ov qs) false),some (.val (.lst (names.map D.str)) false),some (.val (.lst (rs.map λr=>.tup r.d)) false),some (.val (.int i) false),some (.val (.tup ds) true)]:En)=E at s0;have T1:h_ (vB (v2 ga (aR 4 (vC (.int 0))) (vC (.str "call")))) (vB (v2 gV (aR 4 (vC (.int 1))) (ak 1))) E=.ok t1:=by
  subst hE;rcases c1 with⟨rfl,rfl⟩|⟨rfl,f,hf,hm⟩
  .simp_arith[fl,a0,bu,q1]
  .simp_arith[fl,a0,bu,q1,hf,wa,di,hm]
 have T2:∀bd,aI (fj (rZ (vB (v2 ga (aR 4 (vC (.int 0))) (vC (.str "set")))) (vB (v2 ga (aR 4 (vC (.int 0))) (vC (.str "if"))))) (fj (vB (v2 Bi (aR 4 (vC (.int 2))) (v2 l7 (dt (ac (aR 0 (vC (.int 0))) (ac (aR 0 (vC (.int 1))) au))) (GA (dt (ac (vC (.str "shared")) (ac (vC (.str "own")) au))) (aR 4 (vC (.int 1))))))) (br (vC (.str "value"))) bw) bw) bd E=if t2 then .ok (.rt (.val (.str "value") true []))else bd E:=λbd=>by
  subst hE;rcases c2 with⟨hb,rfl⟩|⟨hb,w,n,h1,h2,h3⟩
  .rw[uz]at hb;simp_arith[fl,a0,bu,qs',qi,hb.1,hb.2,mU,Sj]
  .cases bs with
   |true=>cases t2<;>simp_arith[fl,a0,bu,qs',h1,h2,cK,i0,i1,Eh,wc,E7,IR,E8,h3,sh,mU,Sj,Sd]
   |false=>have hi:bi=true:=hb;cases t2<;>simp_arith[fl,a0,bu,qs',qi,hi,h1,h2,cK,i0,i1,Eh,wc,E7,IR,E8,h3,sh,mU,Sj,Sd]
 have T3:∀bd,aI (fj (rZ (vB (v2 ga (aR 4 (vC (.int 0))) (vC (.str "go")))) (rZ (vB (v2 ga (aR 4 (vC (.int 0))) (vC (.str "fork")))) (vB (v2 ga (aR 4 (vC (.int 0))) (vC (.str "if")))))) (fj (vB (v2 Bi (aR 4 (xJ (vC (.int 1)))) (gy cr (ac (ak 2) au)))) (br (vC (.str "row"))) bw) bw) bd E=if t3 then .ok (.rt (.val (.str "row") true []))else bd E:=λbd=>by
  subst hE;rcases c3 with⟨hb,rfl⟩|⟨hb,k,h1,h2⟩
  .rw[uz,uz]at hb;simp_arith[fl,a0,bu,qg,qf,qi,hb.1,hb.2.1,hb.2.2,mU,Sj]
  .cases bg with
   |true=>cases t3<;>simp_arith[fl,a0,bu,qg,h1,hln,h2,mU,Sj,Sd]
   |false=>
    cases bf with
    |true=>cases t3<;>simp_arith[fl,a0,bu,qg,qf,h1,hln,h2,mU,Sj,Sd]
    |false=>have hi:bi=true:=hb;cases t3<;>simp_arith[fl,a0,bu,qg,qf,qi,hi,h1,hln,h2,mU,Sj,Sd]
 have T4:h_ (vB (v2 ga (ak 3) (v2 sU (gy cr (ac (ak 2) au)) (vC (.int 1))))) (h_ (vB (v2 rY (aR 4 (vC (.int 0))) (vC (.str "go")))) (h_ (vB (v2 rY (aR 4 (vC (.int 0))) (vC (.str "back")))) (vB (v2 rY (aR 4 (vC (.int 0))) (vC (.str "stop")))))) E=.ok (last&&(!bg&&(!bb&&!bt))):=by
  subst hE;cases last with
  |false=>simp_arith[fl,aY,hln,hlast,bu]
  |true=>
   cases bg with
   |true=>simp_arith[fl,aY,hln,hlast,bu,a0,iI,qg]
   |false=>
    cases bb with
    |true=>simp_arith[fl,aY,hln,hlast,bu,a0,iI,qg,qb]
    |false=>simp_arith[fl,aY,hln,hlast,bu,a0,iI,qg,qb,qt]
 have X:∀(m:Str),br (vC (.str m)) E=.ok (.rt (.val (.str m) true [])):=λm=>by simp_arith
 show sZ (iX [some (.val (cK sv ov qs) false),some (.val (.lst (names.map D.str)) false),some (.val (.lst (rs.map λr=>.tup r.d)) false),some (.val (.int i) false),none])=_;unfold iX;rw[kD s0];cases t1 with
 |true=>rw[AI T1 (X _)];rfl
 |false=>
  rw[lw T1,T2];cases t2 with
  |true=>rfl
  |false=>
   rw[f7 (by decide),T3];cases t3 with
   |true=>rfl
   |false=>
    rw[f7 (by decide)];generalize(last&&(!bg&&(!bb&&!bt)))=t4 at *;cases t4 with
    |true=>rw[AI T4 (X _)];rfl
    |false=>rw[lw T4,X];rfl
def LO{rs:List Rw}{i:Nat}{r:Rw}(e:rs[i]?=some r) :
 gp [cK sv ov qs,.lst (names.map D.str),.lst (rs.map λr=>.tup r.d),.int (i:Nat)]=.ok (.val (.str (E5 (LN names sv ov rs.length (decide (i+1=rs.length)) r))) true []):=by
 have hi:=(c5.mp e).1;have fl:=(mO r).aL;have ea:bI (rs.map λr=>D.tup r.d) (i:Int)=some (.tup r.d):=by unfold bI;rw[oq (by lia) (by rw[cc];lia)];simp[e]
 have hlast:((i:Int)==(rs.length:Int)-1)=decide (i+1=rs.length):=by
  by_cases q:i+1=rs.length
  .rw[dM q];simp;lia
  .rw[fZ q];simp;lia
 generalize decide (i+1=rs.length)=last at *;have no:false=false/\false=false:=⟨rfl,rfl⟩;have at':(last&&(!false&&(!false&&!false)))=last:=Bool.and_true _;have af:(last&&false)=false:=So _;cases r with
 |skip=>refine(eO ea fl rfl hlast rfl (.inl no) rfl rfl (.inl no) rfl rfl (.inl no) rfl rfl).trans ?_;cases last<;>rfl
 |back=>refine(eO ea fl rfl hlast rfl (.inl no) rfl rfl (.inl no) rfl rfl (.inl no) rfl rfl).trans ?_;cases last<;>rfl
 |stop=>refine(eO ea fl rfl hlast rfl (.inl no) rfl rfl (.inl no) rfl rfl (.inl no) rfl rfl).trans ?_;cases last<;>rfl
 |any w=>refine(eO ea fl rfl hlast rfl (.inl no) rfl rfl (.inl no) rfl rfl (.inl no) rfl rfl).trans ?_;cases last<;>rfl
 |turn w=>refine(eO ea fl rfl hlast rfl (.inl no) rfl rfl (.inl no) rfl rfl (.inl no) rfl rfl).trans ?_;cases last<;>rfl
 |set w n=>refine(eO ea fl rfl hlast rfl (.inl no) rfl rfl (.inr ⟨rfl,w,n,rfl,rfl,rfl⟩) rfl rfl (.inl no) rfl rfl).trans ?_;cases last<;>rfl
 |iff w n k=>refine(eO ea fl rfl hlast rfl (.inl no) rfl rfl (.inr ⟨rfl,w,n,rfl,rfl,rfl⟩) rfl rfl (.inr ⟨rfl,k,rfl,rfl⟩) rfl rfl).trans ?_;cases last<;>rfl
 |go k=>refine(eO ea fl rfl hlast rfl (.inl no) rfl rfl (.inl no) rfl rfl (.inr ⟨rfl,k,rfl,rfl⟩) rfl rfl).trans ?_;cases last<;>rfl
 |fork k=>refine(eO ea fl rfl hlast rfl (.inl no) rfl rfl (.inl no) rfl rfl (.inr ⟨rfl,k,rfl,rfl⟩) rfl rfl).trans ?_;cases last<;>rfl
 |call f=>refine(eO ea fl rfl hlast rfl (.inr ⟨rfl,f,rfl,rfl⟩) rfl rfl (.inl no) rfl rfl (.inl no) rfl rfl).trans ?_;cases last<;>rfl
end
noncomputable def mR:List Nat->Nat
 |[]=>0
 |c::r=>if c=0 then mR r else c
theorem jj{α:Type}(g:α->D){asg:D->Bool->En->Option En}{fr:Bool}{body:En->Res Fl}(P:En->Prop)(code:α->Nat)(out:Nat->Res Fl)(ho:∀c,(∃s,out c=.exc s)\/(∃r,out c=.ok (.rt r))):∀(xs:List α)(env:En),P env->
 (∀a∈xs,∀env,P env->∃ip,asg (g a) fr env=some ip/\((code a=0/\∃env2,body ip=.ok (.nx env2)/\P env2)\/(code a≠0/\body ip=out (code a))))->
 (mR (xs.map code)=0->∃bn,de asg fr body (xs.map g) env=.ok (.nx bn)/\P bn)/\(mR (xs.map code)≠0->de asg fr body (xs.map g) env=out (mR (xs.map code)))
 |[],env,h,_=>⟨λ_=>⟨env,rfl,h⟩,λe=>(e rfl).elim⟩
 |a::r,env,h,st=>by
  obtain⟨ip,h1,h2⟩:=st a (by simp) env h;rw[c7,c7];have un:∀z,de asg fr body (g a::r.map g) env=z↔((body ip).bind λr'=>match r' with
   |.nx bn=>de asg fr body (r.map g) bn
   |.ct bn=>de asg fr body (r.map g) bn
   |.bk bn=>.ok (.nx bn)
   |.rt r=>.ok (.rt r)
   |.rm r e=>.ok (.rm r e))=z:=λz=>by
   conv=>lhs;lhs;unfold de
   rw[h1]<;>rfl
  rcases h2 with⟨hp,env2,hb,h3⟩|⟨hp,hb⟩
  .rw[show mR (code a::r.map code)=mR (r.map code)from dL hp];obtain⟨i1,i2⟩:=jj g P code out ho r env2 h3 λb hb=>st b (by simp[hb]);refine⟨λe=>?_,λe=>?_⟩
   .obtain⟨bn,e1,e2⟩:=i1 e;exact⟨bn,(un _).mpr (by rw[hb];exact e1),e2⟩
   .exact(un _).mpr (by rw[hb];exact i2 e)
  .rw[show mR (code a::r.map code)=code a from f7 hp];refine⟨λe=>(hp e).elim,λ_=>(un _).mpr ?_⟩;rw[hb];rcases ho (code a)with⟨s,e⟩|⟨s,e⟩<;>rw[e]<;>rfl
theorem IS:∀(xs a:List Str),(xs.foldl yJ a).length<=a.length+xs.length
 |[],a=>dJ _
 |x::xs,a=>by rw[SA];have:=IS xs (yJ a x);rw[rX]at this;rw[i8];split at this<;>lia
theorem IT:∀(xs a:List Str),a.Nodup->¬(a++xs).Nodup->(xs.foldl yJ a).length<a.length+xs.length
 |[],a,h,n=>by rw[lT]at n;exact(n h).elim
 |x::xs,a,h,n=>by
  rw[SA,i8];by_cases hx:x∈a
  .have:=IS xs (yJ a x);rw[rX,dL (by simpa using hx)]at this;lia
  .have e:yJ a x=a++[x]:=by unfold yJ;rw[f7 (by simpa using hx)]
   rw[e];have:=IT xs (a++[x]) (by rw[List.nodup_append];refine⟨h,by simp,λy hy z hz=>?_⟩;rw[nP.mp hz];intro q;subst q;exact hx hy) (by simpa using n);rw[kK]at this;simp at this;lia
theorem E9:∀(xs a:List Str),(a++xs).Nodup->xs.foldl yJ a=a++xs
 |[],a,_=>by simp
 |x::xs,a,h=>by
  have hx:a.contains x=false:=by
   cases q:a.contains x with
   |false=>rfl
   |true=>
    have hm:x∈a:=by simpa using q
    have:=List.nodup_append.mp h;exact(this.2.2 x hm x (by simp) rfl).elim
  rw[SA];have e:yJ a x=a++[x]:=by unfold yJ;rw[hx];rfl
  rw[e,E9 xs (a++[x]) (by simpa using h)];simp
def Q1(xs:List Str):decide ((((nV xs).length:Nat):Int)<((xs.length:Nat):Int))=!decide xs.Nodup:=by
 by_cases h:xs.Nodup
 .have e:nV xs=xs:=by have:=E9 xs [] (by simpa using h);simpa[nV]using this
  rw[dM h,e];simp
 .rw[fZ h];have:=IT xs [] (by simp) (by simpa using h);simp at this;have:((((nV xs).length:Nat):Int)<((xs.length:Nat):Int)):=by unfold nV;lia
  rw[dM this];rfl
def pH(f:En->Res R)(env:En):v9 f env=(f env).bind sd:=(rfl)
def ni{xs:List Str}{f:Bool}{al:List Nat}(h:xs.length<=1000):sd (.val (.lst (xs.map D.str)) f al)=.ok (.val (.int ((nV xs).length:Nat)) true []):=by show(match lG (xs.map D.str)with|some xs=>if xs.length<=1000 then _ else _|none=>_)=_;rw[qy];exact dL h
def E_(f:En->Res R)(env:En):Dt f env=(f env).bind (Ds env):=(rfl)
def Hu(env:En)(r:R):Ds env r=.ok (.nx env):=(rfl)
section
variable{sv ov:Int}{qs:List Pq}
noncomputable abbrev im(qs:List Pq):List Str:=qs.map (·.1)
def LP(sv ov:Int)(qs:List Pq)(q:Pq)(i:Nat):Nat:=match q.2[i]? with
 |some r=>LN (im qs) sv ov q.2.length (decide (i+1=q.2.length)) r
 |none=>0
def Fa(sv ov:Int)(qs:List Pq)(q:Pq):Nat:=mR ((List.range q.2.length).map (LP sv ov qs q))
def Hv(sv ov:Int)(qs:List Pq):Nat:=mR (qs.map (Fa sv ov qs))
def LQ(sv ov:Int)(qs:List Pq):Nat:=if(im qs).Nodup then(if("main" : Str)∈im qs then Hv sv ov qs else 1)else 4
def MA(c:Nat):Res Fl:=.exc (cls c)
theorem Fb{t:Option Sl}{q:Pq}{x y:Option Sl}:(Fa sv ov qs q=0->∃z:Option Sl,
 de (gN 5) true kz ((List.range q.2.length).map λk=>D.int (k:Nat)) [t,some (.val (cK sv ov qs) true),some (.own ((im qs).map D.str) true),x,some (.val (.lst (q.2.map λr=>.tup r.d)) true),y]
  = .ok (.nx [t,some (.val (cK sv ov qs) true),some (.own ((im qs).map D.str) true),x,some (.val (.lst (q.2.map λr=>.tup r.d)) true),z]))/\
 (Fa sv ov qs q≠0->de (gN 5) true kz ((List.range q.2.length).map λk=>D.int (k:Nat)) [t,some (.val (cK sv ov qs) true),some (.own ((im qs).map D.str) true),x,some (.val (.lst (q.2.map λr=>.tup r.d)) true),y]=MA (Fa sv ov qs q)):=by
 obtain⟨i1,i2⟩:=jj (λk:Nat=>D.int k) (asg:=gN 5) (fr:=true) (body:=kz) (λenv=>∃z:Option Sl,env=[t,some (.val (cK sv ov qs) true),some (.own ((im qs).map D.str) true),x,some (.val (.lst (q.2.map λr=>.tup r.d)) true),z]) (LP sv ov qs q) MA (λc=>.inl ⟨_,rfl⟩) (List.range q.2.length)
  [t,some (.val (cK sv ov qs) true),some (.own ((im qs).map D.str) true),x,some (.val (.lst (q.2.map λr=>.tup r.d)) true),y] ⟨_,rfl⟩
  (by
    rintro k hk env ⟨z,rfl⟩;have hk:=kR.mp hk;have e:q.2[k]?=some q.2[k]:=by simp[hk]
    have er:=E6 (sv:=sv) (ov:=ov) (qs:=qs) (names:=im qs) (i:=k) (r:=q.2[k]) e;refine⟨[t,some (.val (cK sv ov qs) true),some (.own ((im qs).map D.str) true),x,some (.val (.lst (q.2.map λr=>.tup r.d)) true),some (.val (.int (k:Nat)) true)],rfl,?_⟩;have ec:LP sv ov qs q k=LN (im qs) sv ov q.2.length (decide (k+1=q.2.length)) q.2[k]:=by unfold LP;rw[e]
    rw[ec];generalize LN (im qs) sv ov q.2.length (decide (k+1=q.2.length)) q.2[k]=c at *;unfold LM at er;by_cases hc:c=0
    .rw[dL hc]at er;refine .inl ⟨hc,[t,some (.val (cK sv ov qs) true),some (.own ((im qs).map D.str) true),x,some (.val (.lst (q.2.map λr=>.tup r.d)) true),some (.val (.int (k:Nat)) true)],?_,_,rfl⟩;simp_arith[kz,E_,bB,er,Hu]
    .rw[f7 hc]at er;refine .inr ⟨hc,?_⟩;simp_arith[kz,E_,bB,er,MA])
 exact⟨λh=>by obtain⟨bn,lp,z,rfl⟩:=i1 h;exact⟨z,lp⟩,i2⟩
theorem Fc(h:zL sv ov qs){t:Option Sl}:(Hv sv ov qs=0->∃x y z:Option Sl,
 de (gT 2 (aJ (gN 3) (aJ (gN 4) cg))) true kA (qs.map qD) [t,some (.val (cK sv ov qs) true),some (.own ((im qs).map D.str) true),none,none,none]
  = .ok (.nx [t,some (.val (cK sv ov qs) true),some (.own ((im qs).map D.str) true),x,y,z]))/\
 (Hv sv ov qs≠0->de (gT 2 (aJ (gN 3) (aJ (gN 4) cg))) true kA (qs.map qD) [t,some (.val (cK sv ov qs) true),some (.own ((im qs).map D.str) true),none,none,none]=MA (Hv sv ov qs)):=by
 obtain⟨i1,i2⟩:=jj qD (asg:=gT 2 (aJ (gN 3) (aJ (gN 4) cg))) (fr:=true) (body:=kA) (λenv=>∃x y z:Option Sl,env=[t,some (.val (cK sv ov qs) true),some (.own ((im qs).map D.str) true),x,y,z]) (Fa sv ov qs) MA (λc=>.inl ⟨_,rfl⟩) qs
  [t,some (.val (cK sv ov qs) true),some (.own ((im qs).map D.str) true),none,none,none] ⟨_,_,_,rfl⟩
  (by
    rintro q hq env ⟨x,y,z,rfl⟩;obtain⟨l1,l2⟩:=Fb (sv:=sv) (ov:=ov) (qs:=qs) (t:=t) (q:=q) (x:=some (.val (.str q.1) true)) (y:=z);have hle:=(h.qw q hq).le;have hln:(((q.2.map λr=>D.tup r.d).length:Nat):Int)=(q.2.length:Nat):=by simp
    refine⟨[t,some (.val (cK sv ov qs) true),some (.own ((im qs).map D.str) true),some (.val (.str q.1) true),some (.val (.lst (q.2.map λr=>.tup r.d)) true),z],rfl,?_⟩;by_cases hc:Fa sv ov qs q=0
    .obtain⟨z',lp⟩:=l1 hc;refine .inl ⟨hc,[t,some (.val (cK sv ov qs) true),some (.own ((im qs).map D.str) true),some (.val (.str q.1) true),some (.val (.lst (q.2.map λr=>.tup r.d)) true),z'],?_,_,_,_,rfl⟩;simp_arith[kA,hln];rw[nB (by lia) (by lia),jK,kG,iD];simp_arith[lp]
    .have lp:=l2 hc;refine .inr ⟨hc,?_⟩;simp_arith[kA,hln];rw[nB (by lia) (by lia),jK,kG,iD];simp_arith[lp])
 exact⟨λh=>by obtain⟨bn,lp,x,y,z,rfl⟩:=i1 h;exact⟨x,y,z,lp⟩,i2⟩
def LR(h:zL sv ov qs):dH [.str (T (w6 sv ov qs))]=if LQ sv ov qs=0 then .ok (.val (cK sv ov qs) true [])else .exc (cls (LQ sv ov qs)):=by
 have h4:=h.n4;have hl:(im qs).length<=1000:=by rw[cc];lia
 obtain⟨l1,l2⟩:=Fc h (t:=some (.val (.str (T (w6 sv ov qs))) false));have a2:bI [D.int sv,D.int ov,D.lst (qs.map qD)] 2=some (.lst (qs.map qD)):=rfl;have hcm:=λ(a b c d e:Option Sl)=>bX (mk:=λd'=>gT 2 (aJ (gN 0) (aJ (gN 1) cg)) d' true (c_ [a,some (.val (cK sv ov qs) true),b,c,d,e] 2 [])) (test:=λ_=>.ok true) (elt:=tX) qD (λq=>.val (.str q.1) true []) qs
  λq hq=>⟨[some (.val (.str q.1) true),some (.val (.lst (q.2.map λr=>.tup r.d)) true)],rfl,rfl,by simp_arith[tX]⟩
 have fl:D.aL (qs.map λq=>D.str q.1)=true:=aX _ _ λ_=>rfl;have en:(qs.map λq=>D.str q.1)=(im qs).map D.str:=by rw[iA];rfl
 have hln:((((im qs).map D.str).length:Nat):Int)=((im qs).length:Nat):=by rw[cc]
 have hlt:=Q1 (im qs);have iq:oP (cK sv ov qs) (.int 2) true []=.ok (.val (.lst (qs.map qD)) true []):=by unfold cK;simp_arith[a2]
 unfold LQ;by_cases nd:(im qs).Nodup
 .rw[dL nd];rw[dM nd]at hlt;by_cases hm:("main" : Str)∈im qs
  .rw[dL hm];by_cases hc:Hv sv ov qs=0
   .rw[dL hc];obtain⟨x,y,z,lp⟩:=l1 hc;simp_arith[dH,om,nh h,bB,jN,tO,iq];rw[bZ (by rw[cc];lia) (hcm _ _ _ _ _),fC (λq:Pq=>D.str q.1),bO fl,en];simp_arith[pH,ni hl,hln,hlt,di,hm,bB,iq,lp]
   .rw[f7 hc];have lp:=l2 hc;simp_arith[dH,om,nh h,bB,jN,tO,iq];rw[bZ (by rw[cc];lia) (hcm _ _ _ _ _),fC (λq:Pq=>D.str q.1),bO fl,en];simp_arith[pH,ni hl,hln,hlt,di,hm,bB,iq,lp,MA]
  .rw[f7 hm,f7 (by decide)];simp_arith[dH,om,nh h,bB,jN,tO,iq];rw[bZ (by rw[cc];lia) (hcm _ _ _ _ _),fC (λq:Pq=>D.str q.1),bO fl,en];simp_arith[pH,ni hl,hln,hlt,di,hm,bB,iq];rfl
 .rw[f7 nd,f7 (by decide)];rw[fZ nd]at hlt;simp_arith[dH,om,nh h,bB,jN,tO,iq];rw[bZ (by rw[cc];lia) (hcm _ _ _ _ _),fC (λq:Pq=>D.str q.1),bO fl,en];simp_arith[pH,ni hl,hln,hlt];rfl
end
def LS{α:Type}(f:α->Nat)(l:List α)(h:∀a∈l,f a=0):mR (l.map f)=0:=by
 induction l with
 |nil=>rfl
 |cons a r ih=>rw[c7,show mR (f a::r.map f)=mR (r.map f)from dL (h a (by simp))];exact ih λb hb=>h b (by simp[hb])
def LU{α:Type}(f:α->Nat)(l:List α)(h:∀a∈l,f a=0\/f a=4)(h2:∃a∈l,f a=4):mR (l.map f)=4:=by
 induction l with
 |nil=>obtain⟨a,ha,_⟩:=h2;cases ha
 |cons a r ih=>
  rw[c7];rcases h a (by simp)with e|e
  .rw[show mR (f a::r.map f)=mR (r.map f)from dL e];refine ih (λb hb=>h b (by simp[hb])) ?_;obtain⟨b,hb,e2⟩:=h2;rcases cJ.mp hb with rfl|hb
   .rw[e]at e2;cases e2
   .exact⟨b,hb,e2⟩
  .rw[show mR (f a::r.map f)=f a from f7 (by lia)];exact e
def yD(l:List Str):l.Nodup↔∀i j,i<j->j<l.length->l[i]?≠l[j]?:=by
 unfold List.Nodup;rw[List.pairwise_iff_getElem];constructor
 .intro h i j hij hj e;have hi:i<l.length:=by lia
  rw[show l[i]?=some l[i] by simp[hi],show l[j]?=some l[j] by simp[hj]]at e;injection e with e;exact h i j hi hj hij e
 .intro h i j hi hj hij e;exact h i j hij hj (by rw[show l[i]?=some l[i] by simp[hi],show l[j]?=some l[j] by simp[hj],e])
noncomputable def MB(names:List Str)(p:Str×Nat):Nat:=if p.1∈names.take p.2 then 4 else 0
def Q2(names:List Str):mR ((names.zipIdx 0).map (MB names))=if names.Nodup then 0 else 4:=by
 by_cases h:names.Nodup
 .rw[dL h];refine LS _ _ λp hp=>?_;have e:=S2.mp hp;unfold MB;rw[f7];intro hm;obtain⟨j,hj⟩:=jO.mp hm;rw[List.getElem?_take]at hj;split at hj
  .rename_i hlt;have hk:p.2<names.length:=by have:=c5.mp e;exact this.1
   exact((yD names).mp h j p.2 hlt hk) (by rw[hj,e])
  .cases hj
 .rw[f7 h];refine LU _ _ (λp _=>by unfold MB;split<;>simp) ?_;rw[yD]at h;simp only[Classical.not_forall]at h;obtain⟨i,j,hij,hj,e⟩:=h;simp only[ne_eq,Classical.not_not]at e;have ej:names[j]?=some names[j]:=by simp[hj]
  refine⟨(names[j],j),S2.mpr (by simp[hj]),?_⟩;unfold MB;rw[dL];rw[ej]at e;exact jO.mpr ⟨i,by rw[List.getElem?_take,dL hij,e]⟩
def AJ(x:Str)(l:List Str):qB false (.str x) (.lst (l.map D.str))=.ok (.val (.bl (decide (x∈l))) true []):=yC false x l
section
def FM(c:Nat):Res Fl:=.ok (.rt (.val (.str (E5 c)) true []))
def Hw(names:List Str)(hn:names.length<=10){P:Option Sl}{x4 x5 x6:Option Sl}:(names.Nodup->∃y z:Option Sl,
 de (gT 2 (aJ (gN 2) (aJ (gN 3) cg))) true eJ (iH 0 (names.map D.str)) [P,some (.val (.lst (names.map D.str)) true),none,none,x4,x5,x6]
  = .ok (.nx [P,some (.val (.lst (names.map D.str)) true),y,z,x4,x5,x6]))/\
 (¬names.Nodup->de (gT 2 (aJ (gN 2) (aJ (gN 3) cg))) true eJ (iH 0 (names.map D.str)) [P,some (.val (.lst (names.map D.str)) true),none,none,x4,x5,x6]=FM 4):=by
 rw[m6];obtain⟨i1,i2⟩:=jj (λp:Str×Nat=>D.tup [.int (p.2:Nat),.str p.1]) (asg:=gT 2 (aJ (gN 2) (aJ (gN 3) cg))) (fr:=true) (body:=eJ) (λenv=>∃y z:Option Sl,env=[P,some (.val (.lst (names.map D.str)) true),y,z,x4,x5,x6]) (MB names) FM (λc=>.inr ⟨_,rfl⟩) (names.zipIdx 0)
  [P,some (.val (.lst (names.map D.str)) true),none,none,x4,x5,x6] ⟨_,_,rfl⟩
  (by
    rintro⟨n,k⟩ hp env ⟨y,z,rfl⟩;refine⟨[P,some (.val (.lst (names.map D.str)) true),some (.val (.int (k:Nat)) true),some (.val (.str n) true),x4,x5,x6],rfl,?_⟩;have cu:dN (names.map D.str) none (some ((k:Nat):Int))=(names.take k).map D.str:=by rw[qN,List.map_take]
    have fl:=BV (names.take k);unfold MB;by_cases hm:n∈names.take k
    .rw[dL hm];refine .inr ⟨by decide,?_⟩;simp_arith[eJ,cu,fl,AJ,hm,FM];rfl
    .rw[f7 hm];refine .inl ⟨rfl,[P,some (.val (.lst (names.map D.str)) true),some (.val (.int (k:Nat)) true),some (.val (.str n) true),x4,x5,x6],?_,_,_,rfl⟩;simp_arith[eJ,cu,fl,AJ,hm])
 rw[Q2]at i1 i2;refine⟨λh=>?_,λh=>?_⟩
 .rw[dL h]at i1;obtain⟨bn,lp,y,z,rfl⟩:=i1 rfl;exact⟨y,z,lp⟩
 .rw[f7 h]at i2;exact i2 (by decide)
end
def IU{c:Nat}(h:c≠0):dq (.str (E5 c)) (.str "none")=false:=by
 unfold E5;split
 .exact(h rfl).elim
 all_goals rfl
def IV:dq (.str (E5 0)) (.str "none")=true:=rfl
section
variable{sv ov:Int}{qs:List Pq}
theorem Hx{q:Pq}{x2 x3 y z:Option Sl}:(Fa sv ov qs q=0->∃a b:Option Sl,
 de (gN 5) true eL ((List.range q.2.length).map λk=>D.int (k:Nat)) [some (.val (cK sv ov qs) false),some (.val (.lst ((im qs).map D.str)) true),x2,x3,some (.val (.lst (q.2.map λr=>.tup r.d)) false),y,z]
  = .ok (.nx [some (.val (cK sv ov qs) false),some (.val (.lst ((im qs).map D.str)) true),x2,x3,some (.val (.lst (q.2.map λr=>.tup r.d)) false),a,b]))/\
 (Fa sv ov qs q≠0->de (gN 5) true eL ((List.range q.2.length).map λk=>D.int (k:Nat)) [some (.val (cK sv ov qs) false),some (.val (.lst ((im qs).map D.str)) true),x2,x3,some (.val (.lst (q.2.map λr=>.tup r.d)) false),y,z]=FM (Fa sv ov qs q)):=by
 obtain⟨i1,i2⟩:=jj (λk:Nat=>D.int k) (asg:=gN 5) (fr:=true) (body:=eL) (λenv=>∃a b:Option Sl,env=[some (.val (cK sv ov qs) false),some (.val (.lst ((im qs).map D.str)) true),x2,x3,some (.val (.lst (q.2.map λr=>.tup r.d)) false),a,b]) (LP sv ov qs q) FM (λc=>.inr ⟨_,rfl⟩) (List.range q.2.length)
  [some (.val (cK sv ov qs) false),some (.val (.lst ((im qs).map D.str)) true),x2,x3,some (.val (.lst (q.2.map λr=>.tup r.d)) false),y,z] ⟨_,_,rfl⟩
  (by
    rintro k hk env ⟨a,b,rfl⟩;have hk:=kR.mp hk;have e:q.2[k]?=some q.2[k]:=by simp[hk]
    have er:=LO (sv:=sv) (ov:=ov) (qs:=qs) (names:=im qs) (i:=k) (r:=q.2[k]) e;refine⟨[some (.val (cK sv ov qs) false),some (.val (.lst ((im qs).map D.str)) true),x2,x3,some (.val (.lst (q.2.map λr=>.tup r.d)) false),some (.val (.int (k:Nat)) true),b],rfl,?_⟩;have ec:LP sv ov qs q k=LN (im qs) sv ov q.2.length (decide (k+1=q.2.length)) q.2[k]:=by unfold LP;rw[e]
    rw[ec];generalize LN (im qs) sv ov q.2.length (decide (k+1=q.2.length)) q.2[k]=c at *;by_cases hc:c=0
    .refine .inl ⟨hc,[some (.val (cK sv ov qs) false),some (.val (.lst ((im qs).map D.str)) true),x2,x3,some (.val (.lst (q.2.map λr=>.tup r.d)) false),some (.val (.int (k:Nat)) true),some (.val (.str (E5 0)) true)],?_,_,_,rfl⟩;rw[hc]at er;simp_arith[eL,bB,er,iI,IV]
    .refine .inr ⟨hc,?_⟩;simp_arith[eL,bB,er,iI,IU hc,FM])
 exact⟨λh=>by obtain⟨bn,lp,a,b,rfl⟩:=i1 h;exact⟨a,b,lp⟩,i2⟩
theorem Hy(h:zL sv ov qs){x2 x3:Option Sl}:(Hv sv ov qs=0->∃a b c d:Option Sl,
 de (gT 2 (aJ (gN 3) (aJ (gN 4) cg))) false eM (qs.map qD) [some (.val (cK sv ov qs) false),some (.val (.lst ((im qs).map D.str)) true),x2,x3,none,none,none]
  = .ok (.nx [some (.val (cK sv ov qs) false),some (.val (.lst ((im qs).map D.str)) true),x2,a,b,c,d]))/\
 (Hv sv ov qs≠0->de (gT 2 (aJ (gN 3) (aJ (gN 4) cg))) false eM (qs.map qD) [some (.val (cK sv ov qs) false),some (.val (.lst ((im qs).map D.str)) true),x2,x3,none,none,none]=FM (Hv sv ov qs)):=by
 obtain⟨i1,i2⟩:=jj qD (asg:=gT 2 (aJ (gN 3) (aJ (gN 4) cg))) (fr:=false) (body:=eM) (λenv=>∃a b c d:Option Sl,env=[some (.val (cK sv ov qs) false),some (.val (.lst ((im qs).map D.str)) true),x2,a,b,c,d]) (Fa sv ov qs) FM (λc=>.inr ⟨_,rfl⟩) qs
  [some (.val (cK sv ov qs) false),some (.val (.lst ((im qs).map D.str)) true),x2,x3,none,none,none] ⟨_,_,_,_,rfl⟩
  (by
    rintro q hq env ⟨a,b,c,d,rfl⟩;obtain⟨l1,l2⟩:=Hx (sv:=sv) (ov:=ov) (qs:=qs) (q:=q) (x2:=x2) (x3:=some (.val (.str q.1) false)) (y:=c) (z:=d);have hle:=(h.qw q hq).le;have hln:(((q.2.map λr=>D.tup r.d).length:Nat):Int)=(q.2.length:Nat):=by simp
    refine⟨[some (.val (cK sv ov qs) false),some (.val (.lst ((im qs).map D.str)) true),x2,some (.val (.str q.1) false),some (.val (.lst (q.2.map λr=>.tup r.d)) false),c,d],rfl,?_⟩;by_cases hc:Fa sv ov qs q=0
    .obtain⟨y',z',lp⟩:=l1 hc;refine .inl ⟨hc,[some (.val (cK sv ov qs) false),some (.val (.lst ((im qs).map D.str)) true),x2,some (.val (.str q.1) false),some (.val (.lst (q.2.map λr=>.tup r.d)) false),y',z'],?_,_,_,_,_,rfl⟩;simp_arith[eM,hln];rw[nB (by lia) (by lia),jK,kG,iD];simp_arith[lp]
    .have lp:=l2 hc;refine .inr ⟨hc,?_⟩;simp_arith[eM,hln];rw[nB (by lia) (by lia),jK,kG,iD];simp_arith[lp])
 exact⟨λh=>by obtain⟨bn,lp,a,b,c,d,rfl⟩:=i1 h;exact⟨a,b,c,d,lp⟩,i2⟩
def Hz(h:zL sv ov qs):dO [cK sv ov qs]=.ok (.val (.str (E5 (LQ sv ov qs))) true []):=by
 have h4:=h.n4;have hl:(im qs).length<=10:=by rw[cc];lia
 obtain⟨k1,k2⟩:=Hw (im qs) hl (P:=some (.val (cK sv ov qs) false)) (x4:=none) (x5:=none) (x6:=none);have a2:bI [D.int sv,D.int ov,D.lst (qs.map qD)] 2=some (.lst (qs.map qD)):=rfl;have hcm:=λ(a b c d e f:Option Sl)=>bX (mk:=λd'=>gT 2 (aJ (gN 0) (aJ (gN 1) cg)) d' false (c_ [some (.val (cK sv ov qs) false),a,b,c,d,e,f] 2 [])) (test:=λ_=>.ok true) (elt:=jV) qD (λq=>.val (.str q.1) true []) qs
  λq hq=>⟨[some (.val (.str q.1) false),some (.val (.lst (q.2.map λr=>.tup r.d)) false)],rfl,rfl,by simp_arith[jV]⟩
 have fl:D.aL (qs.map λq=>D.str q.1)=true:=aX _ _ λ_=>rfl;have en:(qs.map λq=>D.str q.1)=(im qs).map D.str:=by rw[iA];rfl
 have iq:oP (cK sv ov qs) (.int 2) false []=.ok (.val (.lst (qs.map qD)) false []):=by unfold cK;simp_arith[a2]
 have fz:dr [some (.val (cK sv ov qs) false),some (.own ((im qs).map D.str) true),none,none,none,none,none] [1]=[some (.val (cK sv ov qs) false),some (.val (.lst ((im qs).map D.str)) true),none,none,none,none,none]:=rfl;have go:∀z,(sZ (gF [some (.val (cK sv ov qs) false),none,none,none,none,none,none])=z)->dO [cK sv ov qs]=z:=λz h=>h;unfold LQ;by_cases nd:(im qs).Nodup
 .rw[dL nd];obtain⟨y,z,lp1⟩:=k1 nd;obtain⟨l1,l2⟩:=Hy h (x2:=y) (x3:=z);by_cases hm:("main" : Str)∈im qs
  .rw[dL hm];by_cases hc:Hv sv ov qs=0
   .rw[hc];obtain⟨a,b,c,d,lp⟩:=l1 hc;simp_arith[dO,gF,iq,bB];rw[bZ (by rw[cc];lia) (hcm _ _ _ _ _ _),fC (λq:Pq=>D.str q.1),bO fl,en];simp_arith[fz,lp1,di,hm,bB,iq,lp];rfl
   .have lp:=l2 hc;simp_arith[dO,gF,iq,bB];rw[bZ (by rw[cc];lia) (hcm _ _ _ _ _ _),fC (λq:Pq=>D.str q.1),bO fl,en];simp_arith[fz,lp1,di,hm,bB,iq,lp,FM]
  .rw[f7 hm];simp_arith[dO,gF,iq,bB];rw[bZ (by rw[cc];lia) (hcm _ _ _ _ _ _),fC (λq:Pq=>D.str q.1),bO fl,en];simp_arith[fz,lp1,di,hm];rfl
 .rw[f7 nd];have lp:=k2 nd;simp_arith[dO,gF,iq,bB];rw[bZ (by rw[cc];lia) (hcm _ _ _ _ _ _),fC (λq:Pq=>D.str q.1),bO fl,en];simp_arith[fz,lp,FM]
end
def OZ{x:Int}(h0:0<=x)(h1:x<14):x∈([0,1,2,3,4,5,6,7,8,9,10,11,12,13]:List Int):=by obtain⟨m,rfl⟩:=Int.eq_ofNat_of_zero_le h0;have:=(by decide:∀k:Fin 14,((k.val:Nat):Int)∈([0,1,2,3,4,5,6,7,8,9,10,11,12,13]:List Int));exact this ⟨m,Int.ofNat_lt.mp h1⟩
def Fd{c many number goal side lot:Int}{e1:Option Sl}{e4:Option Sl}{names:List Str}{w last:Bool}{sv ov:Int}(hl:0<names.length)(h0:0<=lot)(h1:lot<14)(hL:last=true->lot=7\/lot=10\/lot=11)(hv:0<=number/\number<vl sv ov w)(hg:0<=goal/\goal<many) :
 ∃ds,Lr names sv ov many last ds/\lh [some (.val (.int c) false),e1,some (.val (.int many) false),some (.val (.lst (names.map D.str)) false),e4,some (.val (.int lot) true),some (.val (.int side) true),some (.val (.str (wd w)) true),some (.val (.int number) true),some (.val (.int goal) true)]=.ok (.rt (.val (.tup ds) true [])):=by
 have hn0:(0:Int)<names.length:=by lia
 have cj:((names.map D.str).length:Int)=names.length:=by simp
 have d1:=dj c 1031 names.length hn0;have d2:=dn c 1031 names.length hn0;obtain⟨n,en,en2⟩:=mz d1 d2;have hmem:n∈names:=gK en2;have ha:bI (names.map D.str) (dg c 1031 names.length)=some (.str n):=by rw[m7,en];rfl
 have:lot∈([0,1,2,3,4,5,6,7,8,9,10,11,12,13]:List Int):=OZ h0 h1;simp only[cJ,iy,pK]at this;have t:True:=True.intro;have nl:(lot≠7/\lot≠10/\lot≠11)->last=false:=λh=>by
  cases q:last with
  |false=>rfl
  |true=>rcases hL q with z|z|z<;>lia
 rcases this with rfl|rfl|rfl|rfl|rfl|rfl|rfl|rfl|rfl|rfl|rfl|rfl|rfl|rfl
 .exact⟨_,⟨.skip,rfl,nl (by decide)⟩,rfl⟩
 .exact⟨_,⟨.set w number,rfl,hv,nl (by decide)⟩,rfl⟩
 .exact⟨_,⟨.set w number,rfl,hv,nl (by decide)⟩,rfl⟩
 .exact⟨_,⟨.any w,rfl,nl (by decide)⟩,rfl⟩
 .exact⟨_,⟨.turn w,rfl,nl (by decide)⟩,rfl⟩
 .exact⟨_,⟨.iff w number goal,rfl,⟨hv,hg⟩,nl (by decide)⟩,rfl⟩
 .exact⟨_,⟨.iff w number goal,rfl,⟨hv,hg⟩,nl (by decide)⟩,rfl⟩
 .exact⟨_,⟨.go goal,rfl,hg⟩,rfl⟩
 .exact⟨_,⟨.fork goal,rfl,hg,nl (by decide)⟩,rfl⟩
 .exact⟨_,⟨.fork goal,rfl,hg,nl (by decide)⟩,rfl⟩
 .exact⟨_,⟨.back,rfl,t⟩,rfl⟩
 .exact⟨_,⟨.stop,rfl,t⟩,rfl⟩
 all_goals
  refine⟨[.str "call",.str n],⟨.call n,rfl,hmem,nl (by decide)⟩,?_⟩;simp_arith[lh,cj,aU c 1031 names.length (by decide) hn0,ha]
def LV{c sv ov many:Int}{names:List Str}{last:Bool}(hl:0<names.length)(h1:0<sv)(h2:0<ov)(h3:0<many) :
 ∃ds,Lr names sv ov many last ds/\jt [.int c,.lst [.int sv,.int ov],.int many,.lst (names.map D.str),.bl last]=.ok (.val (.tup ds) true []):=by
 have s0:=dj c 1013 2 (by decide);have s1:=dn c 1013 2 (by decide);have l0:=dj c 1009 14 (by decide);have l1:=dn c 1009 14 (by decide);have m0:=dj c 1009 3 (by decide);have m1:=dn c 1009 3 (by decide);have step:∀lot:Int,0<=lot->lot<14->(last=true->lot=7\/lot=10\/lot=11)->∃ds,Lr names sv ov many last ds/\li [some (.val (.int c) false),some (.val (.lst [.int sv,.int ov]) false),some (.val (.int many) false),some (.val (.lst (names.map D.str)) false),some (.val (.bl last) false),some (.val (.int lot) true),none,none,none,none]=.ok (.rt (.val (.tup ds) true [])):=λlot a b hL=>by
  obtain⟨w,hs⟩ : ∃w:Bool,dg c 1013 2=if w then 1 else 0:=by
   have:dg c 1013 2=0\/dg c 1013 2=1:=by lia
   rcases this with z|z
   .exact⟨false,z⟩
   .exact⟨true,z⟩
  have iw:bI [D.str "shared",D.str "own"] (if w then 1 else 0)=some (.str (wd w)):=by cases w<;>rfl
  have jw:bI [D.int sv,D.int ov] (if w then 1 else 0)=some (.int (vl sv ov w)):=by cases w<;>rfl
  have hv:0<vl sv ov w:=by cases w<;>assumption
  obtain⟨ds,r,e⟩:=Fd (c:=c) (many:=many) (number:=dg c 1019 (vl sv ov w)) (goal:=dg c 1021 many) (side:=if w then 1 else 0) (lot:=lot) (e1:=some (.val (.lst [.int sv,.int ov]) false)) (e4:=some (.val (.bl last) false)) (w:=w) (last:=last) hl a b hL ⟨dj _ _ _ hv,dn _ _ _ hv⟩ ⟨dj _ _ _ h3,dn _ _ _ h3⟩;refine⟨ds,r,?_⟩;rw[<- e];simp_arith[li,oX,oW,oV,aU c 1013 2 (by decide) (by decide),hs,iw,jw,aU c 1019 (vl sv ov w) (by decide) hv,aU c 1021 many (by decide) h3]
 cases last with
 |false=>obtain⟨ds,r,e⟩:=step (dg c 1009 14) l0 l1 (λz=>by cases z);refine⟨ds,r,?_⟩;simp_arith[jt,oa,aU c 1009 14 (by decide) (by decide),lj,e]
 |true=>
  have hm:∃q:Int,0<=q/\q<14/\(q=7\/q=10\/q=11)/\bI [D.int 7,D.int 10,D.int 11] (dg c 1009 3)=some (.int q):=by
   have:dg c 1009 3=0\/dg c 1009 3=1\/dg c 1009 3=2:=by lia
   rcases this with h|h|h<;>rw[h]
   .exact⟨7,by decide,by decide,by decide,rfl⟩
   .exact⟨10,by decide,by decide,by decide,rfl⟩
   .exact⟨11,by decide,by decide,by decide,rfl⟩
  obtain⟨q,q0,q1,q2,eq⟩:=hm;obtain⟨ds,r,e⟩:=step q q0 q1 (λ_=>q2);refine⟨ds,r,?_⟩;simp_arith[jt,oa,aU c 1009 14 (by decide) (by decide),lj,aU c 1009 3 (by decide) (by decide),eq,e]
def O0{names:List Str}{sv ov many:Int}{last:Bool}{r:Rw}(h:OA names sv ov many last r)(hn:∀n∈names,Nm n.cps.toList)(h1:sv<=4)(h2:ov<=4)(h3:many<=300):Mz r:=by
 have hv:∀w,vl sv ov w<=4:=λw=>by cases w<;>assumption
 cases r with
 |skip=>trivial
 |back=>trivial
 |stop=>trivial
 |any w=>trivial
 |turn w=>trivial
 |set w n=>have:=hv w;exact⟨h.1.1,by have:=h.1.2;lia⟩
 |iff w n k=>have:=hv w;exact⟨⟨h.1.1.1,by have:=h.1.1.2;lia⟩,h.1.2.1,by have:=h.1.2.2;lia⟩
 |go k=>exact⟨h.1,by have:=h.2;lia⟩
 |fork k=>exact⟨h.1.1,by have:=h.1.2;lia⟩
 |call f=>exact hn f h.1
noncomputable def strs6:List Str:=["mains","mai","o","other","zzzzzzzz","maim"]
def Fe:∀s∈strs6,Nm s.cps.toList:=by intro s hs;unfold strs6 at hs;simp only[cJ,iy,pK]at hs;rcases hs with rfl|rfl|rfl|rfl|rfl|rfl<;>exact⟨by decide,by decide⟩
def yE(names:List Str):∃s:Str,Nm s.cps.toList/\d9 [.lst (names.map D.str)]=.ok (.val (.str s) true []):=by
 obtain⟨i1,i2⟩:=m9 D.str (asg:=gN 1) (fr:=true) (body:=cm) (λenv=>∃y:Option Sl,env=[some (.val (.lst (names.map D.str)) false),y]) (λs=>!decide (s∈names)) (λs=>.val (.str s) true []) strs6
  [some (.val (.lst (names.map D.str)) false),none] ⟨_,rfl⟩ (by
   rintro s hs env ⟨y,rfl⟩;refine⟨[some (.val (.lst (names.map D.str)) false),some (.val (.str s) true)],rfl,?_⟩;by_cases hm:s∈names
   .refine .inr ⟨by simp[hm],[some (.val (.lst (names.map D.str)) false),some (.val (.str s) true)],?_,_,rfl⟩;simp_arith[cm,di,hm]
   .refine .inl ⟨by simp[hm],?_⟩;simp_arith[cm,di,hm])
 cases q:strs6.find? λs=>!decide (s∈names)with
 |some s=>have lp:=i1 s q;refine⟨s,Fe s (qV q),?_⟩;have lp:de (gN 1) true cm [.str "mains",.str "mai",.str "o",.str "other",.str "zzzzzzzz",.str "maim"] [some (.val (.lst (names.map D.str)) false),none]=.ok (.rt (.val (.str s) true [])):=lp;simp_arith[d9,iV,lp]
 |none=>obtain⟨bn,lp,y,rfl⟩:=i2 q;refine⟨"nobody",⟨by decide,by decide⟩,?_⟩;have lp:de (gN 1) true cm [.str "mains",.str "mai",.str "o",.str "other",.str "zzzzzzzz",.str "maim"] [some (.val (.lst (names.map D.str)) false),none]=.ok (.nx [some (.val (.lst (names.map D.str)) false),y]):=lp;simp_arith[d9,iV,lp]
def Ff{c sv ov many:Int}{names:List Str}(h1:0<sv)(h2:0<ov)(h1':sv<=4)(h2':ov<=4)(h3:0<many)(h3':many<=99) :
 ∃r:Rw,Mz r/\bE [.int c,.lst [.int sv,.int ov],.int many,.lst (names.map D.str)]=.ok (.val (.tup r.d) true []):=by
 have s0:=dj c 1013 2 (by decide);have s1:=dn c 1013 2 (by decide);have m0:=dj c 1019 3 (by decide);have m1:=dn c 1019 3 (by decide);have l0:=dj c 1109 6 (by decide);have l1:=dn c 1109 6 (by decide);obtain⟨w,hs⟩ : ∃w:Bool,dg c 1013 2=if w then 1 else 0:=by
  have:dg c 1013 2=0\/dg c 1013 2=1:=by lia
  rcases this with z|z
  .exact⟨false,z⟩
  .exact⟨true,z⟩
 obtain⟨m,hm0,hm1,hm⟩ : ∃m:Int,0<=m/\m<=900/\bI [D.int 0,D.int 1,D.int 900] (dg c 1019 3)=some (.int m):=by
  have:dg c 1019 3=0\/dg c 1019 3=1\/dg c 1019 3=2:=by lia
  rcases this with h|h|h<;>rw[h]
  .exact⟨0,by decide,by decide,rfl⟩
  .exact⟨1,by decide,by decide,rfl⟩
  .exact⟨900,by decide,by decide,rfl⟩
 have iw:bI [D.str "shared",D.str "own"] (if w then 1 else 0)=some (.str (wd w)):=by cases w<;>rfl
 have jw:bI [D.int sv,D.int ov] (if w then 1 else 0)=some (.int (vl sv ov w)):=E8 w;have hv:0<vl sv ov w:=by cases w<;>assumption
 have hv':vl sv ov w<=4:=by cases w<;>assumption
 obtain⟨s,sn,es⟩:=yE names;have gw:bI [D.str "go",D.str "fork"] (if w then 1 else 0)=some (.str (if w then "fork" else "go")):=by cases w<;>rfl
 have hl:dg c 1109 6=0\/dg c 1109 6=1\/dg c 1109 6=2\/dg c 1109 6=3\/dg c 1109 6=4\/dg c 1109 6=5:=by lia
 have k1:∀x y:Int,(x==y)=decide (x=y):=λx y=>by by_cases h:x=y<;>simp[h]
 have d1:=aU c 1013 2 (by decide) (by decide);have d2:=aU c 1019 3 (by decide) (by decide);have d3:=aU c 1109 6 (by decide) (by decide);rw[hs]at d1;rcases hl with hl|hl|hl|hl|hl|hl<;>rw[hl]at d3
 .refine⟨.call s,sn,?_⟩;simp_arith[bE,b8,d1,d2,d3,iw,hm,bu,aY,es,Rw.d]
 .refine⟨.set w (vl sv ov w+m),⟨by lia,by lia⟩,?_⟩;simp_arith[bE,b8,d1,d2,d3,iw,hm,bu,aY,jw,Rw.d]
 .refine⟨if w then .fork (many+m)else .go (many+m),by cases w<;>exact⟨by lia,by lia⟩,?_⟩;simp_arith[bE,b8,d1,d2,d3,iw,hm,bu,aY,gw];cases w<;>rfl
 .refine⟨.iff w (vl sv ov w+m) (many+m),⟨⟨by lia,by lia⟩,by lia,by lia⟩,?_⟩;simp_arith[bE,b8,d1,d2,d3,iw,hm,bu,aY,jw,Rw.d]
 .refine⟨.iff w 0 (many+m),⟨⟨by lia,by lia⟩,by lia,by lia⟩,?_⟩;simp_arith[bE,b8,d1,d2,d3,iw,hm,bu,aY,jw,Rw.d]
 .refine⟨.skip,trivial,?_⟩;simp_arith[bE,b8,d1,d2,d3,iw,hm,bu,aY,jw,Rw.d]
noncomputable def rT(gs:List (List Int)):List D:=gs.map λg=>.lst (g.map .int)
def Fg(gs:List (List Int)):(rT gs).all mY=true:=by rw[c8];intro d hd;obtain⟨g,_,rfl⟩:=eR.mp hd;exact jq g
section
variable{cs:List Int}{sv ov seed:Int}{names:List Str}
abbrev e0(cs:List Int):Option Sl:=some (.val (.lst (cs.map .int)) false)
noncomputable abbrev e1(sv ov:Int):Option Sl:=some (.val (.lst [.int sv,.int ov]) false)
noncomputable abbrev e2(names:List Str):Option Sl:=some (.val (.lst (names.map D.str)) false)
noncomputable abbrev e3(seed:Int):Option Sl:=some (.val (.int seed) false)
def HA{e4:Option Sl}(hn:0<names.length)(hc:cs.length<=60):∃(gs:List (List Int))(x:Option Sl),gs.length=names.length/\(∀g∈gs,g.length<=60)/\
 de (gN 6) false hI (cs.map .int) [e0 cs,e1 sv ov,e2 names,e3 seed,e4,some (.lz (.lst (rT (names.map λ_=>[])))),none,none,none,none,none,none,none,none]
  = .ok (.nx [e0 cs,e1 sv ov,e2 names,e3 seed,e4,some (.lz (.lst (rT gs))),x,none,none,none,none,none,none,none]):=by
 obtain⟨bn,lp,gs,x,rfl,h1,h2⟩:=lf (λk:Int=>D.int k) (asg:=gN 6) (fr:=false) (body:=hI) cs (λpre env=>∃(gs:List (List Int))(x:Option Sl),env=[e0 cs,e1 sv ov,e2 names,e3 seed,e4,some (.lz (.lst (rT gs))),x,none,none,none,none,none,none,none]/\gs.length=names.length/\∀g∈gs,g.length<=pre.length) cs []
  [e0 cs,e1 sv ov,e2 names,e3 seed,e4,some (.lz (.lst (rT (names.map λ_=>[])))),none,none,none,none,none,none,none,none] rfl ⟨_,_,rfl,by simp,λg hg=>by obtain⟨_,_,rfl⟩:=eR.mp hg;exact dJ _⟩
  (by
    rintro pre post c env ea ⟨gs,x,rfl,h1,h2⟩;have hpl:pre.length+post.length+1=cs.length:=by have:=ly List.length ea;simp at this;lia
    have hn0:(0:Int)<names.length:=by lia
    have cj:((names.map D.str).length:Int)=names.length:=by simp
    have d0:=dj c 1051 names.length hn0;have d1:=dn c 1051 names.length hn0;have hj:(dg c 1051 names.length).toNat<gs.length:=by lia
    have eg:gs[(dg c 1051 names.length).toNat]?=some gs[(dg c 1051 names.length).toNat]:=by simp[hj]
    generalize gs[(dg c 1051 names.length).toNat]=g at eg;have hgl:=h2 g (gK eg);have ex:pZ (rT gs).length (dg c 1051 names.length)=some (dg c 1051 names.length).toNat:=oq d0 (by unfold rT;rw[cc];lia);have ed:(rT gs)[(dg c 1051 names.length).toNat]?=some (.lst (g.map .int)):=by unfold rT;rw[kE,eg];rfl
    have es:(rT gs).set (dg c 1051 names.length).toNat (.lst (g.map .int++[.int c]))=rT (gs.set (dg c 1051 names.length).toNat (g++[c])):=by unfold rT;rw[List.map_set];simp
    have hgl2:(g.map D.int).length<1000000:=by rw[cc];lia
    refine⟨_,[e0 cs,e1 sv ov,e2 names,e3 seed,e4,some (.lz (.lst (rT (gs.set (dg c 1051 names.length).toNat (g++[c]))))),some (.val (.int c) false),none,none,none,none,none,none,none],rfl,?_,_,_,rfl,by simp[h1],λg' hg'=>?_⟩
    .simp_arith[hI,cj,aU c 1051 names.length (by decide) hn0];rw[zr ex ed];simp_arith;rw[zt (r:=.val (.int c) true []) rfl hgl2 (Fg gs)];simp_arith[es]
    .rcases List.mem_or_eq_of_mem_set hg' with hg'|rfl
     .have:=h2 g' hg';simp;lia
     .simp;lia)
 exact⟨gs,x,h1,λg hg=>jQ (h2 g hg) hc,lp⟩
def BW(hn:0<names.length)(hnm:∀n∈names,Nm n.cps.toList)(h1:0<sv)(h2:0<ov)(h1':sv<=4)(h2':ov<=4){rare:Int}(hr:0<rare){ow:List Int}(hl:ow.length<=61)(h0:0<ow.length){e5 e6 e7 e8 e9 e12 e13:Option Sl}:∃(rs:List Rw)(x y z:Option Sl),rs.length=ow.length/\(∀r∈rs,Mz r)/\
 de (gT 2 (aJ (gN 12) (aJ (gN 6) cg))) true dE (iH 0 (ow.map .int)) [e0 cs,e1 sv ov,e2 names,e3 seed,some (.val (.int rare) true),e5,e6,e7,e8,e9,some (.val (.lst (ow.map .int)) true),some (.own [] true),e12,e13]
  = .ok (.nx [e0 cs,e1 sv ov,e2 names,e3 seed,some (.val (.int rare) true),e5,x,e7,e8,e9,some (.val (.lst (ow.map .int)) true),some (.own (rs.map λr=>.tup r.d) true),y,z]):=by
 rw[m6];obtain⟨bn,lp,rs,x,y,z,rfl,r1,r2⟩:=lf (λp:Int×Nat=>D.tup [.int (p.2:Nat),.int p.1]) (asg:=gT 2 (aJ (gN 12) (aJ (gN 6) cg))) (fr:=true) (body:=dE) (ow.zipIdx 0) (λpre env=>∃(rs:List Rw)(x y z:Option Sl),env=[e0 cs,e1 sv ov,e2 names,e3 seed,some (.val (.int rare) true),e5,x,e7,e8,e9,some (.val (.lst (ow.map .int)) true),some (.own (rs.map λr=>.tup r.d) true),y,z]/\rs.length=pre.length/\∀r∈rs,Mz r) (ow.zipIdx 0) []
  [e0 cs,e1 sv ov,e2 names,e3 seed,some (.val (.int rare) true),e5,e6,e7,e8,e9,some (.val (.lst (ow.map .int)) true),some (.own [] true),e12,e13] rfl ⟨[],_,_,_,rfl,rfl,λ_ z=>by cases z⟩
  (by
    rintro pre post ⟨c,i⟩ env ea ⟨rs,x,y,z,rfl,r1,r2⟩;have hpl:pre.length+post.length+1=ow.length:=by have:=ly List.length ea;simp at this;lia
    have hm:(0:Int)<ow.length:=by lia
    have cj:(((ow.map D.int).length:Nat):Int)=ow.length:=by simp
    obtain⟨ds,⟨r,rfl,ro⟩,er⟩:=LV (c:=c) (sv:=sv) (ov:=ov) (many:=ow.length) (names:=names) (last:=((i:Int)==(ow.length:Int)-1)) hn h1 h2 hm;obtain⟨r',rl',er'⟩:=Ff (c:=c) (sv:=sv) (ov:=ov) (many:=ow.length) (names:=names) h1 h2 h1' h2' hm (by lia);have rl:=O0 ro hnm h1' h2' (by lia);have dk:=aU c 1117 rare (by decide) hr;have hfl:=(mO r).aL;have hfl':=(mO r').aL;have hrl:(rs.map λr=>D.tup r.d).length<1000000:=by rw[cc];lia
    have key:∃r'':Rw,Mz r''/\dE [e0 cs,e1 sv ov,e2 names,e3 seed,some (.val (.int rare) true),e5,some (.val (.int c) true),e7,e8,e9,some (.val (.lst (ow.map .int)) true),some (.own (rs.map λr=>.tup r.d) true),some (.val (.int (i:Nat)) true),z]=.ok (.nx [e0 cs,e1 sv ov,e2 names,e3 seed,some (.val (.int rare) true),e5,some (.val (.int c) true),e7,e8,e9,some (.val (.lst (ow.map .int)) true),some (.own ((rs++[r'']).map λr=>.tup r.d) true),some (.val (.int (i:Nat)) true),some (.val (.tup r''.d) true)]):=by
     have ap:∀r:Rw,((rs++[r]).map λr=>D.tup r.d)=(rs.map λr=>D.tup r.d)++[.tup r.d]:=λr=>by simp
     generalize(rs.map λr=>D.tup r.d)=acc at *;by_cases h4:dg c 1117 rare=4
     .have b4:(dg c 1117 rare==4)=true:=by rw[h4];rfl
      refine⟨r',rl',?_⟩;rw[ap];simp_arith[dE,cj,bu,aY,er,hfl,dk,b4,er',hfl',n_,hrl]
     .have b4:(dg c 1117 rare==4)=false:=jE.mpr h4;refine⟨r,rl,?_⟩;rw[ap];simp_arith[dE,cj,bu,aY,er,hfl,dk,b4,n_,hrl]
    obtain⟨r'',rl'',ek⟩:=key;refine⟨_,_,rfl,ek,rs++[r''],_,_,_,rfl,by simp[r1],λr hr=>?_⟩;rcases ir.mp hr with hr|hr
    .exact r2 r hr
    .rw[nP.mp hr];exact rl'')
 exact⟨rs,x,y,z,by rw[r1];simp,r2,lp⟩
def zH(hn:0<names.length)(hn4:names.length<=4)(hnm:∀n∈names,Nm n.cps.toList)(h1:0<sv)(h2:0<ov)(h1':sv<=4)(h2':ov<=4){rare:Int}(hr:0<rare){gs:List (List Int)}(hg:gs.length=names.length)(hgl:∀g∈gs,g.length<=60){x:Option Sl}:∃(qs:List Pq)(a b c d e f g:Option Sl),im qs=names/\(∀q∈qs,HF q)/\
 de (gT 2 (aJ (gN 8) (aJ (gN 9) cg))) false hJ (iH 0 (names.map D.str)) [e0 cs,e1 sv ov,e2 names,e3 seed,some (.val (.int rare) true),some (.lz (.lst (rT gs))),x,some (.own [] true),none,none,none,none,none,none]
  = .ok (.nx [e0 cs,e1 sv ov,e2 names,e3 seed,some (.val (.int rare) true),some (.lz (.lst (rT gs))),a,some (.own (qs.map qD) true),b,c,d,e,f,g]):=by
 rw[m6];obtain⟨bn,lp,qs,a,b,c,d,e,f,g,rfl,r1,r2⟩:=lf (λp:Str×Nat=>D.tup [.int (p.2:Nat),.str p.1]) (asg:=gT 2 (aJ (gN 8) (aJ (gN 9) cg))) (fr:=false) (body:=hJ) (names.zipIdx 0) (λpre env=>∃(qs:List Pq)(a b c d e f g:Option Sl),env=[e0 cs,e1 sv ov,e2 names,e3 seed,some (.val (.int rare) true),some (.lz (.lst (rT gs))),a,some (.own (qs.map qD) true),b,c,d,e,f,g]/\im qs=pre.map (·.1)/\∀q∈qs,HF q) (names.zipIdx 0) []
  [e0 cs,e1 sv ov,e2 names,e3 seed,some (.val (.int rare) true),some (.lz (.lst (rT gs))),x,some (.own [] true),none,none,none,none,none,none] rfl ⟨[],_,_,_,_,_,_,_,rfl,rfl,λ_ z=>by cases z⟩
  (by
    rintro pre post ⟨n,k⟩ env ea ⟨ps,a,b,c,d,e,f,g',rfl,r1,r2⟩;have hmem:(n,k)∈names.zipIdx 0:=by rw[ea];simp
    have hkn:names[k]?=some n:=by have:=S2.mp hmem;simpa using this
    have hk:=(c5.mp hkn).1;have hkg:k<gs.length:=by lia
    have eg:gs[k]?=some gs[k]:=by simp[hkg]
    generalize gs[k]=g at eg;have hgl':=hgl g (gK eg);have ed:bI (rT gs) (k:Int)=some (.lst (g.map .int)):=by unfold bI rT;rw[oq (by lia) (by rw[cc];lia)];simp[eg]
    generalize hz:((k:Nat):Int)=z at ed;have k1:-18446744073709551616<z:=by lia
    have k2:z<18446744073709551616:=by lia
    obtain⟨rs,x',y',z',q1,q2,lp2⟩:=BW (cs:=cs) (seed:=seed) hn hnm h1 h2 h1' h2' hr (ow:=g++[seed+7*z*z]) (by simp;lia) (by simp) (e5:=some (.lz (.lst (rT gs)))) (e6:=a) (e7:=some (.own (ps.map qD) true)) (e8:=some (.val (.int z) false)) (e9:=some (.val (.str n) false)) (e12:=f) (e13:=g');have q1':rs.length=g.length+1:=by rw[q1];simp
    have hpl:pre.length+post.length+1=names.length:=by have:=ly List.length ea;simp at this;lia
    have hpsl:ps.length=pre.length:=by have:=ly List.length r1;simpa using this
    have hplen:(ps.map qD).length<1000000:=by rw[cc];lia
    have eo:g.map D.int++[D.int (seed+7*z*z)]=(g++[seed+7*z*z]).map D.int:=by simp
    refine⟨_,[e0 cs,e1 sv ov,e2 names,e3 seed,some (.val (.int rare) true),some (.lz (.lst (rT gs))),x',some (.own ((ps++[(n,rs)]).map qD) true),some (.val (.int z) false),some (.val (.str n) false),some (.val (.lst ((g++[seed+7*z*z]).map .int)) true),some (.val (.lst (rs.map λr=>.tup r.d)) true),y',z'],rfl,?_,ps++[(n,rs)],_,_,_,_,_,_,_,rfl,by simp only[im]at r1 ⊢;rw[rK,r1];simp,λp hp=>?_⟩
    .have hal:(g.map D.int).length+[D.int (seed+7*z*z)].length<=1000000:=by simp;lia
     simp_arith[hJ,k1,k2,ed,jq];rw[tL hal,eo,bO (jq _)];simp_arith;rw[show dr [e0 cs,e1 sv ov,e2 names,e3 seed,some (.val (.int rare) true),some (.lz (.lst (rT gs))),a,some (.own (ps.map qD) true),some (.val (.int z) false),some (.val (.str n) false),some (.own ((g++[seed+7*z*z]).map .int) true),some (.own [] true),f,g'] [10]=[e0 cs,e1 sv ov,e2 names,e3 seed,some (.val (.int rare) true),some (.lz (.lst (rT gs))),a,some (.own (ps.map qD) true),some (.val (.int z) false),some (.val (.str n) false),some (.val (.lst ((g++[seed+7*z*z]).map .int)) true),some (.own [] true),f,g']from rfl,lp2];simp_arith[n_,hplen,rK];exact dL ⟨hplen,λh=>absurd (show(7:Nat)∈[11]from h) (by decide)⟩
    .rcases ir.mp hp with hp|hp
     .exact r2 p hp
     .have:p=(n,rs):=by simpa using hp
      subst this;exact⟨hnm n (gK hkn),by show 0<rs.length;lia,by show rs.length<=300;lia,λr hr=>QZ (q2 r hr)⟩)
 refine⟨qs,a,b,c,d,e,f,g,by rw[r1];simp,r2,lp⟩
def Fh(hn:0<names.length)(hn4:names.length<=4)(hnm:∀n∈names,Nm n.cps.toList)(h1:0<sv)(h2:0<ov)(h1':sv<=4)(h2':ov<=4)(hc:cs.length<=60):∃qs:List Pq,im qs=names/\(∀q∈qs,HF q)/\
 jb [.lst (cs.map .int),.lst [.int sv,.int ov],.lst (names.map D.str),.int seed]=.ok (.val (cK sv ov qs) true [7]):=by
 have d0:=dj seed 1163 2 (by decide);have d1:=dn seed 1163 2 (by decide);obtain⟨rare,hr,er⟩ : ∃rare:Int,0<rare/\bI [D.int 9,D.int 61] (dg seed 1163 2)=some (.int rare):=by
  have:dg seed 1163 2=0\/dg seed 1163 2=1:=by lia
  rcases this with h|h<;>rw[h]
  .exact⟨9,by decide,rfl⟩
  .exact⟨61,by decide,rfl⟩
 obtain⟨gs,x,g1,g2,lp1⟩:=HA (cs:=cs) (sv:=sv) (ov:=ov) (seed:=seed) (e4:=some (.val (.int rare) true)) hn hc;obtain⟨qs,a,b,c,d,e,f,g,r1,r2,lp2⟩:=zH (cs:=cs) (seed:=seed) (x:=x) hn hn4 hnm h1 h2 h1' h2' hr g1 g2;refine⟨qs,r1,r2,?_⟩;have ed:(names.map D.str).map (λ_=>D.lst [])=rT (names.map λ_=>[]):=by unfold rT;simp
 have hl:(names.map D.str).length<=1000000:=by rw[cc];lia
 have i0:bI [D.int sv,D.int ov] 0=some (.int sv):=rfl;have i1:bI [D.int sv,D.int ov] 1=some (.int ov):=rfl;simp_arith[jb,oY,aU seed 1163 2 (by decide) (by decide),er,hl,ed];simp only[e0,e1,e2,e3]at lp1 lp2;simp_arith[lp1];simp_arith[lp2];rfl
end
def IW(fb:En->Res R)(env:En)(ra:R):Res R:=(fb env).bind (vt ra)
def wL(fa fb:En->Res R)(env:En):Aq fa fb env=(fa env).bind (IW fb env):=(rfl)
def wM(fb:En->Res R)(env:En)(ra:R):IW fb env ra=(fb env).bind (vt ra):=(rfl)
def AK{a:Str}{f g:Bool}{al bl:List Nat}:vt (.val (.str a) f al) (.val (.int 1) g bl)=.ok (.new [.str a] true):=(rfl)
def AL{a:Str}{f g:Bool}{al bl:List Nat}:vt (.val (.str a) f al) (.val (.int 2) g bl)=.ok (.new [.str a,.str a] true):=(rfl)
noncomputable def LW(n:Str):Str:=if n="main" then "q" else n
def LX(n:Str)(f:Bool):gY [some (.val (.str n) f)]=.ok (.val (.str (LW n)) true []):=by
 by_cases h:n="main"
 .subst h;cases f<;>rfl
 .have e:dq (.str n) (.str "main")=false:=by show(n=="main")=false;exact jE.mpr h
  unfold LW;rw[f7 h];have i1:bI [D.str "q",D.str n] 1=some (.str n):=rfl;simp_arith[gY,iI,e,i1];rfl
def Fi(c:Int)(names:List Str)(h0:0<names.length)(h4:names.length<=4)(hn:∀n∈names,Nm n.cps.toList):∃ns:List Str,0<ns.length/\ns.length<=4/\(∀n∈ns,Nm n.cps.toList)/\
 (ce [.int c,.lst (names.map D.str)]=.ok (.new (ns.map D.str) true)\/ce [.int c,.lst (names.map D.str)]=.ok (.val (.lst (ns.map D.str)) false [])):=by
 have dk:=aU c 1097 9 (by decide) (by decide);have dep:=yB names;by_cases h3:dg c 1097 9=3
 .have b3:(dg c 1097 9==3)=true:=by rw[h3];rfl
  rcases names with _|⟨a,_|⟨b,_|⟨d,_|⟨e,_|⟨f,r⟩⟩⟩⟩⟩
  .cases h0
  .refine⟨[a,a],by simp,by simp,λn hm=>hn n (by simp at hm ⊢;exact hm),.inl ?_⟩;have cu:dN [D.str a] none (some (-1))=[]:=rfl;have i0:bI [D.str a] 0=some (.str a):=rfl;simp_arith[ce,dS,dk,bu,aY,b3,wL,wM,c7,rD,cu,i0,AK,AL];rfl
  .refine⟨[a,a],by simp,by simp,λn hm=>hn n (by simp at hm ⊢;exact .inl hm),.inl ?_⟩;have cu:dN [D.str a,D.str b] none (some (-1))=[.str a]:=rfl;have i0:bI [D.str a,D.str b] 0=some (.str a):=rfl;simp_arith[ce,dS,dk,bu,aY,b3,wL,wM,c7,rD,cu,i0,AK,AL];rfl
  .refine⟨[a,b,a],by simp,by simp,λn hm=>hn n (by simp at hm ⊢;rcases hm with h|h|h<;>simp[h]),.inl ?_⟩;have cu:dN [D.str a,D.str b,D.str d] none (some (-1))=[.str a,.str b]:=rfl;have i0:bI [D.str a,D.str b,D.str d] 0=some (.str a):=rfl;simp_arith[ce,dS,dk,bu,aY,b3,wL,wM,c7,rD,cu,i0,AK,AL];rfl
  .refine⟨[a,b,d,a],by simp,by simp,λn hm=>hn n (by simp at hm ⊢;rcases hm with h|h|h|h<;>simp[h]),.inl ?_⟩;have cu:dN [D.str a,D.str b,D.str d,D.str e] none (some (-1))=[.str a,.str b,.str d]:=rfl;have i0:bI [D.str a,D.str b,D.str d,D.str e] 0=some (.str a):=rfl;simp_arith[ce,dS,dk,bu,aY,b3,wL,wM,c7,rD,cu,i0,AK,AL];rfl
  .simp at h4
 .have b3:(dg c 1097 9==3)=false:=jE.mpr h3;by_cases h5:dg c 1097 9=5
  .have b5:(dg c 1097 9==5)=true:=by rw[h5];rfl
   refine⟨names.map LW,by rw[cc];exact h0,by rw[cc];exact h4,λn hm=>?_,.inl ?_⟩
   .obtain⟨m,hm2,rfl⟩:=eR.mp hm;unfold LW;split
    .exact⟨by decide,by decide⟩
    .exact hn m hm2
   .have hcm:=λ(a:Option Sl)=>bX (mk:=λd'=>gN 0 d' false (c_ [a,some (.val (.lst (names.map D.str)) false),some (.val (.int (dg c 1097 9)) true)] 1 [])) (test:=λ_=>.ok true) (elt:=gY) D.str (λn=>.val (.str (LW n)) true []) names
     λn hm=>⟨[some (.val (.str n) false)],rfl,rfl,LX n false⟩
    have fl:D.aL (names.map λn=>D.str (LW n))=true:=aX _ _ λ_=>rfl;simp_arith[ce,dS,dk,bu,aY,b3,b5];rw[bZ (by rw[cc];lia) (hcm _),fC (λn:Str=>D.str (LW n)),bO fl,iA];rfl
  .have b5:(dg c 1097 9==5)=false:=jE.mpr h5;refine⟨names,h0,h4,hn,.inr ?_⟩;simp_arith[ce,dS,dk,bu,aY,b3,b5]
noncomputable def O1:List Str:=["","skip 1","skip ","set own","set 1","set both 1","set own 01","set own 1000","set shared -1"]
noncomputable def O6:List Str:=["set shared x","any","any mine","any own 1","turn","if own 1","if own 1 2 3","if own 01 2"]
noncomputable def O7:List Str:=["if own 1 02","if 1 2","go","go f","go 00","go 1 2","fork","fork 0001","call","call F"]
noncomputable def O8:List Str:=["call f1","call abcdefghi","call f f","back 0","stop 0","Stop","jump 1","values 1 1","go +1"]
noncomputable def O9:List Str:=["1"]
def O_:List Str:=O1++O6++O7++O8++O9
noncomputable def Pa:List Str:=["values 0 1","values 1 5","values 2","values","values 1 1 1","value 1 1","values 01 1","values 1 -1","values 10 1","Values 1 1","","values x 1","1 1","values 1 1 "]
noncomputable def oddN:List Str:=["","F","f1","abcdefghi","f f","main ","1"]
noncomputable def Pb:List Str:=["","values 2 1","values 2 1; ","values 2 1;","main: stop","values 1 1; main","values 1 1; main:","values 1 1; main: ","values 1 1; main: stop, ","values 1 1; main: stop;","values 1 1; main: stop; ","values 1 1, main: stop","values 1 1; main: stop, f: stop","values 1 1; main: f: stop","; values 1 1; main: stop","values 1 1; values 1 1; main: stop"]
def LY:∀s∈O_,(uB s.cps.toList&&(!nH s.cps.toList&&decide (s.cps.toList.length<=36)))=true:=by decide +kernel
def LZ:∀s∈Pa,(uB s.cps.toList&&(!fB s.cps.toList uY&&decide (s.cps.toList.length<=36)))=true:=by decide +kernel
def L0:∀s∈oddN,(uB s.cps.toList&&(!ub s.cps.toList&&decide (s.cps.toList.length<=9)))=true:=by decide +kernel
def L1:∀s∈Pb,(!uZ s.cps.toList&&decide (s.cps.toList.length<=60))=true:=by decide +kernel
def zI{n p:Int}{c:Int}{l:List Str}(hn:0<n)(hp:0<p)(hl:(l.length:Int)=n){B:En->Res Fl}{F:List D->Res R}(hF:∀d,F [d]=sZ (B [some (.val d false),none])){g:Bool}(hB:∀d,B [some (.val d false),none]=br (aR 1 (aQ ay (ac (ak 0) (ac (vC (.int p)) (ac (vC (.int n)) au))))) [some (.val d false),some (.own (l.map D.str) true)]) :
 ∃s∈l,F [.int c]=.ok (.val (.str s) true []):=by
 have d0:=dj c p n hn;have d1:=dn c p n hn;obtain⟨s,e1,e2⟩:=mz (xs:=l) d0 (by lia);have ea:bI (l.map D.str) (dg c p n)=some (.str s):=by rw[m7,e1];rfl
 have dk:=aU c p n hp hn;refine⟨s,gK e2,?_⟩;rw[hF,hB];simp_arith[dk,ea]
def zJ(c:Int):∃s∈O_,fH [.int c]=.ok (.val (.str s) true []):=zI (n:=37) (p:=1123) (g:=true) (by decide) (by decide) (by decide) (B:=mD) (λ_=>rfl) λd=>rfl
def wN(c:Int):∃s∈Pa,ii [.int c]=.ok (.val (.str s) true []):=zI (n:=14) (p:=1123) (g:=true) (by decide) (by decide) (by decide) (B:=kq) (λ_=>rfl) λd=>rfl
def yF(c:Int):∃s∈Pb,i6 [.int c]=.ok (.val (.str s) true []):=zI (n:=16) (p:=1123) (g:=true) (by decide) (by decide) (by decide) (B:=lL) (λ_=>rfl) λd=>rfl
def su(fo fa:En->Res R)(env:En):xU fo fa env=(fo env).bind (tG fa env):=(rfl)
def pI{fa:En->Res R}{env:En}{a:Str}{f:Bool}{al:List Nat}:tG fa env (.val (.str a) f al)=(fa env).bind (qz a):=(rfl)
def Pc(ps:List (List Nat)):lG (ps.map λp=>D.str (T p))=some (ps.map T):=by have:=qy (ps.map T);rw[iA]at this;exact this
def Fj{sep:Str}{n:Nat}(ps:List (List Nat))(h:∀p∈ps,p.length<=n):rq sep (ps.map T)<=ps.length*(n+sep.length):=by
 unfold rq;rw[cc,Nat.mul_add];refine Nat.add_le_add ?_ (dJ _);induction ps with
 |nil=>exact lU _
 |cons p r ih=>rw[c7,c7,List.sum_cons,i8,Nat.succ_mul,cC];have h1:=h p (by simp);have h2:=ih λq hq=>h q (by simp[hq]);lia
def HB{x:Str}{sep:List Nat}{ps:List (List Nat)}{n:Nat}(hx:x=T sep)(h:ps≠[])(hn:∀p∈ps,p.length<=n)(hl:ps.length*(n+sep.length)<=1000000) :
 rq x (ps.map T)<=1000000/\Txt.join x (ps.map T)=T (jn sep ps):=by
 subst hx;refine⟨jQ (Fj ps hn) (by rw[cC];exact hl),Ho sep ps h⟩
def qT{x:Str}{sep:List Nat}{ps:List (List Nat)}{n:Nat}{r:R}(hr:r.d=.lst (ps.map λp=>.str (T p)))(hx:x=T sep)(h:ps≠[])(hn:∀p∈ps,p.length<=n)(hl:ps.length*(n+sep.length)<=1000000):qz x r=.ok (.val (.str (T (jn sep ps))) true []):=by obtain⟨a,b⟩:=HB hx h hn hl;unfold qz;rw[hr];dsimp only;rw[Pc];dsimp only;rw[dL a,b]
def L4{w:Str}{cs:List kX}(h:vF w cs)(f:Bool):cW [some (.val (.tup (FK w cs)) f)]=.ok (.val (.str (T (mQ w cs))) true []):=by
 have fl:D.aL (FK w cs)=true:=by unfold FK;rw[a_,fA λd hd=>by obtain⟨c,hc,rfl⟩:=eR.mp hd;exact(h.wk c hc).flat];rfl
 have hl:=h.len;have ew:FK w cs=(((w.cps.toList,D.str w)::cs.map λc=>(c.w,c.d)):List (List Nat×D)).map (·.2):=by unfold FK;rw[c7,iA];rfl
 have hw:(((w.cps.toList,D.str w)::cs.map λc=>(c.w,c.d)):List (List Nat×D)).map (·.1)=rS w cs:=by unfold rS;rw[c7,iA];rfl
 generalize hps:((w.cps.toList,D.str w)::cs.map λc=>(c.w,c.d):List (List Nat×D))=ps at ew hw;have hks:∀p∈ps,(∀(g:Bool)(al:List Nat),uJ [.val p.2 g al]=.ok (.val (.str (T p.1)) true []))/\p.2.flat=true:=by
  rw[<- hps];intro p hp;rcases cJ.mp hp with rfl|hp
  .exact⟨λg al=>by rw[<- mM];rfl,rfl⟩
  .obtain⟨c,hc,rfl⟩:=eR.mp hp;exact⟨(h.wk c hc).str,(h.wk c hc).flat⟩
 have hpl:ps.length<=4:=by rw[<- hps];simp;lia
 have hcm:=bX (mk:=λd=>gN 0 d true (c_ [some (.val (.tup (FK w cs)) f)] 1 [])) (test:=λ_=>.ok true) (elt:=iW) (λp:List Nat×D=>p.2) (λp=>.val (.str (T p.1)) true []) ps
  λp hp=>⟨[some (.val p.2 true)],rfl,rfl,by have:=hks p hp;simp_arith[iW,this.2,this.1]⟩
 have f2:D.aL (ps.map λp=>D.str (T p.1))=true:=aX _ _ λ_=>rfl;have ed:(ps.map λp=>D.str (T p.1))=(rS w cs).map λp=>D.str (T p):=by rw[<- hw,iA];rfl
 have hj:=λg=>qT (x:=" ") (sep:=[32]) (ps:=rS w cs) (n:=8) (r:=.new ((rS w cs).map λp=>D.str (T p)) g) rfl BN (by unfold rS;simp) (λp hp=>by
  rcases cJ.mp hp with rfl|hp
  .exact h.hl
  .obtain⟨c,hc,rfl⟩:=eR.mp hp;exact(h.wk c hc).len) (by
   have:(rS w cs).length<=4:=by unfold rS;simp;lia
   have h2:(rS w cs).length*(8+[32].length)<=4*(8+[32].length):=nR _ this;have:4*(8+[32].length)<=1000000:=by decide
   exact jQ h2 this)
 rw[ew]at fl hcm ⊢;simp_arith[cW,su,pI,fl];rw[bZ (by rw[cc];lia) hcm,fC (λp:List Nat×D=>D.str (T p.1)),bO f2,ed];simp_arith[hj];rfl
def Fk{r:Rw}(h:vF r.hd r.cs)(f:Bool):cW [some (.val (.tup r.d) f)]=.ok (.val (.str (T r.tx)) true []):=by rw[ui];exact L4 h f
section
variable{sv ov:Int}{qs:List Pq}
def HC(c:Int)(q:Pq):Nat:=(dg c 1151 q.2.length).toNat
def io(lot at' c:Int)(orow onm:List Nat)(k:Nat)(q:Pq):PT:=(if lot=5/\(k:Int)=at' then onm else q.1.cps.toList,if lot=3/\(k:Int)=at' then(q.2.map Rw.tx).set (HC c q) orow else q.2.map Rw.tx)
structure Q_(orow onm:List Nat):Prop where
 rl:orow.length<=36
 nl:onm.length<=9
 rf:uB orow=true
 nf:uB onm=true
def IX{r:Rw}(h:vF r.hd r.cs):uB r.tx=true:=by
 unfold uB;rw[c8];intro c hc;cases q:wZ c with
 |false=>rfl
 |true=>
  have:c=44\/c=58\/c=59:=by simpa[wZ]using q
  exact(EZ h (by lia) hc).elim
def IY{l:List Nat}(h:Nm l):uB l=true:=by
 unfold uB;rw[c8];intro c hc;cases q:wZ c with
 |false=>rfl
 |true=>
  have:c=44\/c=58\/c=59:=by simpa[wZ]using q
  have:=h.2 c hc;lia
def L5{lot at' c:Int}{orow onm:List Nat}(od:Q_ orow onm){k:Nat}{q:Pq}(h:HF q):Ml (io lot at' c orow onm k q)/\(io lot at' c orow onm k q).1.length<=9/\(∀r∈(io lot at' c orow onm k q).2,r.length<=36)/\(io lot at' c orow onm k q).2.length=q.2.length:=by
 have hl:(io lot at' c orow onm k q).2.length=q.2.length:=by unfold io;dsimp only;split<;>simp
 have hr:∀r∈(io lot at' c orow onm k q).2,r=orow\/∃x∈q.2,r=x.tx:=λr hr=>by
  unfold io at hr;dsimp only at hr;split at hr
  .rcases List.mem_or_eq_of_mem_set hr with hr|hr
   .obtain⟨x,hx,rfl⟩:=eR.mp hr;exact .inr ⟨x,hx,rfl⟩
   .exact .inl hr
  .obtain⟨x,hx,rfl⟩:=eR.mp hr;exact .inr ⟨x,hx,rfl⟩
 have hn:(io lot at' c orow onm k q).1=onm\/(io lot at' c orow onm k q).1=q.1.cps.toList:=by unfold io;dsimp only;split<;>simp
 refine⟨⟨?_,?_,λr h'=>?_⟩,?_,λr h'=>?_,hl⟩
 .rcases hn with e|e<;>rw[e]
  .exact od.nf
  .exact IY h.nm
 .intro z;have e1:=ly List.length z;rw[hl,mW]at e1;have:=h.ne;lia
 .rcases hr r h' with rfl|⟨x,hx,rfl⟩
  .exact od.rf
  .exact IX (h.rw x hx)
 .rcases hn with e|e<;>rw[e]
  .exact od.nl
  .have:=h.nm.1.2;lia
 .rcases hr r h' with rfl|⟨x,hx,rfl⟩
  .exact od.rl
  .exact(h.rw x hx).FD
def AM{rs:List (List Nat)}(h:∀r∈rs,r.length<=36)(hl:rs.length<=300):(jn [44,32] rs).length<=11400:=by have:=qR [44,32] (n:=36) rs h;simp only[i8,mW]at this;have h2:rs.length*(36+(0+1+1))<=300*(36+(0+1+1)):=nR _ hl;lia
def IZ(p:PT):l9 p=p.1++[58,32]++jn [44,32] p.2:=by unfold l9;rw[ff _ _ (by simp)];rfl
def L6{p:PT}(h1:p.1.length<=9)(h2:∀r∈p.2,r.length<=36)(h3:p.2.length<=300):(l9 p).length<=11500:=by have:=AM h2 h3;rw[IZ];simp;lia
def L7{rs:List (List Nat)} (hn:rs≠[]) (h:∀r∈rs,r.length<=36) (hl:rs.length<=300) (r:R) (hr:r.d=.lst (rs.map λp=>.str (T p))):qz ", " r=.ok (.val (.str (T (jn [44,32] rs))) true []):=by
 refine qT (n:=36) hr LA hn h ?_;have h2:rs.length*(36+[44,32].length)<=300*(36+[44,32].length):=nR _ hl;have:300*(36+[44,32].length)<=1000000:=by decide
 lia
def i7(lot at' c:Int)(orow onm:List Nat)(qs:List Pq)(k:Nat):PT:=match qs[k]? with
 |some q=>io lot at' c orow onm k q
 |none=>([],[])
def yG(h:zL sv ov qs){lot at' c:Int}{orow onm:List Nat}(od:Q_ orow onm)
 (ho:fH [.int c]=.ok (.val (.str (T orow)) true [])) (hm:bI [D.str "",.str "F",.str "f1",.str "abcdefghi",.str "f f",.str "main ",.str "1"] (dg c 1123 7)=some (.str (T onm))) {v:List Nat}:∃x y z:Option Sl,
 de (gN 5) true gn ((List.range qs.length).map λk=>D.int (k:Nat)) [some (.val (cK sv ov qs) false),some (.val (.int lot) false),some (.val (.int c) false),some (.own [.str (T v)] true),some (.val (.int at') true),none,none,none]
  = .ok (.nx [some (.val (cK sv ov qs) false),some (.val (.int lot) false),some (.val (.int c) false),some (.own ((v::(List.range qs.length).map λk=>l9 (i7 lot at' c orow onm qs k)).map λp=>.str (T p)) true),some (.val (.int at') true),x,y,z]):=by
 have h4:=h.n4;obtain⟨bn,lp,x,y,z,rfl⟩:=lf (λk:Nat=>D.int k) (asg:=gN 5) (fr:=true) (body:=gn) (List.range qs.length) (λpre env=>∃x y z:Option Sl,env=[some (.val (cK sv ov qs) false),some (.val (.int lot) false),some (.val (.int c) false),some (.own ((v::pre.map λk=>l9 (i7 lot at' c orow onm qs k)).map λp=>.str (T p)) true),some (.val (.int at') true),x,y,z]) (List.range qs.length) []
  [some (.val (cK sv ov qs) false),some (.val (.int lot) false),some (.val (.int c) false),some (.own [.str (T v)] true),some (.val (.int at') true),none,none,none] rfl ⟨_,_,_,rfl⟩
  (by
    rintro pre post k env ea ⟨x,y,z,rfl⟩;have hk:k<qs.length:=kR.mp (by rw[ea];simp);have hpl:pre.length+post.length+1=qs.length:=by have:=ly List.length ea;simp at this;lia
    have eq:qs[k]?=some qs[k]:=by simp[hk]
    have hq:qs[k]∈qs:=SX hk;generalize qs[k]=q at eq hq;have hw:=h.qw q hq;have hle:=hw.le;have hne:=hw.ne;have ep:i7 lot at' c orow onm qs k=io lot at' c orow onm k q:=by unfold i7;rw[eq]
    obtain⟨w1,w2,w3,w4⟩:=L5 (lot:=lot) (at':=at') (c:=c) od (k:=k) hw;have iq:oP (cK sv ov qs) (.int 2) false []=.ok (.val (.lst (qs.map qD)) false []):=by unfold cK;simp_arith[show bI [D.int sv,D.int ov,D.lst (qs.map qD)] 2=some (.lst (qs.map qD))from rfl]
    have ek:bI (qs.map qD) (k:Int)=some (qD q):=by unfold bI;rw[oq (by lia) (by rw[cc];lia)];simp[eq]
    have j1:oP (qD q) (.int 1) false []=.ok (.val (.lst (q.2.map λr=>.tup r.d)) false []):=by unfold qD;simp_arith[show bI [D.str q.1,D.lst (q.2.map λr=>.tup r.d)] 1=some (.lst (q.2.map λr=>.tup r.d))from rfl]
    have j0:oP (qD q) (.int 0) false []=.ok (.val (.str q.1) true []):=by unfold qD;simp_arith[show bI [D.str q.1,D.lst (q.2.map λr=>.tup r.d)] 0=some (.str q.1)from rfl]
    have hcm:=λ(E:En)=>bX (mk:=λd=>gN 0 d false (c_ E 1 [])) (test:=λ_=>.ok true) (elt:=cW) (λr:Rw=>D.tup r.d) (λr=>.val (.str (T r.tx)) true []) q.2
     λr hr=>⟨[some (.val (.tup r.d) false)],rfl,rfl,Fk (hw.rw r hr) false⟩
    have f2:D.aL (q.2.map λr=>D.str (T r.tx))=true:=aX _ _ λ_=>rfl;have edd:(q.2.map λr=>D.str (T r.tx))=(q.2.map Rw.tx).map λp=>D.str (T p):=by rw[iA];rfl
    have eacc:((v::(pre++[k]).map λk=>l9 (i7 lot at' c orow onm qs k)).map λp=>D.str (T p))=((v::pre.map λk=>l9 (i7 lot at' c orow onm qs k)).map λp=>D.str (T p))++[.str (T (l9 (io lot at' c orow onm k q)))]:=by simp[ep]
    have hp:((v::pre.map λk=>l9 (i7 lot at' c orow onm qs k)).map λp=>D.str (T p)).length<1000000:=by rw[cc,i8,cc];lia
    generalize((v::pre.map λk=>l9 (i7 lot at' c orow onm qs k)).map λp=>D.str (T p))=acc at *;have cell0:∀(x y z:Option Sl),x=x:=λ_ _ _=>rfl
    let E0:Option Sl->Option Sl->En:=λy z=>[some (.val (cK sv ov qs) false),some (.val (.int lot) false),some (.val (.int c) false),some (.own acc true),some (.val (.int at') true),some (.val (.int (k:Nat)) true),y,z]
    have s1:bN 6 (gU 1 [] (nn (v2 l7 (v2 l7 (aR 0 (vC (.int 2))) (ak 5)) (vC (.int 1)))) (gN 0) (λ_=>.ok true) cW) (E0 y z)=.ok (.nx (E0 (some (.own ((q.2.map Rw.tx).map λp=>D.str (T p)) true)) z)):=by show bN 6 _ [some (.val (cK sv ov qs) false),some (.val (.int lot) false),some (.val (.int c) false),some (.own acc true),some (.val (.int at') true),some (.val (.int (k:Nat)) true),y,z]=.ok (.nx [some (.val (cK sv ov qs) false),some (.val (.int lot) false),some (.val (.int c) false),some (.own acc true),some (.val (.int at') true),some (.val (.int (k:Nat)) true),some (.own ((q.2.map Rw.tx).map λp=>D.str (T p)) true),z]);simp_arith[bB,iq,ek,wJ,j1];rw[bZ (by rw[cc];lia) (hcm _),fC (λr:Rw=>D.str (T r.tx)),bO f2,edd];simp_arith
    have sI:∀n:Int,n=3\/n=5->∀y z,h_ (vB (v2 ga (ak 1) (vC (.int n)))) (vB (v2 ga (ak 5) (ak 4))) (E0 y z)=.ok (decide (lot=n/\(k:Int)=at')):=λn hn y z=>by
     show h_ _ _ [some (.val (cK sv ov qs) false),some (.val (.int lot) false),some (.val (.int c) false),some (.own acc true),some (.val (.int at') true),some (.val (.int (k:Nat)) true),y,z]=_;by_cases hl:lot=n
     .by_cases ha:(k:Int)=at'
      .have b1:(lot==n)=true:=by rw[hl];simp
       have b2:(((k:Nat):Int)==at')=true:=by rw[ha];simp
       rw[dM (⟨hl,ha⟩ : lot=n/\(k:Int)=at')];simp_arith[bu,aY,b1,b2]
      .have b1:(lot==n)=true:=by rw[hl];simp
       have b2:(((k:Nat):Int)==at')=false:=jE.mpr ha;rw[fZ (λz:lot=n/\(k:Int)=at'=>ha z.2)];simp_arith[bu,aY,b1,b2]
     .have b1:(lot==n)=false:=jE.mpr hl;rw[fZ (λz:lot=n/\(k:Int)=at'=>hl z.1)];simp_arith[bu,aY,b1]
    have s2:∀bd,aI (fj (h_ (vB (v2 ga (ak 1) (vC (.int 3)))) (vB (v2 ga (ak 5) (ak 4)))) (xP 6 (aQ ay (ac (ak 2) (ac (vC (.int 1151)) (ac (gy cr (ac (ak 6) au)) au)))) (aQ fH (ac (ak 2) au))) bw) bd (E0 (some (.own ((q.2.map Rw.tx).map λp=>D.str (T p)) true)) z)=bd (E0 (some (.own ((io lot at' c orow onm k q).2.map λp=>D.str (T p)) true)) z):=λbd=>by
     have t:=sI 3 (.inl rfl) (some (.own ((q.2.map Rw.tx).map λp=>D.str (T p)) true)) z;by_cases hc:lot=3/\(k:Int)=at'
     .rw[dM hc]at t;have e2:(io lot at' c orow onm k q).2=(q.2.map Rw.tx).set (HC c q) orow:=dL hc;rw[e2,List.map_set];refine(kD ?_);rw[zl,t];have hn0:(0:Int)<q.2.length:=by lia
      have d0:=dj c 1151 q.2.length hn0;have d1:=dn c 1151 q.2.length hn0;have cj:((((q.2.map Rw.tx).map λp=>D.str (T p)).length:Nat):Int)=q.2.length:=by simp
      have ex:pZ ((q.2.map Rw.tx).map λp=>D.str (T p)).length (dg c 1151 q.2.length)=some (HC c q):=oq d0 (by rw[cj];exact d1);generalize((q.2.map Rw.tx).map λp=>D.str (T p))=L at *;show(Res.ok true).bind (Mw _ _ [some (.val (cK sv ov qs) false),some (.val (.int lot) false),some (.val (.int c) false),some (.own acc true),some (.val (.int at') true),some (.val (.int (k:Nat)) true),some (.own L true),z])=.ok (.nx [some (.val (cK sv ov qs) false),some (.val (.int lot) false),some (.val (.int c) false),some (.own acc true),some (.val (.int at') true),some (.val (.int (k:Nat)) true),some (.own (L.set (HC c q) (.str (T orow))) true),z]);simp_arith[cj,aU c 1151 q.2.length (by decide) hn0,ho,Eb,Au,D7,As,x8,D8 ex]
     .rw[fZ hc]at t;have e2:(io lot at' c orow onm k q).2=q.2.map Rw.tx:=f7 hc;rw[e2,lw t]
    have s3:∀y,bN 7 (v2 l7 (v2 l7 (aR 0 (vC (.int 2))) (ak 5)) (vC (.int 0))) (E0 y z)=.ok (.nx (E0 y (some (.val (.str q.1) true)))):=λy=>by show bN 7 _ [some (.val (cK sv ov qs) false),some (.val (.int lot) false),some (.val (.int c) false),some (.own acc true),some (.val (.int at') true),some (.val (.int (k:Nat)) true),y,z]=.ok (.nx [some (.val (cK sv ov qs) false),some (.val (.int lot) false),some (.val (.int c) false),some (.own acc true),some (.val (.int at') true),some (.val (.int (k:Nat)) true),y,some (.val (.str q.1) true)]);simp_arith[bB,iq,ek,wJ,j0]
    have s4:∀y bd,aI (fj (h_ (vB (v2 ga (ak 1) (vC (.int 5)))) (vB (v2 ga (ak 5) (ak 4)))) (bN 7 (v2 l7 (dt (ac (vC (.str "")) (ac (vC (.str "F")) (ac (vC (.str "f1")) (ac (vC (.str "abcdefghi")) (ac (vC (.str "f f")) (ac (vC (.str "main ")) (ac (vC (.str "1")) au)))))))) (aQ ay (ac (ak 2) (ac (vC (.int 1123)) (ac (vC (.int 7)) au)))))) bw) bd (E0 y (some (.val (.str q.1) true)))=bd (E0 y (some (.val (.str (T (io lot at' c orow onm k q).1)) true))):=λy bd=>by
     have t:=sI 5 (.inr rfl) y (some (.val (.str q.1) true));by_cases hc:lot=5/\(k:Int)=at'
     .rw[dM hc]at t;have e2:(io lot at' c orow onm k q).1=onm:=dL hc;rw[e2];refine(kD ?_);rw[zl,t];show(Res.ok true).bind (Mw _ _ [some (.val (cK sv ov qs) false),some (.val (.int lot) false),some (.val (.int c) false),some (.own acc true),some (.val (.int at') true),some (.val (.int (k:Nat)) true),y,some (.val (.str q.1) true)])=.ok (.nx [some (.val (cK sv ov qs) false),some (.val (.int lot) false),some (.val (.int c) false),some (.own acc true),some (.val (.int at') true),some (.val (.int (k:Nat)) true),y,some (.val (.str (T onm)) true)]);simp_arith[aU c 1123 7 (by decide) (by decide),hm]
     .rw[fZ hc]at t;have e2:(io lot at' c orow onm k q).1=q.1.cps.toList:=f7 hc;rw[e2,lw t,<- mM]
    have hj:=L7 w1.ne w3 (by lia) (.val (.lst ((io lot at' c orow onm k q).2.map λp=>D.str (T p))) true [6]) rfl;have hrl:=AM w3 (by lia);generalize io lot at' c orow onm k q=P at *;have ad1:bU (.val (.str (T P.1)) true []) (.val (.str ": ") true [])=.ok (.val (.str (T (P.1++[58,32]))) true []):=by rw[Lz];exact cn (by simp;lia)
    have ad2:bU (.val (.str (T (P.1++[58,32]))) true []) (.val (.str (T (jn [44,32] P.2))) true [])=.ok (.val (.str (T (l9 P))) true []):=by rw[cn (by simp;lia),IZ]
    refine⟨E0 y z,[some (.val (cK sv ov qs) false),some (.val (.int lot) false),some (.val (.int c) false),some (.own (acc++[.str (T (l9 P))]) true),some (.val (.int at') true),some (.val (.int (k:Nat)) true),some (.own (P.2.map λp=>D.str (T p)) true),some (.val (.str (T P.1)) true)],rfl,?_,_,_,_,by rw[eacc]⟩;unfold gn;rw[kD s1,s2,kD (s3 _),s4];generalize(P.2.map λp=>D.str (T p))=L at *;show vX 3 _ [some (.val (cK sv ov qs) false),some (.val (.int lot) false),some (.val (.int c) false),some (.own acc true),some (.val (.int at') true),some (.val (.int (k:Nat)) true),some (.own L true),some (.val (.str (T P.1)) true)]=_;simp_arith[ad1,su,pI,hj,ad2,n_,hp])
 exact⟨x,y,z,lp⟩
def Pd{c:kX}(h:Wk c):zC c.l c.w=true:=by have h1:=h.Pu;rw[EA c.l c.w (by have:=h.len;lia)]at h1;injection h1 with h1;injection h1 with h1 _ _;injection h1 with h1
def Fo{h:Str}{cs:List kX}(r:vF h cs){p:Fm}(e1:p.1=h)(e2:p.2=cs.map kX.l):fB (mQ h cs) p=true:=by
 have es:ji [32] (mQ h cs)=rS h cs:=ue 32 [] _ (by unfold rS;simp) (r.no (.inl (by decide))) (by decide) (by simp);unfold fB Iz;rw[es,e1,e2];rw[cH,cH,cI,cI,c8];refine⟨by unfold rS;simp,by unfold rS;rfl,λq hq=>?_⟩;have e3:(rS h cs).tail=cs.map kX.w:=rfl;rw[e3]at hq;obtain⟨c,hc,rfl⟩ : ∃c∈cs,q=(c.l,c.w):=by rw[List.zip_map']at hq;obtain⟨c,hc,rfl⟩:=eR.mp hq;exact⟨c,hc,rfl⟩
 exact Pd (r.wk c hc)
def Pe{r:Rw}(h:vF r.hd r.cs):nH r.tx=true:=by
 cases q:nH r.tx with
 |true=>rfl
 |false=>
  exfalso;obtain⟨p,hp,e1,e2⟩ : ∃p∈rowsG,p.1=r.hd/\p.2=r.cs.map kX.l:=by
   cases r
   .exact⟨("skip",[]),by decide,rfl,rfl⟩
   all_goals first
    |exact⟨("set",["V","N"]),by decide,rfl,rfl⟩
    |exact⟨("any",["V"]),by decide,rfl,rfl⟩
    |exact⟨("turn",["V"]),by decide,rfl,rfl⟩
    |exact⟨("if",["V","N","K"]),by decide,rfl,rfl⟩
    |exact⟨("go",["K"]),by decide,rfl,rfl⟩
    |exact⟨("fork",["K"]),by decide,rfl,rfl⟩
    |exact⟨("call",["F"]),by decide,rfl,rfl⟩
    |exact⟨("back",[]),by decide,rfl,rfl⟩
    |exact⟨("stop",[]),by decide,rfl,rfl⟩
  have:=Fo h e1 e2;unfold nH at q;cases z:rowsG.find? (fB r.tx)with
  |some y=>rw[z]at q;cases q
  |none=>have:=List.find?_eq_none.mp z p hp;exact this (Fo h e1 e2)
def Q3{l:List Nat}(h:Nm l):ub l=true:=by unfold ub AC B7;rw[cH,cH,cI,cI,c8];refine⟨h.1,λx hx=>?_⟩;have:=h.2 x hx;rw[dM this.1,dM this.2];rfl
def L8(q:Pq):PT:=(q.1.cps.toList,q.2.map Rw.tx)
def Pf{q:Pq}(h:HF q):Ml (L8 q):=⟨IY h.nm,by intro z;have e1:=ly List.length z;have e2:=h.ne;simp only[L8,cc,mW]at e1;lia,λr hr=>by obtain⟨x,hx,rfl⟩:=eR.mp hr;exact IX (h.rw x hx)⟩
def I0(h:zL sv ov qs):uB (mQ "values" (uj sv ov))=true:=by
 have r:=E4 h.s1 h.s2 h.o1 h.o2;unfold uB;rw[c8];intro c hc;cases q:wZ c with
 |false=>rfl
 |true=>
  have:c=44\/c=58\/c=59:=by simpa[wZ]using q
  rcases lv hc with z|⟨p,hp,z⟩
  .simp at z;lia
  .exact(r.no (by lia) p hp z).elim
theorem I_(sv ov:Int)(qs:List Pq):w6 sv ov qs=jn [59,32] (mQ "values" (uj sv ov)::(qs.map L8).map l9):=by unfold w6;rw[iA];rfl
def Pg(h:zL sv ov qs):uZ (w6 sv ov qs)=true:=by rw[I_,II (by intro z;have e1:=ly List.length z;have e2:=h.n0;rw[cc,mW]at e1;lia) (I0 h) λp hp=>by obtain⟨q,hq,rfl⟩:=eR.mp hp;exact Pf (h.qw q hq)];rw[cH,c8];refine⟨Fo (E4 h.s1 h.s2 h.o1 h.o2) rfl rfl,λp hp=>?_⟩;obtain⟨q,hq,rfl⟩:=eR.mp hp;rw[cH,c8];refine⟨Q3 (h.qw q hq).nm,λr hr=>?_⟩;obtain⟨x,hx,rfl⟩:=eR.mp hr;exact Pe ((h.qw q hq).rw x hx)
theorem L9(qs:List Pq){lot at' c:Int}{orow onm:List Nat}(h3:lot≠3)(h5:lot≠5):((List.range qs.length).map λk=>l9 (i7 lot at' c orow onm qs k))=(qs.map L8).map l9:=by
 rw[iA];apply SJ
 intro k;rw[kE,kE];by_cases hk:k<qs.length
 .have e:qs[k]?=some qs[k]:=by simp[hk]
  rw[List.getElem?_range hk,e];show some (l9 (i7 lot at' c orow onm qs k))=some (l9 (L8 qs[k]));have:i7 lot at' c orow onm qs k=L8 qs[k]:=by unfold i7;rw[e];show io lot at' c orow onm k qs[k]=_;unfold io L8;rw[f7 (λz=>h5 z.1),f7 (λz=>h3 z.1)]
  rw[this]
 .rw[Sh (by simp;lia),Sh (by lia)];rfl
def BX(h:zL sv ov qs)(lot c:Int):∃x:List Nat,x.length<=60000/\gi [cK sv ov qs,.int lot,.int c]=.ok (.val (.str (T x)) true [])/\
 (lot=3\/lot=4\/lot=5->uZ x=false)/\(lot≠3->lot≠4->lot≠5->x=w6 sv ov qs):=by
 have h4:=h.n4;have hn0:(0:Int)<qs.length:=by have:=h.n0;lia
 obtain⟨orow,or1,or2⟩:=zJ c;have or3:=LY orow or1;rw[cH,cH,cI]at or3;obtain⟨ofi,of1,of2⟩:=wN c;have of3:=LZ ofi of1;rw[cH,cH,cI]at of3;obtain⟨onm,on1,on2⟩:=mz (xs:=oddN) (dj c 1123 7 (by decide)) (by show dg c 1123 7<7;exact dn c 1123 7 (by decide));have on3:=L0 onm (gK on2);rw[cH,cH,cI]at on3;have od:Q_ orow.cps.toList onm.cps.toList:=⟨or3.2.2,on3.2.2,or3.1,on3.1⟩;have hm:bI [D.str "",.str "F",.str "f1",.str "abcdefghi",.str "f f",.str "main ",.str "1"] (dg c 1123 7)=some (.str (T onm.cps.toList)):=by
  rw[<- mM];have:bI (oddN.map D.str) (dg c 1123 7)=some (.str onm):=by rw[m7,on1];rfl
  exact this
 have d0:=dj c 1129 qs.length hn0;have d1:=dn c 1129 qs.length hn0;obtain⟨v,hv0⟩ : ∃v:List Nat,v=if lot=4 then ofi.cps.toList else mQ "values" (uj sv ov):=⟨_,rfl⟩;obtain⟨at',ha0⟩ : ∃a:Int,a=dg c 1129 qs.length:=⟨_,rfl⟩;obtain⟨x,y,z,lp⟩:=yG h (lot:=lot) (at':=at') (c:=c) od (by rw[<- mM];exact or2) hm (v:=v);have hv:uB v=true/\v.length<=36:=by
  rw[hv0];split
  .exact⟨of3.1,of3.2.2⟩
  .exact⟨I0 h,(E4 h.s1 h.s2 h.o1 h.o2).FD⟩
 have hpt:∀k∈List.range qs.length,∃q∈qs,qs[k]?=some q/\i7 lot at' c orow.cps.toList onm.cps.toList qs k=io lot at' c orow.cps.toList onm.cps.toList k q:=λk hk=>by
  have hk:=kR.mp hk;have e:qs[k]?=some qs[k]:=by simp[hk]
  exact⟨qs[k],SX hk,e,by unfold i7;rw[e]⟩
 have hlp:∀p∈v::(List.range qs.length).map λk=>l9 (i7 lot at' c orow.cps.toList onm.cps.toList qs k),p.length<=11500:=λp hp=>by
  rcases cJ.mp hp with rfl|hp
  .lia
  .obtain⟨k,hk,rfl⟩:=eR.mp hp;obtain⟨q,hq,_,e⟩:=hpt k hk;rw[e];obtain⟨w1,w2,w3,w4⟩:=L5 (lot:=lot) (at':=at') (c:=c) od (k:=k) (h.qw q hq);exact L6 w2 w3 (by have:=(h.qw q hq).le;lia)
 have hnn:(v::(List.range qs.length).map λk=>l9 (i7 lot at' c orow.cps.toList onm.cps.toList qs k)).length<=5:=by simp;lia
 refine⟨jn [59,32] (v::(List.range qs.length).map λk=>l9 (i7 lot at' c orow.cps.toList onm.cps.toList qs k)),?_,?_,λhlot=>?_,λl3 l4 l5=>?_⟩
 .have:=qR [59,32] (n:=11500) _ hlp;have h2:(v::(List.range qs.length).map λk=>l9 (i7 lot at' c orow.cps.toList onm.cps.toList qs k)).length*(11500+[59,32].length)<=5*(11500+[59,32].length):=nR _ hnn;have:5*(11500+[59,32].length)<=60000:=by decide
  lia
 .have hj:=λ(f:Bool)(al:List Nat)=>qT (x:="; ") (sep:=[59,32]) (n:=11500) (r:=.val (.lst ((v::(List.range qs.length).map λk=>l9 (i7 lot at' c orow.cps.toList onm.cps.toList qs k)).map λp=>D.str (T p))) f al) rfl LB (by simp) hlp (by have h2:(v::(List.range qs.length).map λk=>l9 (i7 lot at' c orow.cps.toList onm.cps.toList qs k)).length*(11500+[59,32].length)<=5*(11500+[59,32].length):=nR _ hnn;exact jQ h2 (by decide));generalize((v::(List.range qs.length).map λk=>l9 (i7 lot at' c orow.cps.toList onm.cps.toList qs k)).map λp=>D.str (T p))=L at lp hj;obtain⟨a,ha⟩ : ∃a:Nat,sv=a:=⟨sv.toNat,by have:=h.s1;lia⟩;obtain⟨b,hb⟩ : ∃b:Nat,ov=b:=⟨ov.toNat,by have:=h.o1;lia⟩;have a3:a<1000:=by have:=h.s2;lia
  have b3:b<1000:=by have:=h.o2;lia
  have hla:=(ng a3).2.2.2;have hlb:=(ng b3).2.2.2;have va:("values " : Str)=T (("values" : Str).cps.toList++[32]):=by decide
  have vl:(("values" : Str).cps.toList++[32]).length=7:=by decide
  have ks:∀f al,uJ [.val (.int sv) f al]=.ok (.val (.str (T (m_ a))) true []):=λf al=>by rw[ha];exact AH a3 f al
  have ko:∀f al,uJ [.val (.int ov) f al]=.ok (.val (.str (T (m_ b))) true []):=λf al=>by rw[hb];exact AH b3 f al
  have etx:mQ "values" (uj sv ov)=("values" : Str).cps.toList++[32]++m_ a++[32]++m_ b:=by
   unfold mQ rS uj;have ea:(cN "S" sv).w=m_ a:=by show m_ sv.toNat=m_ a;rw[ha];rfl
   have eb:(cN "S" ov).w=m_ b:=by show m_ ov.toNat=m_ b;rw[hb];rfl
   rw[c7,c7,rD,ea,eb];simp[jn]
  have ad1:bU (.val (.str "values ") true []) (.val (.str (T (m_ a))) true [])=.ok (.val (.str (T (("values" : Str).cps.toList++[32]++m_ a))) true []):=by rw[va];exact cn (by lia)
  have ad2:bU (.val (.str (T (("values" : Str).cps.toList++[32]++m_ a))) true []) (.val (.str " ") true [])=.ok (.val (.str (T (("values" : Str).cps.toList++[32]++m_ a++[32]))) true []):=by rw[BN];exact cn (by rw[kK,vl];simp;lia)
  have ad3:bU (.val (.str (T (("values" : Str).cps.toList++[32]++m_ a++[32]))) true []) (.val (.str (T (m_ b))) true [])=.ok (.val (.str (T (mQ "values" (uj sv ov)))) true []):=by rw[etx];exact cn (by rw[kK,kK,vl];simp;lia)
  have i0:oP (cK sv ov qs) (.int 0) false []=.ok (.val (.int sv) true []):=by unfold cK;simp_arith[show bI [D.int sv,D.int ov,D.lst (qs.map qD)] 0=some (.int sv)from rfl]
  have i1:oP (cK sv ov qs) (.int 1) false []=.ok (.val (.int ov) true []):=by unfold cK;simp_arith[show bI [D.int sv,D.int ov,D.lst (qs.map qD)] 1=some (.int ov)from rfl]
  have i2:oP (cK sv ov qs) (.int 2) false []=.ok (.val (.lst (qs.map qD)) false []):=by unfold cK;simp_arith[show bI [D.int sv,D.int ov,D.lst (qs.map qD)] 2=some (.lst (qs.map qD))from rfl]
  have hln:(((qs.map qD).length:Nat):Int)=(qs.length:Nat):=by simp
  have dk:=aU c 1129 qs.length (by decide) hn0;rw[<- ha0]at dk;by_cases l4:lot=4
  .have b4:(lot==4)=true:=by rw[l4];rfl
   have ev:v=ofi.cps.toList:=by rw[hv0,dL l4]
   rw[ev]at lp;rw[<- mM]at lp;simp_arith[gi,jU,bB,i0,i1,i2,ks,ko,ad1,ad2,ad3,bu,aY,b4,of2,hln,dk];rw[nB (by lia) (by lia),jK,kG,iD];simp_arith[lp,su,pI,hj]
  .have b4:(lot==4)=false:=jE.mpr l4;have ev:v=mQ "values" (uj sv ov):=by rw[hv0,f7 l4]
   rw[ev]at lp;simp_arith[gi,jU,bB,i0,i1,i2,ks,ko,ad1,ad2,ad3,bu,aY,b4,of2,hln,dk];rw[nB (by lia) (by lia),jK,kG,iD];simp_arith[lp,su,pI,hj]
 .have er:((List.range qs.length).map λk=>l9 (i7 lot at' c orow.cps.toList onm.cps.toList qs k))=((List.range qs.length).map (i7 lot at' c orow.cps.toList onm.cps.toList qs)).map l9:=by rw[iA];rfl
  rw[er,II (by intro z;have e1:=ly List.length z;rw[cc,SK,mW]at e1;lia) hv.1 λp hp=>by obtain⟨k,hk,rfl⟩:=eR.mp hp;obtain⟨q,hq,_,e⟩:=hpt k hk;rw[e];exact(L5 od (h.qw q hq)).1];have hat:at'.toNat∈List.range qs.length:=kR.mpr (by lia);have hatI:((at'.toNat:Nat):Int)=at':=by lia
  rcases hlot with l3|l4|l5
  .have:((List.range qs.length).map (i7 lot at' c orow.cps.toList onm.cps.toList qs)).all (λp=>ub p.1&&p.2.all nH)=false:=by
    rw[To];refine⟨_,eR.mpr ⟨at'.toNat,hat,rfl⟩,?_⟩;obtain⟨q,hq,_,e⟩:=hpt _ hat;rw[e];have e2:(io lot at' c orow.cps.toList onm.cps.toList at'.toNat q).2=(q.2.map Rw.tx).set (HC c q) orow.cps.toList:=dL ⟨l3,hatI⟩;rw[e2];have hq0:(0:Int)<q.2.length:=by have:=(h.qw q hq).ne;lia
    have j0:=dj c 1151 q.2.length hq0;have j1:=dn c 1151 q.2.length hq0;have hj:HC c q<(q.2.map Rw.tx).length:=by unfold HC;rw[cc];lia
    have:((q.2.map Rw.tx).set (HC c q) orow.cps.toList).all nH=false:=by rw[To];refine⟨orow.cps.toList,jO.mpr ⟨HC c q,by rw[f9 hj]⟩,?_⟩;have:=or3.2.1;simpa using this
    rw[this];simp
   rw[this,So]
  .have ev:v=ofi.cps.toList:=by rw[hv0,dL l4]
   have:=of3.2.1;rw[ev,show fB ofi.cps.toList uY=false from by simpa using this];rfl
  .have:((List.range qs.length).map (i7 lot at' c orow.cps.toList onm.cps.toList qs)).all (λp=>ub p.1&&p.2.all nH)=false:=by rw[To];refine⟨_,eR.mpr ⟨at'.toNat,hat,rfl⟩,?_⟩;obtain⟨q,hq,_,e⟩:=hpt _ hat;rw[e];have e2:(io lot at' c orow.cps.toList onm.cps.toList at'.toNat q).1=onm.cps.toList:=dL ⟨l5,hatI⟩;rw[e2];have:=on3.2.1;rw[show ub onm.cps.toList=false from by simpa using this];simp
   rw[this,So]
 .have ev:v=mQ "values" (uj sv ov):=by rw[hv0,f7 l4]
  rw[L9 qs l3 l5,ev,<- I_]
end
noncomputable def oddS:Str:="!\"#$&'()*+-./<=>?@ABCDEFGHIJKLMNOPQRSTUVWXYZ[\\]^_`{|}~\n\t"
def L_:∀c∈oddS.cps.toList,(yK c ||(ug c ||(wZ c || decide (c=32))))=false:=by decide +kernel
def uk:oddS.length<=1000000/\0<oddS.cps.toList.length:=by decide +kernel
def Mb{x:List Nat}{i:Nat}{c:Nat}(hl:x.length<=90000)(h:x[i]?=some c){f:Bool}{al:List Nat}:oP (.str (T x)) (.int (i:Nat)) f al=.ok (.val (.str (T [c])) true []):=by refine t8 (by rw[cC];lia) ?_;have hi:=(c5.mp h).1;show bI x (i:Int)=some c;unfold bI;rw[oq (by lia) (by lia)];simpa using h
def Ph(c:Nat):PY (T [c]) "0123456789"=ug c:=by
 unfold PY;rw[show T [c]=(⟨#[c]⟩ : Str)from rfl,PySem.StrLaws.found_one];have e:("0123456789" : Str).cps.toList=[48,49,50,51,52,53,54,55,56,57]:=by decide
 rw[e];unfold ug;rw[rJ];simp only[cI,cH,cJ,iy,pK];constructor
 .intro h;rcases h with h|h|h|h|h|h|h|h|h|h<;>lia
 .intro h;lia
def Pi{a b:Str}{f g:Bool}{al bl:List Nat}:GJ (.val (.str a) f al) (.val (.str b) g bl)=.ok (.val (.bl (PY a b)) true []):=(rfl)
def Fp(c:Nat):dq (.str (T [c])) (.str " ")=decide (c=32):=by
 rw[Rv];have:(" " : Str).cps.toList=[32]:=by decide
 rw[this];simp
section
variable{x:List Nat}{c:Int}
def Pj(hl:x.length<=80000):∃y:List Nat,y.length<=90000/\uZ y=false/\cf [.str (T x),.int 0,.int c]=.ok (.val (.str (T y)) true []):=by
 have hn:(0:Int)<(x.length:Int)+1:=by lia
 have d0:=dj c 9973 ((x.length:Int)+1) hn;have d1:=dn c 9973 ((x.length:Int)+1) hn;obtain⟨a,ha⟩ : ∃a:Nat,dg c 9973 ((x.length:Int)+1)=a:=⟨_,(Int.toNat_of_nonneg d0).symm⟩;have hoN:(0:Int)<(oddS.length:Int):=by have:=uk.2;show(0:Int)<(oddS.cps.size:Int);simp at this ⊢;lia
 have k0:=dj c 1123 oddS.length hoN;have k1:=dn c 1123 oddS.length hoN;obtain⟨s,e1,e2⟩:=mz (xs:=oddS.cps.toList) k0 (by rw[Sr];exact k1);have hs:=L_ s (gK e2);have ix:=λ(f:Bool)(al:List Nat)=>t8 (f:=f) (al:=al) uk.1 e1;have lx:=qP (z:=T x) (by rw[cC];lia);rw[cC]at lx;have lo:=qP (z:=oddS) uk.1;have s1:=yq x a (by lia);have s2:=pw x a (by lia);have hT:(T x).length<=1000000:=by rw[cC];lia
 have a1:(x.take a).length+[s].length<=1000000:=by simp;lia
 have a2:(x.take a++[s]).length+(x.drop a).length<=1000000:=by simp;lia
 refine⟨x.take a++[s]++x.drop a,by simp;lia,?_,?_⟩
 .refine ss ?_;rw[kI];exact EJ hs
 .have od:("!\"#$&'()*+-./<=>?@ABCDEFGHIJKLMNOPQRSTUVWXYZ[\\]^_`{|}~\n\t" : Str)=oddS:=rfl;have dk1:=aU c 9973 ((x.length:Int)+1) (by decide) hn;rw[ha]at dk1;simp_arith[cf,gk,bu,aY,od,lx,dk1,lo,aU c 1123 oddS.length (by decide) hoN,hT,s1,s2,ix,cn a1,cn a2]
noncomputable def Fq(x:List Nat)(i:Nat):Bool:=decide (x[i]?=some 32)
def yL(x:List Nat)(k:Nat):Bool:=decide (x[k]?=some 32)&&(match x[k+1]? with|some d=>ug d|none=>false)
def vD(hl:x.length<=80000){E:En}(hE:c_ E 1 [0]=[none,some (.val (.str (T x)) false)]):cy (fun d=>gN 0 d true (c_ E 1 [0])) iZ i4 ((List.range x.length).map fun k=>D.int (k:Nat))=.ok (((List.range x.length).filter (Fq x)).map fun k=>.val (.int (k:Nat)) true []):=by
 rw[hE];refine lc (fun k:Nat=>D.int (k:Nat)) (Fq x) (fun k=>.val (.int (k:Nat)) true []) _ fun k hk=>⟨[some (.val (.int (k:Nat)) true),some (.val (.str (T x)) false)],rfl,?_,fun _=>?_⟩
 .have hk:=kR.mp hk;have e:x[k]?=some x[k]:=by simp[hk]
  have ix:=fun(f:Bool)(al:List Nat)=>Mb (f:=f) (al:=al) (by lia) e;have:Fq x k=decide (x[k]=32):=by unfold Fq;rw[e];simp
  rw[this];simp_arith[iZ,ix,bu,Fp]
 .simp_arith[i4]
def BY(hl:x.length<=80000){E:En}(hE:c_ E 1 [0]=[none,some (.val (.str (T x)) false)]):cy (fun d=>gN 0 d true (c_ E 1 [0])) gq iY ((List.range (x.length-1)).map fun k=>D.int (1+(k:Nat)))=.ok (((List.range (x.length-1)).filter (yL x)).map fun k=>.val (.int (1+(k:Nat))) true []):=by
 rw[hE];refine lc (fun k:Nat=>D.int (1+(k:Nat))) (yL x) (fun k=>.val (.int (1+(k:Nat))) true []) _ fun k hk=>⟨[some (.val (.int (1+(k:Nat))) true),some (.val (.str (T x)) false)],rfl,?_,fun _=>?_⟩
 .have hk:=kR.mp hk;have e:x[k]?=some (x[k]'(by lia)):=by simp
  have e':x[k+1]?=some (x[k+1]'(by lia)):=by simp
  generalize x[k]'(by lia)=a at e;generalize x[k+1]'(by lia)=b at e';have ix:=fun(f:Bool)(al:List Nat)=>Mb (f:=f) (al:=al) (by lia) e;have ix':=fun(f:Bool)(al:List Nat)=>Mb (f:=f) (al:=al) (by lia) e';have h1:(1+(k:Int)-1)=(k:Nat):=by lia
  have h2:(1+(k:Int))=((k+1:Nat):Int):=by lia
  have:yL x k=(decide (a=32)&&ug b):=by unfold yL;rw[e,e'];simp
  rw[this];by_cases q:a=32
  .rw[dM q,pP];have sq:dq (.str (T [a])) (.str " ")=true:=by rw[Fp,dM q]
   rw[h2]at h1;rw[h2];simp_arith[gq,h1,ix,ix',bu,sq,Pi,Ph]
  .rw[fZ q,lW];have sq:dq (.str (T [a])) (.str " ")=false:=by rw[Fp,fZ q]
   rw[h2]at h1;rw[h2];simp_arith[gq,h1,ix,ix',bu,sq]
 .simp_arith[iY]
theorem Fs{p:Nat->Bool}{n:Nat}{c:Int}(h:∃k,k<n/\p k=true){g:Nat->D}:∃k,p k=true/\k<n/\(0:Int)<(((List.range n).filter p).length:Int)/\bI (((List.range n).filter p).map g) (dg c 9973 (((List.range n).filter p).length:Int))=some (g k):=by
 obtain⟨j,hj,hp⟩:=h;have hm:j∈(List.range n).filter p:=q_.mpr ⟨kR.mpr hj,hp⟩;have h0:0<((List.range n).filter p).length:=List.length_pos_of_mem hm;have h0':(0:Int)<(((List.range n).filter p).length:Int):=by lia
 obtain⟨k,e1,e2⟩:=mz (xs:=(List.range n).filter p) (dj c 9973 _ h0') (dn c 9973 _ h0');have hk:=q_.mp (gK e2);exact⟨k,hk.2,kR.mp hk.1,h0',by rw[m7,e1];rfl⟩
def Ft(hl:x.length<=80000)(hx:uZ x=true)(hb:∃k:Nat,x[k]?=some 32){lot:Int}(hlot:lot=1\/lot=2):∃y:List Nat,y.length<=90000/\uZ y=false/\cf [.str (T x),.int lot,.int c]=.ok (.val (.str (T y)) true []):=by
 obtain⟨k,kp,kn,n0,ea⟩:=Fs (p:=Fq x) (n:=x.length) (c:=c) (g:=λk=>D.int (k:Nat)) (by obtain⟨k,e⟩:=hb;exact⟨k,(c5.mp e).1,dM e⟩);have ek:x[k]?=some 32:=wV kp;have ed:x.drop k=32::x.drop (k+1):=by obtain⟨h1,h2⟩:=c5.mp ek;rw[<- h2];exact pQ h1
 have ex:x=x.take k++32::x.drop (k+1):=by rw[<- ed,Sg]
 have lx:=qP (z:=T x) (by rw[cC];lia);rw[cC]at lx;have hT:(T x).length<=1000000:=by rw[cC];lia
 have s1:=yq x k (by lia);have s2:=pw x k (by lia);have s3:Txt.slice (T x) (some ((k:Int)+1)) none=T (x.drop (k+1)):=pw x (k+1) (by lia);have a1:(x.take k).length+[32].length<=1000000:=by simp;lia
 have a2:(x.take k++[32]).length+(x.drop k).length<=1000000:=by simp;lia
 have a3:(x.take k).length+(x.drop (k+1)).length<=1000000:=by simp;lia
 have fl:D.aL (((List.range x.length).filter (Fq x)).map λk=>D.int (k:Nat))=true:=aX _ _ λ_=>rfl;have hln:((((((List.range x.length).filter (Fq x)).map λk=>D.int (k:Nat)).length):Nat):Int)=(((List.range x.length).filter (Fq x)).length:Int):=by simp
 have dk:=aU c 9973 (((List.range x.length).filter (Fq x)).length:Int) (by decide) n0;have hx1:-4611686018427387904<=(x.length:Int):=by lia
 have hx2:(x.length:Int)<4611686018427387904:=by lia
 rcases hlot with rfl|rfl
 .refine⟨x.take k++[32]++x.drop k,by simp;lia,ss ?_,?_⟩
  .rw[ed,kI];exact EK
  .simp_arith[cf,gk,bu,aY,lx];rw[nB hx1 hx2,jK,kG,iD];rw[bZ (by rw[cc,SK];lia) (vD hl rfl),fC (λk:Nat=>D.int (k:Nat)),tR];generalize(((List.range x.length).filter (Fq x)).map λk=>D.int (k:Nat))=L at *;rw[bO fl];simp_arith[hln,dk,ea,bu,aY,hT,s1,s2,BN,cn a1,cn a2]
 .refine⟨x.take k++x.drop (k+1),by simp;lia,?_,?_⟩
  .rw[ex]at hx;exact LJ hx
  .simp_arith[cf,gk,bu,aY,lx];rw[nB hx1 hx2,jK,kG,iD];rw[bZ (by rw[cc,SK];lia) (vD hl rfl),fC (λk:Nat=>D.int (k:Nat)),tR];generalize(((List.range x.length).filter (Fq x)).map λk=>D.int (k:Nat))=L at *;rw[bO fl];simp_arith[hln,dk,ea,bu,aY,hT,s1,s3,cn a3]
def HD(n:Nat):jo 1 n=(List.range n).map λk=>.int (1+(k:Nat)):=rfl
def Pk(hl:x.length<=80000)(hb:∃k,yL x k=true):∃y:List Nat,y.length<=90000/\uZ y=false/\cf [.str (T x),.int 8,.int c]=.ok (.val (.str (T y)) true []):=by
 obtain⟨k,kp,kn,n0,ea⟩:=Fs (p:=yL x) (n:=x.length-1) (c:=c) (g:=λk=>D.int (1+(k:Nat))) (by
  obtain⟨k,e⟩:=hb;refine⟨k,?_,e⟩;unfold yL at e;cases q:x[k+1]? with
  |none=>rw[q]at e;simp at e
  |some d=>have:=(c5.mp q).1;lia)
 obtain⟨d,e1,e2,hd⟩ : ∃d,x[k]?=some 32/\x[k+1]?=some d/\ug d=true:=by
  unfold yL at kp;rw[cH,cI]at kp;cases q:x[k+1]? with
  |none=>rw[q]at kp;exact absurd kp.2 (by simp)
  |some d=>rw[q]at kp;exact⟨d,kp.1,rfl,kp.2⟩
 obtain⟨h1,h2⟩:=c5.mp e1;obtain⟨h3,h4⟩:=c5.mp e2;have et:x.take (k+1)=x.take k++[32]:=by rw[List.take_succ,e1];rfl
 have ed:x.drop (k+1)=d::x.drop (k+2):=by rw[<- h4];exact pQ h3
 have lx:=qP (z:=T x) (by rw[cC];lia);rw[cC]at lx;have hT:(T x).length<=1000000:=by rw[cC];lia
 have hk:(1+(k:Int))=((k+1:Nat):Int):=by lia
 have s1:Txt.slice (T x) none (some (1+(k:Int)))=T (x.take (k+1)):=by rw[hk];exact yq x (k+1) (by lia)
 have s2:Txt.slice (T x) (some (1+(k:Int))) none=T (x.drop (k+1)):=by rw[hk];exact pw x (k+1) (by lia)
 have z0:("0" : Str)=T [48]:=by decide
 have a1:(x.take (k+1)).length+[48].length<=1000000:=by simp;lia
 have a2:(x.take (k+1)++[48]).length+(x.drop (k+1)).length<=1000000:=by simp;lia
 have fl:D.aL (((List.range (x.length-1)).filter (yL x)).map λk=>D.int (1+(k:Nat)))=true:=aX _ _ λ_=>rfl;have hln:((((((List.range (x.length-1)).filter (yL x)).map λk=>D.int (1+(k:Nat))).length):Nat):Int)=(((List.range (x.length-1)).filter (yL x)).length:Int):=by simp
 have dk:=aU c 9973 (((List.range (x.length-1)).filter (yL x)).length:Int) (by decide) n0;have hx1:-4611686018427387904<=(x.length:Int):=by lia
 have hx2:(x.length:Int)<4611686018427387904:=by lia
 have hm:((x.length:Int)-1).toNat=x.length-1:=by lia
 refine⟨x.take (k+1)++[48]++x.drop (k+1),by simp;lia,ss ?_,?_⟩
 .rw[et,ed];have:=BQ (a:=x.take k) (b:=x.drop (k+2)) hd;simpa using this
 .simp_arith[cf,gk,bu,aY,lx];rw[Ol (by decide) (by decide) hx1 hx2,jK,hm,HD];rw[bZ (by rw[cc,SK];lia) (BY hl rfl),fC (λk:Nat=>D.int (1+(k:Nat))),tR];generalize(((List.range (x.length-1)).filter (yL x)).map λk=>D.int (1+(k:Nat)))=L at *;rw[bO fl];simp_arith[hln,dk,ea,bu,aY,hT,s1,s2,z0,cn a1,cn a2]
end
noncomputable def tabX:List (Str×Str):=[("NoText","text"),("Twice","twice"),("NoName","name"),("NoValue","value"),("NoRow","row")]
def Fu(i m:Nat)(F:List D->Res R)(fs:En->Res (List R))(tab:List (Str×Str))(env:En):rA i m F fs tab env=(fs env).P3.bind λrs=>rz i m tab rs env (F (rs.map R.d)):=(rfl)
def Fv{i m:Nat}{tab:List (Str×Str)}{rs:List R}{env:En}{r:R}(h:i<env.length):rz i m tab rs env (.ok r)=.ok (.nx (put env i (j9 rs r))):=dL h
def Fw{d:D}{c s:Str}(h:dH [d]=.exc c)(ht:tabX.lookup c=some s):gJ [d]=.ok (.val (.tup [.str s,.gP]) true []):=by
 have st:rA 2 1 dH (ac (ak 0) au) tabX [some (.val d false),some (.val (.str "none") true),some (.val .gP true)]=.ok (.nx [some (.val d false),some (.val (.str s) true),some (.val .gP true)]):=by rw[Fu];show rz 2 1 tabX [l6 d false []] [some (.val d false),some (.val (.str "none") true),some (.val .gP true)] (dH [(l6 d false []).d])=_;rw[x9,h];show(match tabX.lookup c with|some s=>_|none=>_)=_;rw[ht];rfl
 have st:rA 2 1 dH (ac (ak 0) au) [("NoText","text"),("Twice","twice"),("NoName","name"),("NoValue","value"),("NoRow","row")] [some (.val d false),some (.val (.str "none") true),some (.val .gP true)]=.ok (.nx [some (.val d false),some (.val (.str s) true),some (.val .gP true)]):=st;simp_arith[gJ,mJ,st]
def Mc{d:D}{D':D}{al:List Nat}(hf:D'.flat=false)(h:dH [d]=.ok (.val D' true al)):gJ [d]=.ok (.val (.tup [.str "none",D']) true [2]):=by
 have st:rA 2 1 dH (ac (ak 0) au) tabX [some (.val d false),some (.val (.str "none") true),some (.val .gP true)]=.ok (.nx [some (.val d false),some (.val (.str "none") true),some (.pW D')]):=by rw[Fu];show rz 2 1 tabX [l6 d false []] [some (.val d false),some (.val (.str "none") true),some (.val .gP true)] (dH [(l6 d false []).d])=_;rw[x9,h];rw[Fv (by show 2<3;decide),mw _ hf];rfl
 have st:rA 2 1 dH (ac (ak 0) au) [("NoText","text"),("Twice","twice"),("NoName","name"),("NoValue","value"),("NoRow","row")] [some (.val d false),some (.val (.str "none") true),some (.val .gP true)]=.ok (.nx [some (.val d false),some (.val (.str "none") true),some (.pW D')]):=st;simp_arith[gJ,mJ,st];have:(D.tup [.str "none",D']).flat=false:=by simp only[kg,a_,mx,hf,pP,lW]
 rw[show l6 (.tup [.str "none",D']) true [2]=.val (.tup [.str "none",D']) true [2]from f7 (by rw[this];decide)]
def HE{d:D}(h:Af "str" d=false):dH [d]=.exc "NoText":=by
 have hf:cB [d]=.exc "NoText":=by simp_arith[cB,gH,x9,h]
 simp_arith[dH,om,x9,hf]
def mS{x:List Nat}(hl:x.length<=90000)(h:uZ x=false):dH [.str (T x)]=.exc "NoText":=by have hf:=EH x hl h;simp_arith[dH,om,hf]
def Pl(q:Pq):Pr:=(q.1,q.2.map Rw.d)
def Pm(sv ov:Int)(qs:List Pq):Iv sv ov (qs.map Pl)=cK sv ov qs:=by
 unfold Iv cK;have:(qs.map Pl).map t7=qs.map qD:=by rw[iA];refine AO λq _=>?_;show t7 (Pl q)=qD q;unfold t7 Pl qD;simp only[iA];rfl
 rw[this]
def Pn{sv ov:Int}{qs:List Pq}(h:zL sv ov qs):iQ [cK sv ov qs,cK sv ov qs]=.ok (.val (.bl true) true []):=by
 have:=Hk sv ov (qs.map Pl) (by rw[cc];have:=h.n4;lia) λp hp=>by
  obtain⟨q,hq,rfl⟩:=eR.mp hp;have w:=h.qw q hq;refine⟨?_,by show 0<(q.2.map Rw.d).length;rw[cc];exact w.ne,by show(q.2.map Rw.d).length<=400;rw[cc];have:=w.le;lia,λr hr=>?_⟩
  .show q.1.cps.size<=20;have:=w.nm.1.2;simp at this;lia
  .obtain⟨x,_,rfl⟩:=eR.mp hr;exact mO x
 rw[Pm]at this;exact this
section
variable{e0 e1 e2 e3:Option Sl}{P:D}{lot:Int}
def jZ{d:D}{f:Bool}{e7:Option Sl}(hl:lot<=8)(h:dH [d]=.exc "NoText"):pk [e0,e1,e2,e3,some (.val P true),some (.val (.int lot) true),some (.val d f),e7,none]=.ok (.rt (.val (.bl true) true [])):=by have rx:=Fw (s:="text") h rfl;have dl:decide (lot<=8)=true:=dM hl;have t0:dq (.str "text") (.str "none")=false:=rfl;have t1:dq (.str "text") (.str "text")=true:=fm _;have a0:bI [D.str "text",.gP] 0=some (.str "text"):=rfl;simp_arith[pk,dl,pj,x9,rx,ph,iI,t0,a0,bu,t1]
end
section
variable{sv ov:Int}{qs:List Pq}{c:Int}{e0 e2 e3:Option Sl}
def Po(h:zL sv ov qs):yL (w6 sv ov qs) 6=true:=by
 obtain⟨a,ha⟩ : ∃a:Nat,sv=a:=⟨sv.toNat,by have:=h.s1;lia⟩;have h1:=h.s1;have h2:=h.s2;have hz:a=1\/a=2\/a=3\/a=4:=by lia
 obtain⟨d,hd,ed⟩ : ∃d,ug d=true/\m_ a=[d]:=by
  rcases hz with rfl|rfl|rfl|rfl
  .exact⟨49,rfl,by decide⟩
  .exact⟨50,rfl,by decide⟩
  .exact⟨51,rfl,by decide⟩
  .exact⟨52,rfl,by decide⟩
 have ev:("values" : Str).cps.toList=[118,97,108,117,101,115]:=by decide
 obtain⟨r,er⟩ : ∃r,mQ "values" (uj sv ov)=[118,97,108,117,101,115,32,d]++r:=by
  unfold mQ rS uj;have ea:(cN "S" sv).w=[d]:=by show m_ sv.toNat=_;rw[ha,<- ed];rfl
  rw[c7,c7,rD,ea,ev];exact⟨_,rfl⟩
 obtain⟨r',er'⟩ : ∃r',w6 sv ov qs=[118,97,108,117,101,115,32,d]++r':=by
  unfold w6;cases hq:qs.map vA with
  |nil=>exact⟨r,er⟩
  |cons p ps=>rw[ff _ _ (by simp),er];exact⟨_,by rw[kI,kI]⟩
 rw[er'];unfold yL;show(decide (some 32=some 32)&&ug d)=true;rw[hd];rfl
def Md(a:Str):∃D0:D,(∀(f g:Bool)(al bl:List Nat),tB (.val (.str a) f al) (.val (.str a) g bl)=.ok (.sy D0))/\Af "str" D0=false:=⟨.j7 [.inl (.inr a)] [.str a],λ_ _ _ _=>rfl,rfl⟩
def Pp{t:Nat}(h:t≠0):tabX.lookup (cls t)=some (E5 t):=by
 rcases t with _|_|_|_|_|t
 .exact(h rfl).elim
 .decide
 .decide
 .decide
 .decide
 .show tabX.lookup ("NoRow" : Str)=some ("row" : Str);decide
def Fx(h:zL sv ov qs){lot:Int}(h0:0<=lot)(h9:lot<=9):e_ [e0,some (.val (.int c) true),e2,e3,some (.val (cK sv ov qs) true),some (.val (.int lot) true),none,none,none]=.ok (.rt (.val (.bl true) true [])):=by
 obtain⟨x,xl,px,p3,p9⟩:=BX h lot c;have wo:=Hz h;have fp:=Pg h;have pf:=bB sv ov qs;have hlot:lot=0\/lot=1\/lot=2\/lot=3\/lot=4\/lot=5\/lot=6\/lot=7\/lot=8\/lot=9:=by lia
 have hct:=Po h;have hbl:∃k:Nat,(w6 sv ov qs)[k]?=some 32:=by refine⟨6,?_⟩;unfold yL at hct;rw[cH,cI]at hct;exact hct.1
 rcases hlot with rfl|rfl|rfl|rfl|rfl|rfl|rfl|rfl|rfl|rfl
 .obtain⟨y,yl,yf,ys⟩:=Pj (x:=x) (c:=c) (by lia);simp_arith[e_,pf,px,gx,wo,gv,bu,aY,ys,gu,eG];exact jZ (by decide) (mS yl yf)
 .have ex:=p9 (by decide) (by decide) (by decide);subst ex;obtain⟨y,yl,yf,ys⟩:=Ft (x:=w6 sv ov qs) (c:=c) (by lia) fp hbl (lot:=1) (.inl rfl);simp_arith[e_,pf,px,gx,wo,gv,bu,aY,ys,gu,eG];exact jZ (by decide) (mS yl yf)
 .have ex:=p9 (by decide) (by decide) (by decide);subst ex;obtain⟨y,yl,yf,ys⟩:=Ft (x:=w6 sv ov qs) (c:=c) (by lia) fp hbl (lot:=2) (.inr rfl);simp_arith[e_,pf,px,gx,wo,gv,bu,aY,ys,gu,eG];exact jZ (by decide) (mS yl yf)
 .simp_arith[e_,pf,px,gx,wo,gv,bu,aY,gu,eG];exact jZ (by decide) (mS (by lia) (p3 (.inl rfl)))
 .simp_arith[e_,pf,px,gx,wo,gv,bu,aY,gu,eG];exact jZ (by decide) (mS (by lia) (p3 (.inr (.inl rfl))))
 .simp_arith[e_,pf,px,gx,wo,gv,bu,aY,gu,eG];exact jZ (by decide) (mS (by lia) (p3 (.inr (.inr rfl))))
 .obtain⟨s,hs,es⟩:=yF c;have hb:=L1 s hs;rw[cH,cI]at hb;simp_arith[e_,pf,px,gx,wo,gv,bu,aY,gu,es,eG];refine jZ (by decide) ?_;rw[mM s];exact mS (by lia) (by have:=hb.1;simpa using this)
 .have d0:=dj c 1123 6 (by decide);have d1:=dn c 1123 6 (by decide);have dk:=aU c 1123 6 (by decide) (by decide);have hz:dg c 1123 6=0\/dg c 1123 6=1\/dg c 1123 6=2\/dg c 1123 6=3\/dg c 1123 6=4\/dg c 1123 6=5:=by lia
  obtain⟨D0,ed,f0⟩:=Md (T x);have fs:D.aL [D.gP,.int 7,.bl true,.lst [.str (T x)],.tup [.str (T x)],D0]=false:=by simp only[a_,my,lW,So]
  have step:∀d:D,bI [D.gP,.int 7,.bl true,.lst [.str (T x)],.tup [.str (T x)],D0] (dg c 1123 6)=some d->Af "str" d=false->e_ [e0,some (.val (.int c) true),e2,e3,some (.val (cK sv ov qs) true),some (.val (.int 7) true),none,none,none]=.ok (.rt (.val (.bl true) true [])):=λd ha hd=>by
   have rn:=HE hd;cases hf:d.flat with
   |true=>simp_arith[e_,pf,px,gx,wo,gv,bu,aY,gu,eG,dk,ed,fs,ha,hf];exact jZ (by decide) rn
   |false=>simp_arith[e_,pf,px,gx,wo,gv,bu,aY,gu,eG,dk,ed,fs,ha,hf];exact jZ (by decide) rn
  rcases hz with z|z|z|z|z|z<;>rw[z]at step
  .exact step _ rfl rfl
  .exact step _ rfl rfl
  .exact step _ rfl rfl
  .exact step _ rfl rfl
  .exact step _ rfl rfl
  .exact step _ rfl f0
 .have ex:=p9 (by decide) (by decide) (by decide);subst ex;obtain⟨y,yl,yf,ys⟩:=Pk (x:=w6 sv ov qs) (c:=c) (by lia) ⟨6,hct⟩;simp_arith[e_,pf,px,gx,wo,gv,bu,aY,ys,gu,eG];exact jZ (by decide) (mS yl yf)
 .have ex:=p9 (by decide) (by decide) (by decide);subst ex;have rb:=LR h;have sm:=Pn h;have tf:(D.tup [.str "none",cK sv ov qs]).flat=false:=by simp only[kg,a_,mx,pf,pP,lW]
  have a0:bI [D.str "none",cK sv ov qs] 0=some (.str "none"):=rfl;have a1:bI [D.str "none",cK sv ov qs] 1=some (cK sv ov qs):=rfl;simp_arith[e_,pf,px,gx,wo,gv,bu,aY,gu,eG,pk];by_cases hc:LQ sv ov qs=0
  .rw[dL hc]at rb;have rk:=Mc pf rb;rw[hc];simp_arith[pj,rk,mw,tf,ph,iI,IV,yh,a0,a1,bu,fm,pf,sm]
  .rw[f7 hc]at rb;have rx:=Fw rb (Pp hc);generalize LQ sv ov qs=t at *;have b0:bI [D.str (E5 t),.gP] 0=some (.str (E5 t)):=rfl;simp_arith[pj,rx,ph,iI,IU hc,b0,bu,fm]
end
def Ps(ns:List Int):(dN ns (some 2) (some 62)).length<=60:=by unfold dN;have h1:HT.sIx ns.length 0 (some 2)=min 2 ns.length:=HT.sIx_nat ns.length 0 2;have h2:HT.sIx ns.length ns.length (some 62)=min 62 ns.length:=HT.sIx_nat ns.length ns.length 62;rw[h1,h2,lC];lia
def Pt(m:Nat)(h:m<13):∃lot:Int,(0<=lot/\lot<=9)/\bI [(0:Int),1,2,3,3,3,4,5,6,7,8,8,9] ((m:Nat):Int)=some lot:=by
 have:∀k:Fin 13,∃lot∈([0,1,2,3,4,5,6,7,8,9]:List Int),(0<=lot/\lot<=9)/\bI [(0:Int),1,2,3,3,3,4,5,6,7,8,8,9] ((k.val:Nat):Int)=some lot:=by decide
 obtain⟨lot,_,h2⟩:=this ⟨m,h⟩;exact⟨lot,h2⟩
def Me(ns:List Int)(hl:ns.length<=63):yi [.lst (ns.map .int)]=.ok (.val (.bl true) true []):=by
 obtain⟨names,n1,n2,_,n4,_,en⟩:=Ex (qL ns 1);obtain⟨nm,m1,m2,m3,m4⟩:=Fi (qL ns 0) names n1 n2 n4;have v1:=dj (qL ns 0) 1033 4 (by decide);have v2:=dj (qL ns 0) 1039 4 (by decide);have u1:=dn (qL ns 0) 1033 4 (by decide);have u2:=dn (qL ns 0) 1039 4 (by decide);obtain⟨qs,q1,q2,eq⟩:=Fh (cs:=dN ns (some 2) (some 62)) (seed:=qL ns 0) (sv:=1+dg (qL ns 0) 1033 4) (ov:=1+dg (qL ns 0) 1039 4) m1 m2 m3 (by lia) (by lia) (by lia) (by lia) (Ps ns);have hql:qs.length=nm.length:=by rw[<- q1];simp
 have W:zL (1+dg (qL ns 0) 1033 4) (1+dg (qL ns 0) 1039 4) qs:=⟨by lia,by lia,by lia,by lia,by lia,by lia,q2⟩;have sf:D.aL (names.map D.str)=true:=aX _ _ λ_=>rfl;have sf':D.aL (nm.map D.str)=true:=aX _ _ λ_=>rfl;have hcut:dN (ns.map D.int) (some 2) (some 62)=(dN ns (some 2) (some 62)).map D.int:=Ek D.int ns _ _;have w0:=dj (qL ns 0) 1117 24 (by decide);have w1:=dn (qL ns 0) 1117 24 (by decide);obtain⟨lot,h0,h9,hlot⟩ : ∃lot:Int,0<=lot/\lot<=9/\bI [D.int 0,.int 1,.int 2,.int 3,.int 3,.int 3,.int 4,.int 5,.int 6,.int 7,.int 8,.int 8,.int 9] (if dg (qL ns 0) 1117 24<12 then dg (qL ns 0) 1117 24 else 12)=some (.int lot):=by
  obtain⟨m,hm,hm2⟩ : ∃m:Nat,m<13/\(if dg (qL ns 0) 1117 24<12 then dg (qL ns 0) 1117 24 else 12)=(m:Int):=by
   split
   .exact⟨(dg (qL ns 0) 1117 24).toNat,by lia,by lia⟩
   .exact⟨12,by decide,rfl⟩
  rw[hm2];obtain⟨lot,h1,h2⟩:=Pt m hm;refine⟨lot,h1.1,h1.2,?_⟩;have:=m7 D.int [(0:Int),1,2,3,3,3,4,5,6,7,8,8,9] ((m:Nat):Int);rw[h2]at this;exact this
 have pf:=bB (1+dg (qL ns 0) 1033 4) (1+dg (qL ns 0) 1039 4) qs;simp_arith[yi,Ir,zw ns 0 (by decide),Aw,aU (qL ns 0) 1033 4 (by decide) (by decide),aU (qL ns 0) 1039 4 (by decide) (by decide)];have fl:D.aL (names.map D.str)=true:=sf;rcases m4 with m4|m4
 .simp_arith[wn,zw ns 1 (by decide),en,tM,sf,m4,sf'];simp_arith[wl,hcut,jq,eq,mw,pf];simp_arith[wj,wb,Ea,aU (qL ns 0) 1117 24 (by decide) (by decide),hlot];rw[Fx W h0 h9];rfl
 .simp_arith[wn,zw ns 1 (by decide),en,tM,sf,m4,xY];simp_arith[wl,hcut,jq,eq,mw,pf];simp_arith[wj,wb,Ea,aU (qL ns 0) 1117 24 (by decide) (by decide),hlot];rw[Fx W h0 h9];rfl
end W
open PySem PySem.W PyProof.Rows
set_option maxRecDepth 100000 in
set_option maxHeartbeats 0 in
theorem PySem.Challenge.cw_callwalk_k53_refused_programs_holds : PySem.Challenge.rw_callwalk_k53_refused_programs.Holds := by
 w_on;refine PySem.W.Ed ?_
 k_fill
 refine' L2.CJ (l:=PySem.Challenge.rw_callwalk_k53_refused_programs) (n:=63) (k:=10) (x:="_law_script") (CX:=fun w=>L2.jI PySem.Challenge.pw_callwalk_k53_refused_programs w) (sp:=fun _=>L3.PU W.yi) (kts:=_) rfl (by decide) rfl ⟨rfl,by decide,by decide⟩ (fun w h Y=>PySem.W.kIn_of Y) ?kT ?kN ?kL ?F ?S ?C
 case kT=>
  intro w
  refine' W.Ow ?g_VALUES ?d_VALUES ?g_ROWS ?d_ROWS ?d_ROWS_0 ?d_ROWS_1 ?d_ROWS_2 ?d_ROWS_3 ?d_ROWS_4 ?d_ROWS_5 ?d_ROWS_6 ?d_ROWS_7 ?d_ROWS_8 ?d_ROWS_9
  (case g_VALUES=>k_is)
  (case d_VALUES=>k_is)
  (case g_ROWS=>k_is)
  (case d_ROWS=>k_is)
  (case d_ROWS_0=>k_is)
  (case d_ROWS_1=>k_is)
  (case d_ROWS_2=>k_is)
  (case d_ROWS_3=>k_is)
  (case d_ROWS_4=>k_is)
  (case d_ROWS_5=>k_is)
  (case d_ROWS_6=>k_is)
  (case d_ROWS_7=>k_is)
  (case d_ROWS_8=>k_is)
  (case d_ROWS_9=>k_is)
 case kN=>exact⟨by decide,by decide⟩
 case kL=>exact fun w=>⟨by rfl,by rfl,by rfl⟩
 case F=>
  intro w mg fa h KX G hmg hT
  refine W.Lf hmg ?_
  refine' Exists.imp (fun _ _=>True.intro) (W.Ov KX G (L2.Ge hT) ?a_a ?l_a ?c_a ?a_b ?l_b ?c_b ?a_c ?l_c ?c_c ?a_d ?l_d ?c_d ?a_e ?l_e ?c_e ?a_f ?l_f ?c_f ?a_g ?l_g ?c_g ?a_h ?l_h ?c_h ?a_i ?l_i ?c_i ?a_j ?l_j ?c_j ?a_k ?l_k ?c_k ?a_l ?l_l ?c_l ?a_m ?l_m ?c_m ?a_n ?l_n ?c_n ?a_o ?l_o ?c_o ?a_p ?l_p ?c_p ?a_q ?l_q ?c_q ?a_r ?l_r ?c_r ?a_s ?l_s ?c_s ?a_t ?l_t ?c_t ?a_u ?l_u ?c_u ?a_v ?l_v ?c_v ?a_w ?l_w ?c_w ?a_x ?l_x ?c_x ?a_y ?l_y ?c_y ?a_z ?l_z ?c_z ?a_A ?l_A ?c_A ?a_B ?l_B ?c_B ?a_C ?l_C ?c_C ?a_D ?l_D ?c_D ?a_E ?l_E ?c_E ?a_F ?l_F ?c_F ?z_all ?z_bool ?z_enumerate ?z_int ?z_isinstance ?z_len ?z_list ?z_min ?z_range ?z_set ?z_str ?z_tuple ?z_zip ?b_NoText ?e_NoText ?b_Twice ?e_Twice ?b_NoName ?e_NoName ?b_NoValue ?e_NoValue ?b_NoRow ?e_NoRow ?jH ?kJ ?jG ?iR ?kH ?g_PLACES ?d_PLACES ?m_PLACES_0 ?m_PLACES_1 ?g_VALUES ?q_VALUES ?g_ROWS ?q_ROWS ?n_PLACES)
  (case a_a=>k_is)
  (case l_a=>k_is)
  (case c_a=>k_is)
  (case a_b=>k_is)
  (case l_b=>k_is)
  (case c_b=>k_is)
  (case a_c=>k_is)
  (case l_c=>k_is)
  (case c_c=>k_is)
  (case a_d=>k_is)
  (case l_d=>k_is)
  (case c_d=>k_is)
  (case a_e=>k_is)
  (case l_e=>k_is)
  (case c_e=>k_is)
  (case a_f=>k_is)
  (case l_f=>k_is)
  (case c_f=>k_is)
  (case a_g=>k_is)
  (case l_g=>k_is)
  (case c_g=>k_is)
  (case a_h=>k_is)
  (case l_h=>k_is)
  (case c_h=>k_is)
  (case a_i=>k_is)
  (case l_i=>k_is)
  (case c_i=>k_is)
  (case a_j=>k_is)
  (case l_j=>k_is)
  (case c_j=>k_is)
  (case a_k=>k_is)
  (case l_k=>k_is)
  (case c_k=>k_is)
  (case a_l=>k_is)
  (case l_l=>k_is)
  (case c_l=>k_is)
  (case a_m=>k_is)
  (case l_m=>k_is)
  (case c_m=>k_is)
  (case a_n=>k_is)
  (case l_n=>k_is)
  (case c_n=>k_is)
  (case a_o=>k_is)
  (case l_o=>k_is)
  (case c_o=>k_is)
  (case a_p=>k_is)
  (case l_p=>k_is)
  (case c_p=>k_is)
  (case a_q=>k_is)
  (case l_q=>k_is)
  (case c_q=>k_is)
  (case a_r=>k_is)
  (case l_r=>k_is)
  (case c_r=>k_is)
  (case a_s=>k_is)
  (case l_s=>k_is)
  (case c_s=>k_is)
  (case a_t=>k_is)
  (case l_t=>k_is)
  (case c_t=>k_is)
  (case a_u=>k_is)
  (case l_u=>k_is)
  (case c_u=>k_is)
  (case a_v=>k_is)
  (case l_v=>k_is)
  (case c_v=>k_is)
  (case a_w=>k_is)
  (case l_w=>k_is)
  (case c_w=>k_is)
  (case a_x=>k_is)
  (case l_x=>k_is)
  (case c_x=>k_is)
  (case a_y=>k_is)
  (case l_y=>k_is)
  (case c_y=>k_is)
  (case a_z=>k_is)
  (case l_z=>k_is)
  (case c_z=>k_is)
  (case a_A=>k_is)
  (case l_A=>k_is)
  (case c_A=>k_is)
  (case a_B=>k_is)
  (case l_B=>k_is)
  (case c_B=>k_is)
  (case a_C=>k_is)
  (case l_C=>k_is)
  (case c_C=>k_is)
  (case a_D=>k_is)
  (case l_D=>k_is)
  (case c_D=>k_is)
  (case a_E=>k_is)
  (case l_E=>k_is)
  (case c_E=>k_is)
  (case a_F=>k_is)
  (case l_F=>k_is)
  (case c_F=>k_is)
  (case z_all=>k_is)
  (case z_bool=>k_is)
  (case z_enumerate=>k_is)
  (case z_int=>k_is)
  (case z_isinstance=>k_is)
  (case z_len=>k_is)
  (case z_list=>k_is)
  (case z_min=>k_is)
  (case z_range=>k_is)
  (case z_set=>k_is)
  (case z_str=>k_is)
  (case z_tuple=>k_is)
  (case z_zip=>k_is)
  (case b_NoText=>k_is)
  (case e_NoText=>k_exc)
  (case b_Twice=>k_is)
  (case e_Twice=>k_exc)
  (case b_NoName=>k_is)
  (case e_NoName=>k_exc)
  (case b_NoValue=>k_is)
  (case e_NoValue=>k_exc)
  (case b_NoRow=>k_is)
  (case e_NoRow=>k_exc)
  (case jH=>rfl)
  (case kJ=>rfl)
  (case jG=>rfl)
  (case iR=>rfl)
  (case kH=>rfl)
  (case g_PLACES=>k_is)
  (case d_PLACES=>k_is)
  (case m_PLACES_0=>rfl)
  (case m_PLACES_1=>rfl)
  (case g_VALUES=>k_is)
  (case q_VALUES=>exact⟨_,_,rfl,L2.dZ (List.mem_of_getElem? (i:=0) rfl) hT,⟨_,_,rfl,rfl,⟨_,_,rfl,rfl,⟨_,_,rfl,rfl,rfl⟩⟩⟩⟩)
  (case g_ROWS=>k_is)
  (case q_ROWS=>exact⟨_,_,rfl,L2.dZ (List.mem_of_getElem? (i:=1) rfl) hT,⟨_,_,rfl,⟨_,_,rfl,L2.dZ (List.mem_of_getElem? (i:=2) rfl) hT,⟨_,_,rfl,rfl,rfl⟩⟩,⟨_,_,rfl,⟨_,_,rfl,L2.dZ (List.mem_of_getElem? (i:=3) rfl) hT,⟨_,_,rfl,rfl,⟨_,_,rfl,rfl,⟨_,_,rfl,rfl,rfl⟩⟩⟩⟩,⟨_,_,rfl,⟨_,_,rfl,L2.dZ (List.mem_of_getElem? (i:=4) rfl) hT,⟨_,_,rfl,rfl,⟨_,_,rfl,rfl,rfl⟩⟩⟩,⟨_,_,rfl,⟨_,_,rfl,L2.dZ (List.mem_of_getElem? (i:=5) rfl) hT,⟨_,_,rfl,rfl,⟨_,_,rfl,rfl,rfl⟩⟩⟩,⟨_,_,rfl,⟨_,_,rfl,L2.dZ (List.mem_of_getElem? (i:=6) rfl) hT,⟨_,_,rfl,rfl,⟨_,_,rfl,rfl,⟨_,_,rfl,rfl,⟨_,_,rfl,rfl,rfl⟩⟩⟩⟩⟩,⟨_,_,rfl,⟨_,_,rfl,L2.dZ (List.mem_of_getElem? (i:=7) rfl) hT,⟨_,_,rfl,rfl,⟨_,_,rfl,rfl,rfl⟩⟩⟩,⟨_,_,rfl,⟨_,_,rfl,L2.dZ (List.mem_of_getElem? (i:=8) rfl) hT,⟨_,_,rfl,rfl,⟨_,_,rfl,rfl,rfl⟩⟩⟩,⟨_,_,rfl,⟨_,_,rfl,L2.dZ (List.mem_of_getElem? (i:=9) rfl) hT,⟨_,_,rfl,rfl,⟨_,_,rfl,rfl,rfl⟩⟩⟩,⟨_,_,rfl,⟨_,_,rfl,L2.dZ (List.mem_of_getElem? (i:=10) rfl) hT,⟨_,_,rfl,rfl,rfl⟩⟩,⟨_,_,rfl,⟨_,_,rfl,L2.dZ (List.mem_of_getElem? (i:=11) rfl) hT,⟨_,_,rfl,rfl,rfl⟩⟩,rfl⟩⟩⟩⟩⟩⟩⟩⟩⟩⟩⟩)
  (case n_PLACES=>rfl)
 case S=>exact fun w H a ns hl hS=>L3.J7 (fun ns hn=>⟨_,_,W.Me ns hn⟩) H a ns hl hS
 case C=>exact fun _ _ _ _ _ z=>L3.J8 z
