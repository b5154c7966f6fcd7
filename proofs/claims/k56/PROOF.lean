import PyProof.Rows.All
import Wide.All
import OpenK.AllK
import PySem.Challenge.RW_callwalk_k56_whole_program_runs
section
open PySem PySem.W PyProof.Rows
def PySem.W.Vw:Program:={PySem.Challenge.pw_callwalk_k56_whole_program_runs with main:={PySem.Challenge.pw_callwalk_k56_whole_program_runs.main with body:=PySem.Challenge.pw_callwalk_k56_whole_program_runs.main.body.filter fun s=>match s with|.Assign [.Name n _] ..=>(n != "__name__")|_=>true}}
theorem PySem.W.cmb{A B C:Type}{o:Option A}{f:A->B}{g:A->C}{b:B}{c:C}(h:o.map f=some b)(k:o.map g=some c):o.map (fun x=>(f x,g x))=some (b,c):=by cases o with
 |none=>cases h
 |some x=>cases h;cases k;rfl
set_option hygiene false in
local macro_rules | `(tactic| o_head $H) => `(tactic| refine holds_open (q := PySem.W.Vw) (loose := ["PLACES"]) (Xt := fun s => xlAt PySem.W.Vw [] s && recOk (RowW.records PySem.Challenge.rw_callwalk_k56_whole_program_runs.row.toRowW) s) (XP := XL PySem.W.Vw []) (Yf := Hook.obs $H) (Ya := Hook.val $H) (YP := Hook.says $H) (N := 5400) (LeftO.of_split "special-get-raises" fun w => PySem.W.cmb (by kernel_rfl) (h2 w)) (Hook.of $H) (Hook.keeps $H) (fun s e => xl_of s (Bool.and_eq_true_iff.mp e).1) XL.keeps (by rfl) (by rfl) (by rfl) (fun s e => recFacts_of (Bool.and_eq_true_iff.mp e).2) (by rfl) (by first | assumption | decide +kernel) (by decide +kernel) ⟨rfl, rfl, rfl, rfl, rfl, by decide +kernel⟩ ?_ ?_)
set_option Elab.async false
set_option maxRecDepth 100000
set_option maxHeartbeats 0
def PySem.W.Eb:=fun(h2:∀w:World,_)hc=>(by
 w_on;o_law;k_head;(· w_witness2)
 exact hc:PySem.Challenge.rw_callwalk_k56_whole_program_runs.Holds)
def PySem.W.Ed:=PySem.W.Eb (fun w=>by kernel_rfl)
end
set_option autoImplicit true
set_option Elab.async false
set_option linter.all false
set_option genSizeOf false
set_option genSizeOfSpec false
set_option compiler.extract_closed false
set_option maxRecDepth 100000
set_option maxHeartbeats 4000000
set_option bootstrap.genMatcherCode false
noncomputable section
open PySem.W(hideAll keepIn fnOf codeIn excIn nsIn)
abbrev aW:=@PySem.wpAny_bind
abbrev bH:=@List.length_map
abbrev b8:=@List.map_cons
abbrev cA:=@PySem.Heap.get?_push_of_some
abbrev cB:=@List.mem_cons
abbrev cC:=@Nat.le_refl
abbrev cD:=@List.getElem?_eq_some_iff
abbrev cE:=@List.size_toArray
abbrev cG:=@PySem.W.mg_of
abbrev cZ:=@PySem.wpAny_pure
abbrev c5:=@if_pos
abbrev dN:=@PySem.Heap.lt_size
abbrev dO:=@PySem.Heap.get?_push_size
abbrev dP:=@List.mem_map
abbrev dQ:=@List.map_map
abbrev dR:=@List.getElem?_set_self
abbrev dS:=@if_neg
abbrev dU:=@Nat.ne_of_lt
abbrev fj:=@List.mem_of_getElem?
abbrev fm:=@decide_eq_false
abbrev fq:=@Bool.and_eq_true
abbrev fw:=@List.not_mem_nil
abbrev fy:=@Nat.lt_of_lt_of_le
abbrev gg:=@List.mem_append
abbrev gh:=@decide_eq_true
abbrev gi:=@PySem.W.mg_none_of
abbrev gj:=@List.getElem?_set_ne
abbrev gk:=@List.mem_append_right
abbrev gm:=@List.mem_iff_getElem?
abbrev gp:=@List.length_append
abbrev gq:=@decide_eq_true_eq
abbrev gr:=@List.mem_singleton
abbrev gK:=@List.length_cons
abbrev gM:=@List.lookup_cons
abbrev g6:=@List.all_eq_true
abbrev h_:=@List.getElem?_append_right
abbrev ia:=@Option.some.inj
abbrev ib:=@Nat.le_trans
abbrev ic:=@List.getElem?_eq_getElem
abbrev ie:=@congrArg
abbrev ii:=@List.find?_cons
abbrev iV:=@PyProof.Rows.slot_tuple_getitem
abbrev iX:=@List.getElem?_map
abbrev iY:=@List.mem_cons_of_mem
abbrev jM:=@Option.map_eq_some_iff
abbrev jN:=@PyProof.Rows.callWith_type1
abbrev ki:=@PySem.W.kia_one
abbrev kj:=@List.length_take
abbrev kn:=@PySem.wpAny_pyIter_list
abbrev kq:=@List.getElem?_append_left
abbrev kE:=@List.map_append
abbrev kF:=@Ne.symm
abbrev kG:=@PySem.wpAny_truthy_bool
abbrev kH:=@List.append_nil
abbrev kI:=@PySem.wpAny_field
abbrev kK:=@PySem.wpAny_callSpecial?_slot
abbrev lT:=@List.length_set
abbrev lV:=@PySem.Around.under_plainId
abbrev lW:=@List.mem_of_mem_take
abbrev lX:=@PySem.mem_of_lookup
abbrev lY:=@Nat.zero_le
abbrev lZ:=@List.mem_map_of_mem
abbrev l6:=@PySem.wpAny_seqItems
abbrev mH:=@or_false
abbrev m8:=@Nat.le_add_right
abbrev m9:=@List.any_cons
abbrev m_:=@PySem.F.plainAttrs_list
abbrev nc:=@Nat.add_sub_cancel_left
abbrev ng:=@PySem.Heap.size_push
abbrev nh:=@List.mem_range
abbrev ni:=@PySem.wpAny_mono
abbrev nk:=@PySem.wpAny_newObj_type
abbrev nn:=@PySem.codeAny_builtin
abbrev nR:=@Bool.or_eq_true
abbrev oZ:=@List.getD_eq_getElem?_getD
abbrev o0:=@PySem.wpAny_setField_rec
abbrev o5:=@List.drop_eq_getElem_cons
abbrev o7:=@Nat.mul_le_mul_right
abbrev o8:=@Int.toNat_natCast
abbrev o9:=@List.pairwise_map
abbrev pU:=@PySem.wpAny_holding
abbrev pV:=@PySem.wpAny_getItem_str_slice
abbrev pW:=@List.filter_flatMap
abbrev qE:=@PySem.wpAny_call_entry
abbrev qF:=@List.drop_of_length_le
abbrev qG:=@List.mem_cons_self
abbrev qH:=@Bool.false_ne_true
abbrev qI:=@PySem.tupleKind_room_in1
abbrev qJ:=@Nat.ne_of_gt
abbrev qK:=@List.nodup_cons
abbrev qL:=@List.length_nil
abbrev qM:=@Nat.lt_irrefl
abbrev qN:=@List.append_assoc
abbrev qO:=@List.mem_append_left
abbrev qP:=@List.mem_of_mem_drop
abbrev qQ:=@List.filter_cons
abbrev tO:=@List.filterMap_cons
abbrev tP:=@Array.length_toList
abbrev tQ:=@PyProof.Rows.slot_tupleiter_next
abbrev tS:=@List.map_congr_left
abbrev tT:=@Sum.inr.inj
abbrev tU:=@PySem.wpAny_typeOf
abbrev tW:=@beq_iff_eq
abbrev tX:=@List.mem_filter
abbrev tY:=@PySem.wpAny_passesOwn
abbrev tZ:=@PySem.plainId_quiet
abbrev t0:=@PyProof.Rows.F.plain_set_update_loop
abbrev t4:=@List.getElem?_replicate
abbrev t5:=@List.filter_append
abbrev vE:=@if_true
abbrev vF:=@List.length_range
abbrev vG:=@List.nodup_nil
abbrev vH:=@Nat.le_of_lt
abbrev vJ:=@List.length_replicate
abbrev xf:=@List.map_nil
abbrev yS:=@Nat.lt_trans
abbrev yU:=@List.set_getElem_self
abbrev Ap:=@List.getElem?_eq_none
abbrev By:=@List.length_drop
abbrev Bz:=@List.zipIdx_cons
abbrev FX:=@beq_self_eq_true
abbrev F1:=@List.eq_nil_of_length_eq_zero
abbrev F2:=@List.getElem_mem
abbrev KE:=@PySem.wpAny_updateSeq_pair
abbrev Q_:=@Bool.and_self
abbrev Ra:=@PySem.call_meets
abbrev Rb:=@beq_eq_false_iff_ne
abbrev Rc:=@PySem.F.slot_zip_next
abbrev Re:=@List.forIn_cons
abbrev Rf:=@PySem.post_val_or_str
abbrev Rg:=@ne_true_of_eq_false
abbrev Rh:=@List.nil_append
abbrev Ri:=@PySem.W.of_hideAll
abbrev Rj:=@PySem.codeAny_mono
abbrev Rk:=@Bool.false_eq_true
abbrev Rm:=@Bool.false_and
abbrev Rn:=@PySem.W.kitx_dict
abbrev Ro:=@PySem.typeIs_str
abbrev Rp:=@Option.isSome_map
abbrev Rr:=@PySem.wpAny_rule
abbrev Rt:=@Nat.lt_succ_of_lt
abbrev Ru:=@PySem.sizeLine_eq
abbrev Rv:=@if_false
abbrev Rx:=@Bool.true_and
abbrev Ry:=@List.take_length
abbrev Rz:=@Nat.zero_add
abbrev RA:=@Nat.mul_succ
abbrev RB:=PySem.Shared
abbrev RC:=PySem.W.Frag
abbrev RD:=PySem.Program
abbrev RE:=PySem.Value
abbrev RF:=PySem.Around
def RL(h : True := by rfl) : True := h
def RQ:Lean.Syntax:=RL._auto_1
def RG(h : True := by decide) : True := h
def RN:Lean.Syntax:=RG._auto_1
def RJ(h : ∀u : Unit, u = u := by intro _; rfl) : True := True.intro
def RP:Lean.Syntax:=RJ._auto_1
def RH(h : True := by first|exact .inl rfl|exact .inr rfl|assumption) : True := h
def RO:Lean.Syntax:=RH._auto_1
def RI(h : True := by first|exact Or.inl rfl|exact Or.inr (Or.inl rfl)|exact Or.inr (Or.inr rfl)) : True := h
def RK(h : True := by intro _ _; rfl) : True := h

namespace L2
open PySem PySem.Spec PyProof.Rows
noncomputable abbrev b5:=Sum Int Str
noncomputable def uB:b5->RE->Bool
 |.inl k,v=>Value.isInt k v
 |.inr x,v=>Value.isStrOf x v
noncomputable def O0(w:World):b5->Int
 |.inl k=>hashInt k
 |.inr x=>hashStr w x
def b9:∀{k:b5}{v:RE},uB k v=true->(∃i t,k=Sum.inl i/\v=Value.int i t)\/(∃x t,k=Sum.inr x/\v=Value.str x t)
 |.inl i,v,h=>by obtain⟨t,e⟩:=Value.isInt_shape (k:=i) (v:=v) h;exact .inl ⟨i,t,rfl,e⟩
 |.inr x,v,h=>by obtain⟨t,e⟩:=Value.isStrOf_shape (x:=x) (v:=v) h;exact .inr ⟨x,t,rfl,e⟩
def BA(i:Int)(t:Tok):uB (.inl i) (.int i t)=true:=by simp[uB,Value.isInt]
def BB(x:Str)(t:Tok):uB (.inr x) (.str x t)=true:=by simp[uB,Value.isStrOf]
def Js(a b:Int):decide ((Sum.inl a:b5)=Sum.inl b)=(a==b):=by grind
def Jt(a b:Str):decide ((Sum.inr a:b5)=Sum.inr b)=decide (a=b):=by grind
def Ju(a:Int)(b:Str):decide ((Sum.inl a:b5)=Sum.inr b)=false:=fm (λq=>nomatch q)
def Jv(a:Str)(b:Int):decide ((Sum.inr a:b5)=Sum.inl b)=false:=fm (λq=>nomatch q)
def bd(prog:RD)(w:World):PySem.KeyKind prog w b5 where
 is:=uB
 hash:=O0 w
 inj:=λv a b ha hb=>by
  rcases b9 ha with⟨i,t,rfl,rfl⟩|⟨x,t,rfl,rfl⟩
  .rcases b9 hb with⟨j,u,rfl,e⟩|⟨y,u,rfl,e⟩
   .injection e with e1 _;rw[e1]
   .exact nomatch e
  .rcases b9 hb with⟨j,u,rfl,e⟩|⟨y,u,rfl,e⟩
   .exact nomatch e
   .injection e with e1 _;rw[e1]
 byValue:=λk v h=>by rcases b9 h with⟨i,t,rfl,rfl⟩|⟨x,t,rfl,rfl⟩<;>rfl
 pyHash:=λhv h=>by
  rcases b9 hv with⟨i,t,rfl,rfl⟩|⟨x,t,rfl,rfl⟩
  .exact wpAny_pyHash_int h
  .exact wpAny_pyHash_str h
 eqBool:=λhu hv h=>by
  rcases b9 hu with⟨i,t,rfl,rfl⟩|⟨x,t,rfl,rfl⟩
  .rcases b9 hv with⟨j,u,rfl,rfl⟩|⟨y,u,rfl,rfl⟩
   .rw[Js]at h;exact wpAny_eqBool_int h
   .rw[Ju]at h;exact SeqAt.EqAt.int_str i t y u _ _ _ _ h
  .rcases b9 hv with⟨j,u,rfl,rfl⟩|⟨y,u,rfl,rfl⟩
   .rw[Jv]at h;exact SeqAt.EqAt.str_int x t j u _ _ _ _ h
   .rw[Jt]at h;exact wpAny_eqBool_str h
 «strs»:=λk x t v h=>by
  rcases b9 h with⟨i,u,rfl,e⟩|⟨y,u,rfl,e⟩
  .exact nomatch e
  .injection e with e1 _;subst e1;cases v<;>rfl
def xj(prog:RD)(w:World)(i:Int)(t:Tok):(bd prog w).is (.inl i) (.int i t)=true:=BA i t
def kX(prog:RD)(w:World)(x:Str)(t:Tok):(bd prog w).is (.inr x) (.str x t)=true:=BB x t
inductive V where
 |ig|bl (b:Bool)|int (i:Int)|str (x:Str)|OB (b:Array UInt8)|Mh (b:UInt64)|ref (a:Addr)|ty (n:String)
 deriving DecidableEq
noncomputable def RelV:V->RE->Prop
 |.ig,u=>u=Value.none
 |.bl b,u=>u=Value.bool b
 |.int i,u=>∃t,u=Value.int i t
 |.str x,u=>∃t,u=Value.str x t
 |.OB b,u=>∃t,u=Value.bytes b t
 |.Mh b,u=>∃t,u=Value.float b t
 |.ref a,u=>u=Value.ref a
 |.ty n,u=>u=Value.type n
abbrev Vals:List V->List RE->Prop:=Paired RelV
theorem Vals.length(r:Vals xs us):xs.length=us.length:=Paired.length r
theorem Vals.get:∀{xs:List V}{us:List RE}{i:Nat}{x:V},Vals xs us->xs[i]?=some x->∃u,us[i]?=some u/\RelV x u
 |_,_,_,_,.nil,e=>by simp at e
 |_,_,0,_,.cons r _,e=>by simp at e;subst e;exact⟨_,rfl,r⟩
 |_,_,i+1,x,.cons _ t,e=>by obtain⟨u,h1,h2⟩:=Vals.get (i:=i) (x:=x) t (by simpa using e);exact⟨u,by simpa using h1,h2⟩
theorem Vals.append:∀{xs ys:List V}{us ws:List RE},Vals xs us->Vals ys ws->Vals (xs++ys) (us++ws)
 |_,_,_,_,.nil,s=>s
 |_,_,_,_,.cons r t,s=>.cons r (Vals.append t s)
theorem Vals.take:∀{xs:List V}{us:List RE}(n:Nat),Vals xs us->Vals (xs.take n) (us.take n)
 |_,_,0,_=>.nil
 |_,_,_+1,.nil=>.nil
 |_,_,n+1,.cons r t=>.cons r (Vals.take n t)
theorem Vals.drop:∀{xs:List V}{us:List RE}(n:Nat),Vals xs us->Vals (xs.drop n) (us.drop n)
 |_,_,0,r=>r
 |_,_,_+1,.nil=>.nil
 |_,_,n+1,.cons _ t=>Vals.drop n t
def RelO:Option V->Option RE->Prop
 |some v,some u=>RelV v u
 |none,none=>True
 |_,_=>False
def KV{κ:Type}:List (κ×V)->List (κ×RE)->Prop:=Paired λ(p:κ×V)(q:κ×RE)=>p.1=q.1/\RelV p.2 q.2
noncomputable def kV:b5->V
 |.inl i=>.int i
 |.inr x=>.str x
inductive HO where
  
 |lst (xs:List V)
  
 |tup (xs:List V)
  
 |dK (kvs:List (b5×V))|dT (kvs:List (List b5×V))
  
 |set (S:Int->Bool) (n:Nat)
  
 |ins (C dx:Addr) (fs:List (Str×V))
  
 |own (x:Addr)
  
 |xd (fs:List (Str×V))
  
 |met (f x:Addr)
  
 |OX (lo hi:Int)
  
 |cQ (o:Obj) (u:HO)
  
 |Jr (ps:Array RE)
  
 |ext (φ:Heap->Prop)
noncomputable abbrev Hp:=Addr->Option HO
noncomputable def ck(H:Hp)(a:Addr)(o:HO):Hp:=λb=>if b=a then some o else H b
def aY:ck H a o a=some o:=by unfold ck;rw[c5 rfl]
theorem aJ(h:b≠a):ck H a o b=H b:=by unfold ck;rw[dS h]
def aA{H:Hp}(h:H a=some o)(h':H b=none):a≠b:=by intro e;subst e;rw[h]at h';cases h'
section
variable(P:RD)(w:World)
def ObjOk(H:Hp)(h:Heap)(a:Addr):HO->Prop
 |.lst xs=>xs.length<=sizeLine/\∃(its:List RE)(n:Nat),Vals xs its/\h.get? a=some { cls:=.type "list",data:=.seq its.toArray n }
 |.tup xs=>xs.length<=sizeLine/\∃its:List RE,Vals xs its/\IsTup h a its.toArray
 |.dK kvs=>kvs.length<=sizeLine/\(a==sysModules)=false/\∃vs,KV kvs vs/\h.DictOf (bd P w) a vs
 |.dT kvs=>kvs.length<=sizeLine/\(a==sysModules)=false/\∃xs:List (List b5×Addr×RE),
  Paired (λ(p:List b5×V)(q:List b5×Addr×RE)=>p.1=q.1/\H q.2.1=some (.tup (p.1.map kV))/\RelV p.2 q.2.2) kvs xs/\
  ∃o es ep,h.get? a=some o/\o.ExactDict/\o.data=.dict es ep/\es.toList=xs.map (entryOfKey (tupleKind (bd P w)))/\(xs.map (·.1)).Nodup
 |.set S n=>h.SetOf (intKind P w) a S n
 |.ins C dx fs=>H dx=some (.own a)/\fs.length<=1000/\dx≠a/\h.get? a=some (PySem.W.instObj C dx)/\
  ∃mA,h.Ns1 dx mA/\(∀f,RelO (fs.lookup f) (mA f))/\PySem.Within mA (fs.map (·.1))
 |.own _=>∃o,h.get? a=some o
 |.xd fs=>∃mA,h.Ns1 a mA/\∀f,RelO (fs.lookup f) (mA f)
 |.OX lo hi=>∃t u v,h.get? a=some { cls:=.type "range",data:=.fields #[.int lo t,.int hi u,.int 1 v] }
 |.cQ o u=>h.get? a=some o/\ObjOk H h a u
 |.Jr ps=>h.get? a=some {cls:=.none,data:=.fields ps}
 |.met f x=>h.get? a=some (PySem.W.methodObj (.ref f) (.ref x))
 |.ext φ=>φ h/\(∃o,h.get? a=some o)/\∀h1 h2:Heap,φ h1->(∀o,h1.get? a=some o->h2.get? a=some o)->φ h2
def HOk(H:Hp)(h:Heap):Prop:=∀a o,H a=some o->ObjOk P w H h a o
end
section
theorem ObjOk.lt(x:ObjOk P w H h a o):a<h.objs.size:=by
 cases o with
 |lst xs=>obtain⟨_,_,_,_,e⟩:=x;exact dN e
 |tup xs=>obtain⟨_,_,_,p⟩:=x;exact p.lt
 |dK kvs=>obtain⟨_,_,_,_,o,_,_,e,_⟩:=x;exact dN e
 |dT kvs=>obtain⟨_,_,_,_,o,_,_,e,_⟩:=x;exact dN e
 |set S n=>obtain⟨o,_,_,_,e,_⟩:=x;exact dN e
 |ins C dx fs=>obtain⟨_,_,_,e,_⟩:=x;exact dN e
 |own y=>obtain⟨_,e⟩:=x;exact dN e
 |xd fs=>obtain⟨_,⟨_,_,_,e,_⟩,_⟩:=x;exact dN e
 |OX lo hi=>obtain⟨_,_,_,e⟩:=x;exact dN e
 |cQ ob u=>obtain⟨e,_⟩:=x;exact dN e
 |Jr ps=>exact dN (show h.get? a=some _ from x)
 |met f y=>exact dN (show h.get? a=some _ from x)
 |ext φ=>obtain⟨_,⟨_,e⟩,_⟩:=x;exact dN e
def Paired.OD{α β:Type}{F G:α->β->Prop}{l₁:List α}{l₂:List β}(h:Paired F l₁ l₂)(f:∀a b,F a b->G a b):Paired G l₁ l₂:=by
 induction h with
 |nil=>exact .nil
 |cons r _ ih=>exact .cons (f _ _ r) ih
def ObjOk.stay(x:ObjOk P w H h a o)(k:∀b u,(b=a\/H b=some (.own a))->h.get? b=some u->h'.get? b=some u)
 (ho:∀b,H b=some (.own a)->H' b=some (.own a)) (ht:∀b xs,H b=some (.tup xs)->H' b=some (.tup xs)):ObjOk P w H' h' a o:=by
 induction o with
 |lst xs=>obtain⟨z,its,n,r,e⟩:=x;exact⟨z,its,n,r,k _ _ (.inl rfl) e⟩
 |tup xs=>obtain⟨z,its,r,ob,e,c⟩:=x;exact⟨z,its,r,ob,k _ _ (.inl rfl) e,c⟩
 |dK kvs=>obtain⟨z,y,vs,r,ob,es,ep,e,c⟩:=x;exact⟨z,y,vs,r,ob,es,ep,k _ _ (.inl rfl) e,c⟩
 |dT kvs=>obtain⟨z,y,xs,r,ob,es,ep,e,c⟩:=x;exact⟨z,y,xs,Paired.OD r λp q z=>⟨z.1,ht _ _ z.2.1,z.2.2⟩,ob,es,ep,k _ _ (.inl rfl) e,c⟩
 |set S n=>obtain⟨ob,es,ep,t,e,c⟩:=x;exact⟨ob,es,ep,t,k _ _ (.inl rfl) e,c⟩
 |ins C dx fs=>obtain⟨d,z,ne,e,mA,⟨od,es,ep,e2,c⟩,r⟩:=x;exact⟨ho _ d,z,ne,k _ _ (.inl rfl) e,mA,⟨od,es,ep,k _ _ (.inr d) e2,c⟩,r⟩
 |own y=>obtain⟨ob,e⟩:=x;exact⟨ob,k _ _ (.inl rfl) e⟩
 |xd fs=>obtain⟨mA,⟨od,es,ep,e,c⟩,r⟩:=x;exact⟨mA,⟨od,es,ep,k _ _ (.inl rfl) e,c⟩,r⟩
 |OX lo hi=>obtain⟨t,u,v,e⟩:=x;exact⟨t,u,v,k _ _ (.inl rfl) e⟩
 |cQ ob u ih=>obtain⟨e,q⟩:=x;exact⟨k _ _ (.inl rfl) e,ih q⟩
 |Jr ps=>have e:h.get? a=some {cls:=.none,data:=.fields ps}:=x;show h'.get? a=some {cls:=.none,data:=.fields ps};exact k a _ (.inl rfl) e
 |met f y=>have e:h.get? a=some (PySem.W.methodObj (.ref f) (.ref y)):=x;show h'.get? a=some (PySem.W.methodObj (.ref f) (.ref y));exact k a _ (.inl rfl) e
 |ext φ=>obtain⟨p,⟨o,e⟩,st⟩:=x;exact⟨st _ _ p λo q=>k _ _ (.inl rfl) q,⟨o,k _ _ (.inl rfl) e⟩,st⟩
theorem HOk.lt(x:HOk P w H h)(e:H a=some o):a<h.objs.size:=(x a o e).lt
def HOk.fresh(x:HOk P w H h)(e:h.objs.size<=a):H a=none:=by
 cases q:H a with
 |none=>rfl
 |some u=>exact absurd (fy (x.lt q) e) (qM _)
def HOk.kept(x:HOk P w H h)(k:∀b u,h.get? b=some u->h'.get? b=some u):HOk P w H h':=λa o e=>(x a o e).stay (λb u _ q=>k b u q) (λ_ q=>q) λ_ _ q=>q
def HOk.laid(x:HOk P w H h)(k:∀b u,h.get? b=some u->h'.get? b=some u)(hp:h.objs.size<=a)(new:ObjOk P w (ck H a o) h' a o):HOk P w (ck H a o) h':=λb u e=>by
 have hn:=x.fresh hp;by_cases hb:b=a
 .subst hb;rw[aY]at e;cases e;exact new
 .rw[aJ hb]at e;exact(x b u e).stay (λc v _ q=>k c v q) (λc q=>by rw[aJ (aA q hn)];exact q) λc xs q=>by rw[aJ (aA q hn)];exact q
end
def Rd(H:Hp)(a:Addr)(u:HO):Prop:=H a=some u\/∃o,H a=some (.cQ o u)
def Rd.ok(r:Rd H a u)(x:HOk P w H h):ObjOk P w H h a u:=by
 rcases r with r|⟨o,r⟩
 .exact x a u r
 .obtain⟨_,q⟩:=x a _ r;exact q
noncomputable def OJ:Option HO->Prop
 |some (.lst _)=>True
 |some (.dK _)=>True
 |some (.dT _)=>True
 |some (.set _ _)=>True
 |some (.ins _ _ _)=>True
 |some (.ext _)=>True
 |_=>False
section
def HOk.write(ok:HOk P w H h)(mu:OJ (H x))(he:e=x\/H e=some (.own x))(k:∀b u,b≠e->h.get? b=some u->h'.get? b=some u)(heo:∃u,h'.get? e=some u)
 (new:ObjOk P w (ck H x o') h' x o'):HOk P w (ck H x o') h':=λb u q=>by
 have nown:∀c y,H c=some (.own y)->c≠x:=λc y r z=>by subst z;rw[r]at mu;exact mu
 have ntup:∀c xs,H c=some (.tup xs)->c≠x:=λc xs r z=>by subst z;rw[r]at mu;exact mu
 by_cases hb:b=x
 .subst hb;rw[aY]at q;cases q;exact new
 .rw[aJ hb]at q;by_cases hbe:b=e
  .have q':H b=some (.own x):=by
    grind
   rw[q]at q';cases q';obtain⟨v,hv⟩:=heo;exact⟨v,by rw[hbe];exact hv⟩
  .refine(ok b u q).stay (λc v hc r=>k c v ?_ r) (λc r=>by rw[aJ (nown c b r)];exact r) λc xs r=>by rw[aJ (ntup c xs r)];exact r
   grind
end
def Qt(H:Hp)(b:Addr):Prop:=H b=none\/∃xs,H b=some (.tup xs)
structure Un(fs ex:List Addr) (H H':Hp) (h h':Heap):Prop where
 keep:∀b o,h.get? b=some o->Qt H b->b∉fs->b∉ex->h'.get? b=some o
 slot:∀b o,h.get? b=some o->H b=none->b∈fs->b∉ex->∃sl,h'.get? b=some {o with slots:=sl}
 free:∀b o,h.get? b=some o->H b=none->b∉ex->H' b=none
 there:∀b o,h.get? b=some o->b∉ex->∃o',h'.get? b=some o'
 nS:∀b xs,H b=some (.tup xs)->H' b=some (.tup xs)
 rC:∀b o u,H b=some (.cQ o u)->H' b=some (.cQ o u)
 uz:∀b ps,H b=some (.Jr ps)->∃more,H' b=some (.Jr (ps++more))
section
def Un.any(u:Un fs ex H H1 h h1)(q:h.get? b=some ob)(n:H b=none)(hx:b∉ex):∃sl,h1.get? b=some {ob with slots:=sl}:=by
 by_cases hb:b∈fs
 .exact u.slot b ob q n hb hx
 .exact⟨ob.slots,u.keep b ob q (.inl n) hb hx⟩
def Un.kept(k:∀b u,h.get? b=some u->h'.get? b=some u):Un fs ex H H h h':=⟨λb ob q _ _ _=>k b ob q,λb ob q _ _ _=>⟨ob.slots,k b ob q⟩,λ_ _ _ n _=>n,λb ob q _=>⟨ob,k b ob q⟩,λ_ _ q=>q,λ_ _ _ q=>q,λ_ ps q=>⟨#[],by rw[q];simp⟩⟩
def Un.refl:Un fs ex H H h h:=Un.kept λ_ _ q=>q
def Un.laid(k:∀b u,h.get? b=some u->h'.get? b=some u)(hp:h.objs.size<=a)(hn:H a=none):Un fs ex H (ck H a o) h h' where
 keep:=λb u q _ _ _=>k b u q
 slot:=λb u q _ _ _=>⟨u.slots,k b u q⟩
 free:=λb u q n _=>by rw[aJ (dU (fy (dN q) hp))];exact n
 there:=λb u q _=>⟨u,k b u q⟩
 nS:=λb xs q=>by rw[aJ (aA q hn)];exact q
 rC:=λb u xs q=>by rw[aJ (aA q hn)];exact q
 uz:=λb ps q=>⟨#[],by rw[aJ (aA q hn),q];simp⟩
def Un.write(mu:OJ (H x))(he:e=x\/H e=some (.own x))(k:∀b u,b≠e->h.get? b=some u->h'.get? b=some u)(heo:∃u,h'.get? e=some u):Un fs ex H (ck H x o) h h':=by
 have hx:∀b,H b=none->b≠x:=λb n z=>by subst z;rw[n]at mu;exact mu
 have hb:∀b,H b=none->b≠e:=λb n z=>by grind
 have hm:∀b u,H b=some u->¬OJ (some u)->b≠x:=λb u q nm z=>by subst z;rw[q]at mu;exact nm mu
 refine⟨λb u q n _ _=>k b u (n.elim (hb b) λ⟨xs,ee⟩ z=>by rcases he with r|r;(·rw[<- r,<- z,ee]at mu;exact mu);(·rw[<- z,ee]at r;cases r)) q,λb u q n _ _=>⟨u.slots,k b u (hb b n) q⟩,λb u q n _=>by rw[aJ (hx b n)];exact n,λb u q _=>?_,
  λb xs q=>by rw[aJ (hm b _ q λz=>z)];exact q,λb u xs q=>by rw[aJ (hm b _ q λz=>z)];exact q,λb ps q=>⟨#[],by rw[aJ (hm b _ q λz=>z),q];simp⟩⟩
 by_cases hbe:b=e
 .subst hbe;exact heo
 .exact⟨u,k b u hbe q⟩
end
noncomputable def CZ(h:Heap)(H:Hp):List Addr:=(List.range h.objs.size).filter λa=>(H a).isSome
def xk(h:Heap)(H:Hp):Heap:=hideAll h (CZ h H)
def BC(h:Heap)(H:Hp):(xk h H).objs.size=h.objs.size:=PySem.W.hideAll_size _ _
def xl(e:h.get? b=some o)(n:H b=none):(xk h H).get? b=some o:=PySem.W.hideAll_get _ e λhm=>by have q:(H b).isSome=true:=(tX.mp hm).2;rw[n]at q;simp at q
def Ga(e:(xk h H).get? b=some o):h.get? b=some o/\H b=none:=by
 have e':h.get? b=some o:=Ri (CZ h H) e;refine⟨e',?_⟩;cases q:H b with
 |none=>rfl
 |some x=>have hm:b∈CZ h H:=tX.mpr ⟨nh.mpr (dN e'),by simp[q]⟩;have z:(xk h H).get? b=none:=PySem.W.hideAll_none (CZ h H) hm;rw[z]at e;cases e
noncomputable def Gb(g h:Heap)(L:Addr):List (Addr×Obj):=(List.range h.objs.size).filterMap λa=>if a=L\/(g.get? a).isSome=true then none else(h.get? a).map λo=>(a,o)
def bj(g h:Heap)(L d:Addr):List (Addr×Obj):=(Gb g h L).filter λp=>decide (p.1≠d)
noncomputable def O1:RE->V
 |.str x _=>.str x
 |.ref a=>.ref a
 |_=>.ig
def xm(o:Obj):Option (Addr×List V):=match o.cls with
 |.type n=>if n=="kt" then(match o.data with
  |.seq its _=>(match its.toList with
   |.ref a::r=>some (a,r.map O1)
   |_=>none)
  |_=>none)else none
 |_=>none
def Mc(K:RC)(H:Hp):Prop:=∀p∈K,∀a xs,xm p.2=some (a,xs)->H a=some (.tup xs)
structure Mod(K:RC) (mg:Str->Option RE) (base:Heap):Prop where
 zt:K.In base
 glob:base.Ns mainGlobals mg
 blt:∃mb,base.Ns builtinsNs mb/\∀x:Str,x≠"__name__"->mb x=bootBuiltins x
 nolimit:base.NoLimit
structure Cx where
 prog:RD
 w:World
 K:RC
 mg:Str->Option RE
 base:Heap
 A:RF
 N:List Str
 s₀:RB
 H₀:Hp
 env:Env
 outer:List Env
 stack:List Env
 ex:List Addr
 fn:Str->Bool
 calm:Bool
 pn:List (Addr×Obj)
 xe:RE->RB->Prop
abbrev wX(X:Cx){α:Type}(m:Sem α):(α->RB->Prop)->(RE->RB->Prop)->RB->Prop:=wpAny (model X.prog X.w) X.A m
abbrev sE(X:Cx)(e:Expr)(es:List Expr):Prop:=starEach (e::es) X.env=(false,eval e X.env)::starEach es X.env
abbrev bT(X:Cx)(p:Pos)(es:List Expr):Prop:=(backTo p (starEach es X.env)).any (·.1)=false
abbrev dB(x:Str):Prop:=(x==("__debug__" : Str))=false
noncomputable def nT(l:List Env):List Addr:=l.filterMap (·.frame)
abbrev Cx.fs(X:Cx):List Addr:=nT X.outer
def OK(sc:Scope)(x:Str):Prop:=sc.names.lookup x=some .local\/sc.names.lookup x=some .cell\/sc.names.lookup x=some .free
def Jw(sc:Scope)(x:Str):Prop:=sc.names.lookup x=some .local\/sc.names.lookup x=some .cell
def O6(env:Env)(h:Heap)(m:Str->Option RE)(x:Str)(u:RE):Prop:=(env.kindOf x=some .local/\m x=some u)\/((env.kindOf x=some .cell\/env.kindOf x=some .free)/\∃c,env.cells.lookup x=some c/\h.IsCell c (some u))
structure Cx.Ok(X:Cx):Prop where
 mod:Mod X.K X.mg X.base
 kind:X.env.scope.kind=.function
 glob:X.env.globals=mainGlobals
 blt:X.env.builtins=builtinsNs
 above:X.s₀.heap.objs.size<=X.env.locals
 inj:∀x y c,X.env.cells.lookup x=some c->X.env.cells.lookup y=some c->x=y
 has:∀x,(X.env.kindOf x=some .cell\/X.env.kindOf x=some .free)->∃c,X.env.cells.lookup x=some c
 OY:∀x c,X.fn x=true->X.env.cells.lookup x=some c->X.s₀.heap.objs.size<=c
 hd:X.calm=true->X.A.handled=none
 frames:X.A.frames=some X.stack
 Ql:X.stack=X.outer\/(X.stack=X.env::X.outer/\X.env.frame=some X.env.locals)
 Q8:∀b∈X.ex,b≠X.env.locals/\∀x c,X.env.cells.lookup x=some c->c≠b
 bs:∀b o,X.base.get? b=some o->X.s₀.heap.get? b=some o/\X.H₀ b=none
 L4:X.base.objs.size<=X.s₀.heap.objs.size
 Iw:∀b o,X.base.get? b=some o->b∉X.ex
 L_:∀b∈X.ex,b∉X.fs
 uy:X.s₀.heap.FunFrames X.base X.outer
 OH:∀b∈X.fs,X.H₀ b=none
 kt:Mc X.K X.H₀
structure Inv(X:Cx) (ai:List (Addr×Obj)) (σ:List (Option V)) (H:Hp) (s:RB):Prop where
 ok:X.Ok
 os:s.os=X.s₀.os
 bare:AllBare s.gens
 base:Un X.fs X.ex X.H₀ H X.s₀.heap s.heap
 loc:∃m,s.heap.Ns X.env.locals m/\∀(i:Nat)(x:Str)(v:V),X.N[i]?=some x->σ[i]?=some (some v)->OK X.env.scope x->∃u,RelV v u/\O6 X.env s.heap m x u
 cell:∀x c,X.env.cells.lookup x=some c->∃v,s.heap.IsCell c v
 free:H X.env.locals=none
 oW:∀x c,X.env.cells.lookup x=some c->H c=none
 pin:∀p∈X.pn++ai,s.heap.get? p.1=some p.2/\H p.1=none/\p.1≠X.env.locals/\p.1∉X.fs/\∀v,p.2.data≠.cell v
 bC:HOk X.prog X.w H s.heap
 len:σ.length=X.N.length
section
variable{X:Cx}{ai:List (Addr×Obj)}{σ:List (Option V)}{H H':Hp}{s:RB}
def Cx.Ok.Qn(ok:X.Ok)(e:X.base.get? b=some o):b∉X.fs:=λhb=>by have:=(ok.uy.mem hb).1;rw[e]at this;cases this
theorem Inv.bs(I:Inv X ai σ H s):∀b o,X.base.get? b=some o->s.heap.get? b=some o/\H b=none:=λb o e=>⟨I.base.keep b o (I.ok.bs b o e).1 (.inl (I.ok.bs b o e).2) (I.ok.Qn e) (I.ok.Iw b o e),I.base.free b o (I.ok.bs b o e).1 (I.ok.bs b o e).2 (I.ok.Iw b o e)⟩
theorem Inv.kt(I:Inv X ai σ H s):Mc X.K H:=λp hp a xs e=>I.base.nS a xs (I.ok.kt p hp a xs e)
def Inv.bk(I:Inv X ai σ H s):∀b o,X.base.get? b=some o->s.heap.get? b=some o:=λb o e=>(I.bs b o e).1
theorem Inv.mod(I:Inv X ai σ H s):Mod X.K X.mg X.base:=I.ok.mod
def Inv.vK(I:Inv X ai σ H s):X.K.In s.heap:=I.ok.mod.zt.keeps I.bk
theorem Inv.lt(I:Inv X ai σ H s):X.env.locals<s.heap.objs.size:=let ⟨_,hn,_⟩:=I.loc;hn.lt
def Inv.sz(I:Inv X ai σ H s):X.s₀.heap.objs.size<=s.heap.objs.size:=ib I.ok.above (vH I.lt)
def Inv.Qo(I:Inv X ai σ H s)(h:s.heap.objs.size<=a):a∉X.fs:=λhb=>by obtain⟨_,o,ho,_⟩:=I.ok.uy.mem hb;exact absurd (fy (dN ho) (ib I.sz h)) (qM _)
def Inv.L0(I:Inv X ai σ H s):∀x c,X.env.cells.lookup x=some c->c≠X.env.locals:=λx c e z=>by obtain⟨v,o,ho,hd⟩:=I.cell x c e;obtain⟨m,⟨o',es,ep,ho',hd',_⟩,_⟩:=I.loc;rw[z,ho']at ho;cases ho;rw[hd']at hd;cases hd
theorem Inv.uy(I:Inv X ai σ H s):s.heap.FunFrames X.base X.outer:=by
 have all:∀(l:List Env),(∀b∈nT l,b∈X.fs)->X.s₀.heap.FunFrames X.base l->s.heap.FunFrames X.base l:=by
  intro l;induction l with
  |nil=>intro _ _;trivial
  |cons env r ih=>intro hs hl;obtain⟨hk,⟨L,o,hf,hn,ho,hd⟩,hr⟩:=hl;have hL:L∈X.fs:=hs L (by unfold nT;rw[tO,hf];exact qG);obtain⟨sl,e⟩:=I.base.slot L o ho (I.ok.OH L hL) hL λz=>I.ok.L_ L z hL;exact⟨hk,⟨L,_,hf,hn,e,hd⟩,ih (λb hb=>hs b (by unfold nT;rw[tO,hf];exact iY _ hb)) hr⟩
 exact all X.outer (λ_ hb=>hb) I.ok.uy
theorem Inv.stack(I:Inv X ai σ H s):s.heap.FunFrames X.base X.stack:=by
 rcases I.ok.Ql with e|⟨e,hf⟩
 .rw[e];exact I.uy
 .rw[e];obtain⟨m,hn,_⟩:=I.loc;refine .cons (by rw[I.ok.kind];decide) hf hn ?_ I.uy;exact Heap.get?_none_of_le (ib I.ok.L4 I.ok.above)
def Inv.t6(I:Inv X ai σ H s):∀b∈nT X.stack,b∈X.env.locals::X.fs:=λb hb=>by
 rcases I.ok.Ql with e|⟨e,hf⟩
 .rw[e]at hb;exact iY _ hb
 .rw[e]at hb;unfold nT at hb;rw[tO,hf]at hb;exact hb
def Inv.xa(I:Inv X ai σ H s):∀b∈nT X.stack,H b=none:=λb hb=>by
 rcases cB.mp (I.t6 b hb)with e|hb
 .rw[e];exact I.free
 .obtain⟨_,o,ho,_⟩:=I.ok.uy.mem hb;exact I.base.free b o ho (I.ok.OH b hb) λz=>I.ok.L_ b z hb
def Inv.step{d':Drawn}{ch:List Addr}(I:Inv X ai σ H s)
 (hch:∀b∈ch,(b∈X.ex\/X.s₀.heap.objs.size<=b)/\b≠X.env.locals/\(∀x c,X.env.cells.lookup x=some c->c≠b)/\∀p∈X.pn++ai,p.1≠b)
 (keep:∀b o,b≠X.env.locals->b∉X.fs->b∉ch->s.heap.get? b=some o->Qt H b->h'.get? b=some o)
 (slot:∀b o,b≠X.env.locals->b∈X.fs->b∉ch->s.heap.get? b=some o->H b=none->∃sl,h'.get? b=some {o with slots:=sl}) (free:∀b o,b∉ch->s.heap.get? b=some o->H b=none->H' b=none)
 (there:∀b o,b∉ch->s.heap.get? b=some o->∃o',h'.get? b=some o')
 (nS:∀b xs,H b=some (.tup xs)->H' b=some (.tup xs)) (rC:∀b o u,H b=some (.cQ o u)->H' b=some (.cQ o u)) (uz:∀b ps,H b=some (.Jr ps)->∃more,H' b=some (.Jr (ps++more)))
 (ns:∀m,s.heap.Ns X.env.locals m->h'.Ns X.env.locals m) (bC:HOk X.prog X.w H' h') (hg:AllBare g') :
 Inv X ai σ H' {s with heap:=h',gens:=g',drawn:=d',toks:=t'}:=by
 have neL:∀b o,X.s₀.heap.get? b=some o->b≠X.env.locals:=λb o e=>dU (fy (dN e) I.ok.above);have neC:∀b o,X.s₀.heap.get? b=some o->b∉X.ex->b∉ch:=λb o e hx hb=>by
  rcases(hch b hb).1 with z|z
  .exact hx z
  .exact absurd (fy (dN e) z) (qM _)
 have cellK:∀x c,X.env.cells.lookup x=some c->∀v,s.heap.IsCell c v->h'.IsCell c v:=λx c e v ⟨o,ho,hd⟩=>by
  have nch:c∉ch:=λz=>(hch c z).2.2.1 x c e rfl;by_cases hc:c∈X.fs
  .obtain⟨sl,q⟩:=slot c o (I.L0 x c e) hc nch ho (I.oW x c e);exact⟨_,q,hd⟩
  .exact⟨o,keep c o (I.L0 x c e) hc nch ho (.inl (I.oW x c e)),hd⟩
 refine⟨I.ok,I.os,hg,⟨λb o e n hb hx=>?_,λb o e n hb hx=>?_,λb o e n hx=>?_,λb o e hx=>?_,λb xs e=>nS b xs (I.base.nS b xs e),λb o xs e=>rC b o xs (I.base.rC b o xs e),λb ps e=>?_⟩,?_,λx c e=>?_,?_,λx c e=>?_,λp hp=>?_,bC,I.len⟩
 .exact keep b o (neL b o e) hb (neC b o e hx) (I.base.keep b o e n hb hx) (n.imp (λn=>I.base.free b o e n hx) λ⟨xs,q⟩=>⟨xs,I.base.nS b xs q⟩)
 .obtain⟨sl,e1⟩:=I.base.slot b o e n hb hx;obtain⟨sl',e2⟩:=slot b _ (neL b o e) hb (neC b o e hx) e1 (I.base.free b o e n hx);exact⟨sl',e2⟩
 .obtain⟨o',e1⟩:=I.base.there b o e hx;exact free b o' (neC b o e hx) e1 (I.base.free b o e n hx)
 .obtain⟨o',e1⟩:=I.base.there b o e hx;exact there b o' (neC b o e hx) e1
 .obtain⟨m1,e1⟩:=I.base.uz b ps e
  grind
 .obtain⟨m,hn,hl⟩:=I.loc;refine⟨m,ns m hn,λi x v e1 e2 e3=>?_⟩;obtain⟨u,r,l⟩:=hl i x v e1 e2 e3;refine⟨u,r,?_⟩;rcases l with l|⟨k,c,e,z⟩
  .exact .inl l
  .exact .inr ⟨k,c,e,cellK x c e _ z⟩
 .obtain⟨v,z⟩:=I.cell x c e;exact⟨v,cellK x c e v z⟩
 .obtain⟨m,⟨o,_,_,ho,_⟩,_⟩:=I.loc;exact free _ o (λz=>(hch _ z).2.1 rfl) ho I.free
 .obtain⟨v,o,ho,hd⟩:=I.cell x c e;exact free c o (λz=>(hch c z).2.2.1 x c e rfl) ho (I.oW x c e)
 .obtain⟨e,n,ne,nf,d⟩:=I.pin p hp;have nch:p.1∉ch:=λz=>(hch p.1 z).2.2.2 p hp rfl;exact⟨keep p.1 p.2 ne nf nch e (.inl n),free p.1 p.2 nch e n,ne,nf,d⟩
def Inv.un{t':Nat}(I:Inv X ai σ H s)(u:Un X.fs [] H H' s.heap h')(bC:HOk X.prog X.w H' h'):Inv X ai σ H' {s with heap:=h',toks:=t'}:=by obtain⟨m,⟨o,es,ep,ho,r⟩,_⟩:=id I.loc;obtain⟨sl,hL⟩:=u.any ho I.free (by simp);exact I.step (g':=s.gens) (d':=s.drawn) (ch:=[]) (λ_ z=>nomatch z) (λb o _ hb _ e n=>u.keep b o e n hb (by simp)) (λb o _ hb _ e n=>u.slot b o e n hb (by simp)) (λb o _ e n=>u.free b o e n (by simp)) (λb o _ e=>u.there b o e (by simp)) u.nS u.rC u.uz (λm' hm=>by obtain⟨o',es',ep',ho',r'⟩:=hm;rw[ho]at ho';cases ho';exact⟨_,es',ep',hL,r'⟩) bC I.bare
def Inv.call{d':Drawn}{ch:List Addr}(I:Inv X ai σ H s)(u:Un (nT X.stack) ch H H' s.heap h')(bC:HOk X.prog X.w H' h')(hg:AllBare g')
 (hch:∀b∈ch,(b∈X.ex\/X.s₀.heap.objs.size<=b)/\b≠X.env.locals/\(∀x c,X.env.cells.lookup x=some c->c≠b)/\∀p∈X.pn++ai,p.1≠b) :
 Inv X ai σ H' {s with heap:=h',gens:=g',drawn:=d',toks:=t'}:=by
 obtain⟨m,⟨o,es,ep,ho,r⟩,_⟩:=id I.loc;obtain⟨sl,hL⟩:=u.any ho I.free λz=>(hch _ z).2.1 rfl;exact I.step (ch:=ch) hch (λb o hL hb hc e n=>u.keep b o e n (λz=>(cB.mp (I.t6 b z)).elim hL hb) hc) (λb o _ _ hc e n=>u.any e n hc) (λb o hc e n=>u.free b o e n hc) (λb o hc e=>u.there b o e hc) u.nS u.rC u.uz (λm' hm=>by obtain⟨o',es',ep',ho',r'⟩:=hm;rw[ho]at ho';cases ho';exact⟨_,es',ep',hL,r'⟩) bC hg
def Inv.turned{it:Addr}(I:Inv X ai σ H s)(k:∀b o,b≠it->s.heap.get? b=some o->h'.get? b=some o)(hn:H it=none)(hL:it≠X.env.locals)
 (h1:it∈X.ex\/X.s₀.heap.objs.size<=it) (h2:∀x c,X.env.cells.lookup x=some c->c≠it) (h3:∀p∈X.pn++ai,p.1≠it):Inv X ai σ H {s with heap:=h',toks:=t'}:=by
 have nit:∀b u,H b=some u->b≠it:=λb u e z=>by rw[z,hn]at e;cases e
 refine I.step (g':=s.gens) (d':=s.drawn) (ch:=[it]) (λb hb=>?_) (λb o _ _ hc e _=>k b o (λz=>hc (by simp[z])) e) (λb o _ _ hc e _=>⟨o.slots,k b o (λz=>hc (by simp[z])) e⟩) (λ_ _ _ _ n=>n)
  (λb o hc e=>⟨o,k b o (λz=>hc (by simp[z])) e⟩) (λ_ _ e=>e) (λ_ _ _ e=>e) (λb ps e=>⟨#[],by rw[e];simp⟩) (λm hm=>?_) (λb u e=>?_) I.bare
 .have e:b=it:=by simpa using hb
  subst e;exact⟨h1,hL,h2,h3⟩
 .obtain⟨o,es,ep,ho,r⟩:=hm;exact⟨o,es,ep,k _ o (kF hL) ho,r⟩
 .refine(I.bC b u e).stay (λc v hc q=>k c v ?_ q) (λ_ q=>q) λ_ _ q=>q;rcases hc with z|z
  .rw[z];exact nit b u e
  .exact nit c _ z
def Inv.tok(I:Inv X ai σ H s)(t:Nat):Inv X ai σ H {s with toks:=t}:=I.un (h':=s.heap) (t':=t) Un.refl I.bC
theorem Inv.kept(I:Inv X ai σ H s)(k:∀b u,s.heap.get? b=some u->h'.get? b=some u):Inv X ai σ H {s with heap:=h',toks:=t'}:=I.un (Un.kept k) (I.bC.kept k)
theorem Inv.laid(I:Inv X ai σ H s)(k:∀b u,s.heap.get? b=some u->h'.get? b=some u)(hp:s.heap.objs.size<=a)(new:ObjOk X.prog X.w (ck H a o) h' a o) :
 Inv X ai σ (ck H a o) {s with heap:=h',toks:=t'}:=I.un (Un.laid k hp (I.bC.fresh hp)) (I.bC.laid k hp new)
theorem Inv.write(I:Inv X ai σ H s)(mu:OJ (H x))(he:e=x\/H e=some (.own x))(k:∀b u,b≠e->s.heap.get? b=some u->h'.get? b=some u)(heo:∃u,h'.get? e=some u)
 (new:ObjOk X.prog X.w (ck H x o) h' x o):Inv X ai σ (ck H x o) {s with heap:=h',toks:=t'}:=I.un (Un.write mu he k heo) (I.bC.write mu he k heo new)
def Inv.Bx(I:Inv X ai σ H s)(h:∀p∈pins',s.heap.get? p.1=some p.2/\H p.1=none/\p.1≠X.env.locals/\p.1∉X.fs/\∀v,p.2.data≠.cell v):Inv X pins' σ H s:=⟨I.ok,I.os,I.bare,I.base,I.loc,I.cell,I.free,I.oW,λp hp=>(gg.mp hp).elim (λz=>I.pin p (qO _ z)) (h p),I.bC,I.len⟩
def xn{N:List Str}(hN:N.Nodup){i j:Nat}{x:Str}(a:N[i]?=some x)(b:N[j]?=some x):i=j:=by obtain⟨h1,e1⟩:=cD.mp a;obtain⟨h2,e2⟩:=cD.mp b;exact(List.getElem_inj hN).mp (e1.trans e2.symm)
def uC{E:RE->RB->Prop}{x:Str}{v:V}{u:RE}{Q:Unit->RB->Prop}(I:Inv X ai σ H s)(hN:X.N.Nodup)(hi:X.N[i]?=some x)(hx:Jw X.env.scope x)(r:RelV v u)
 (h:∀s',Inv X ai (σ.set i (some v)) H s'->(∃a,Heap.SameBut a s.heap s'.heap/\(a=X.env.locals\/X.env.cells.lookup x=some a))->Q () s') (hf:autoParam (X.fn x=true\/X.env.scope.names.lookup x=some .local) RO):wpAny M A (storeName X.env x u) Q E s:=by
 obtain⟨m,hn,hl⟩:=id I.loc;have hcls:(X.env.scope.kind==.class ||(X.env.scope.kind==.module&&X.env.locals != X.env.globals))=false:=by rw[I.ok.kind];rfl
 have hiσ:i<σ.length:=by rw[I.len];exact(cD.mp hi).1
 have L0:=I.L0;have tracked:∀{a:Addr}{h':Heap},(∃o,s.heap.get? a=some o/\H a=none)->Heap.SameBut a s.heap h'->HOk X.prog X.w H h':=λ{a h'} ha hs b ob e=>by
  obtain⟨_,_,hfree⟩:=ha;refine(I.bC b ob e).stay (λc w' hc q=>(hs.2 c ?_).trans q) (λ_ q=>q) λ_ _ q=>q
  grind
 rcases hx with hk|hk
 .refine wpAny_storeName_local hk hn (λh' hn' hs=>?_) hcls;obtain⟨oL,_,_,hoL,_⟩:=id hn;refine h _ ⟨I.ok,I.os,I.bare,⟨λb o e n hb hx=>?_,λb o e n hb hx=>?_,I.base.free,λb o e hx=>?_,I.base.nS,I.base.rC,I.base.uz⟩,⟨_,hn',λj y v' e1 e2 e3=>?_⟩,λy c e=>?_,I.free,I.oW,λp hp=>?_,tracked ⟨oL,hoL,I.free⟩ hs,by simpa using I.len⟩ ⟨_,hs,.inl rfl⟩
  .exact(hs.2 b (dU (fy (dN e) I.ok.above))).trans (I.base.keep b o e n hb hx)
  .obtain⟨sl,e1⟩:=I.base.slot b o e n hb hx;exact⟨sl,(hs.2 b (dU (fy (dN e) I.ok.above))).trans e1⟩
  .obtain⟨o',e1⟩:=I.base.there b o e hx;exact⟨o',(hs.2 b (dU (fy (dN e) I.ok.above))).trans e1⟩
  .by_cases hj:j=i
   .subst hj;rw[hi]at e1;cases e1;rw[dR hiσ]at e2;cases e2;exact⟨u,r,.inl ⟨hk,by simp⟩⟩
   .rw[gj (kF hj)]at e2;obtain⟨u',r',q⟩:=hl j y v' e1 e2 e3;refine⟨u',r',?_⟩;rcases q with⟨k,e⟩|⟨k,c,e,z⟩
    .refine .inl ⟨k,?_⟩;have:y≠x:=λe=>hj (xn hN e1 (e▸hi));simp[this,e]
    .exact .inr ⟨k,c,e,z.sameBut hs (L0 y c e)⟩
  .obtain⟨w',z⟩:=I.cell y c e;exact⟨w',z.sameBut hs (L0 y c e)⟩
  .obtain⟨e,n,ne,nf,d⟩:=I.pin p hp;exact⟨(hs.2 p.1 ne).trans e,n,ne,nf,d⟩
 .have hfn:X.fn x=true:=by
   rcases hf with z|z
   .exact z
   .rw[z]at hk;cases hk
  obtain⟨c,hc⟩:=I.ok.has x (.inl hk);obtain⟨w',z⟩:=I.cell x c hc;refine wpAny_storeName_cell I.ok.kind hk hc z (λh' hc' hs=>?_);obtain⟨oc,hoc,hocd⟩:=id z;refine h {s with heap:=h'} ⟨I.ok,I.os,I.bare,⟨λb o e n hb hx=>?_,λb o e n hb hx=>?_,I.base.free,λb o e hx=>?_,I.base.nS,I.base.rC,I.base.uz⟩,⟨m,hn.sameBut hs (kF (L0 x c hc)),λj y v' e1 e2 e3=>?_⟩,λy c' e=>?_,I.free,I.oW,λp hp=>?_,tracked ⟨oc,hoc,I.oW x c hc⟩ hs,by simpa using I.len⟩ ⟨c,hs,.inr hc⟩
  .exact(hs.2 b (dU (fy (dN e) (I.ok.OY x c hfn hc)))).trans (I.base.keep b o e n hb hx)
  .obtain⟨sl,e1⟩:=I.base.slot b o e n hb hx;exact⟨sl,(hs.2 b (dU (fy (dN e) (I.ok.OY x c hfn hc)))).trans e1⟩
  .obtain⟨o',e1⟩:=I.base.there b o e hx;exact⟨o',(hs.2 b (dU (fy (dN e) (I.ok.OY x c hfn hc)))).trans e1⟩
  .by_cases hj:j=i
   .subst hj;rw[hi]at e1;cases e1;rw[dR hiσ]at e2;cases e2;exact⟨u,r,.inr ⟨.inl hk,c,hc,hc'⟩⟩
   .rw[gj (kF hj)]at e2;obtain⟨u',r',q⟩:=hl j y v' e1 e2 e3;refine⟨u',r',?_⟩;rcases q with q|⟨k,c',e,z'⟩
    .exact .inl q
    .refine .inr ⟨k,c',e,z'.sameBut hs ?_⟩;rintro rfl;exact hj (xn hN e1 (I.ok.inj _ _ _ e hc▸hi))
  .by_cases hcc:c'=c
   .subst hcc;exact⟨_,hc'⟩
   .obtain⟨w2,z2⟩:=I.cell y c' e;exact⟨w2,z2.sameBut hs hcc⟩
  .obtain⟨e,n,ne,nf,d⟩:=I.pin p hp;refine⟨(hs.2 p.1 ?_).trans e,n,ne,nf,d⟩
   grind
def xo(I:Inv X ai σ H s)(hN:X.N.Nodup)(hi:X.N[i]?=some x)(hx:Jw X.env.scope x)(r:RelV v u)
 (h:∀s',Inv X ai (σ.set i (some v)) H s'->Q () s') (hf:autoParam (X.fn x=true\/X.env.scope.names.lookup x=some .local) RO):wpAny M A (storeName X.env x u) Q E s:=
 uC I hN hi hx r (λs' I' _=>h s' I') hf
def Inv.OE(I:Inv X ai σ H s)(ho:s'.os=s.os)(u:Un (nT X.stack) ch H H' s.heap s'.heap)(bC:HOk X.prog X.w H' s'.heap)(hg:AllBare s'.gens)
 (hch:∀b∈ch,(b∈X.ex\/X.s₀.heap.objs.size<=b)/\b≠X.env.locals/\(∀x c,X.env.cells.lookup x=some c->c≠b)/\∀p∈X.pn++ai,p.1≠b):Inv X ai σ H' s':=by
 obtain⟨h',g',d',t',o'⟩:=s';have e:o'=s.os:=ho;subst e;exact I.call (g':=g') (t':=t') (d':=d') u bC hg hch
end
abbrev XK:=RE->Option Addr->Hp->Prop
noncomputable abbrev St:=List (Option V)
abbrev VK:=V->Hp->Prop
abbrev TE:=St->Hp->VK->Prop
abbrev TT:=St->Hp->(Bool->Hp->Prop)->Prop
abbrev TA:=St->Hp->(List V->Hp->Prop)->Prop
structure Ends where
 nx:St->Hp->Prop
 rt:VK
 bk:St->Hp->Prop:=λ_ _=>False
 ct:St->Hp->Prop:=λ_ _=>False
abbrev TS:=Ends->St->Hp->Prop
def EP(X:Cx)(ai:List (Addr×Obj))(σ:St)(Q:VK)(u:RE)(s':RB):Prop:=∃v H',Inv X ai σ H' s'/\RelV v u/\Q v H'
def TP(X:Cx)(ai:List (Addr×Obj))(σ:St)(Q:Bool->Hp->Prop)(b:Bool)(s':RB):Prop:=∃H',Inv X ai σ H' s'/\Q b H'
def AP(X:Cx)(ai:List (Addr×Obj))(σ:St)(Q:List V->Hp->Prop)(us:List RE)(s':RB):Prop:=∃vs H',Inv X ai σ H' s'/\Vals vs us/\Q vs H'
def SP(X:Cx)(ai:List (Addr×Obj))(D:Ends)(f:Flow)(s':RB):Prop:=
 match f with
 |.next=>∃σ' H',Inv X ai σ' H' s'/\D.nx σ' H'
 |.brk=>∃σ' H',Inv X ai σ' H' s'/\D.bk σ' H'
 |.cont=>∃σ' H',Inv X ai σ' H' s'/\D.ct σ' H'
 |.ret u=>∃v σ' H',Inv X ai σ' H' s'/\RelV v u/\D.rt v H'
def PE(X:Cx)(e:Expr)(t:TE):Prop:=∀(ai:List (Addr×Obj))(s:RB)(σ:St)(H:Hp)(Q:VK),Inv X ai σ H s->t σ H Q->wpAny (model X.prog X.w) X.A (eval e X.env) (EP X ai σ Q) X.xe s
def PT(X:Cx)(e:Expr)(t:TT):Prop:=∀(ai:List (Addr×Obj))(s:RB)(σ:St)(H:Hp)(Q:Bool->Hp->Prop),Inv X ai σ H s->t σ H Q->wpAny (model X.prog X.w) X.A (isTrue e X.env (eval e X.env)) (TP X ai σ Q) X.xe s
def PW(X:Cx)(e:Expr)(t:TT):Prop:=∀(whole:Sem RE)(ai:List (Addr×Obj))(s:RB)(σ:St)(H:Hp)(Q:Bool->Hp->Prop),Inv X ai σ H s->t σ H Q->wpAny (model X.prog X.w) X.A (isTrue e X.env whole) (TP X ai σ Q) X.xe s
def PW.pt(h:PW X e t):PT X e t:=h _
def PA(X:Cx)(es:List Expr)(t:TA):Prop:=∀(pos:Pos)(ai:List (Addr×Obj))(s:RB)(σ:St)(H:Hp)(Q:List V->Hp->Prop),Inv X ai σ H s->t σ H Q->wpAny (model X.prog X.w) X.A (spliced (backTo pos (starEach es X.env))) (AP X ai σ Q) X.xe s
def PS(X:Cx)(st:Stmt)(t:TS):Prop:=∀(ai:List (Addr×Obj))(s:RB)(σ:St)(H:Hp)(D:Ends),Inv X ai σ H s->t D σ H->wpAny (model X.prog X.w) X.A (exec st X.env) (SP X ai D) X.xe s
def Gc(X:Cx)(st:List Stmt)(t:TS):Prop:=∀(ai:List (Addr×Obj))(s:RB)(σ:St)(H:Hp)(D:Ends),Inv X ai σ H s->t D σ H->wpAny (model X.prog X.w) X.A (execs st X.env) (SP X ai D) X.xe s
def dY{α:Type}{t:Sem α}{Q Q':α->RB->Prop}{M:Model}{A:RF}{E:RE->RB->Prop}{s:RB}(h:wpAny M A t Q E s)(hQ:∀a s,Q a s->Q' a s):wpAny M A t Q' E s:=ni h hQ λ_ _ x=>x
section
variable{X:Cx}
noncomputable def t7(i:Nat):TE:=λσ H Q=>∃v,σ[i]?=some (some v)/\Q v H
noncomputable def tC(v:V):TE:=λ_ H Q=>Q v H
def Jx(hN:X.N[i]?=some x)(hv:OK X.env.scope x)(hd:autoParam (dB x) RN) (hcd:autoParam ((x==("__classdict__" : Str))=false) RN):PE X (.Name x pos) (t7 i):=by
 intro ai s σ H Q I h;obtain⟨v,e,h⟩:=h;obtain⟨m,hn,hl⟩:=I.loc;obtain⟨u,r,l⟩:=hl i x v hN e hv;have fin:EP X ai σ Q u s:=⟨v,H,I,r,h⟩;rcases l with⟨hk,hm⟩|⟨hk,c,hc,hcell⟩
 .exact wpAny_Name (wpAny_loadName_local I.ok.kind hk hn hm fin) hd
 .rcases hk with hk|hk
  .exact wpAny_Name (wpAny_loadName_cell I.ok.kind hk hc hcell fin) hd
  .exact wpAny_Name (wpAny_loadName_free I.ok.kind hk hc hcell fin hcd) hd
def Jy{i j pos}:PE X (.Constant (.int i) j pos) (tC (.int i)):=λ_ _ _ H _ I h=>wpAny_Constant_int ⟨.int i,H,I.tok _,⟨_,rfl⟩,h⟩
def Ml{b j pos}:PE X (.Constant (.bool b) j pos) (tC (.bl b)):=λ_ _ _ H _ I h=>Constant_bool ⟨.bl b,H,I,rfl,h⟩
def Jz{x j pos}:PE X (.Constant (.str x) j pos) (tC (.str x)):=λ_ _ _ H _ I h=>Calls.Constant_str ⟨.str x,H,I.tok _,⟨_,rfl⟩,h⟩
def Gl(X:Cx)(x:Str):Prop:=X.env.kindOf x=some .globalImplicit
def vM(I:Inv X ai σ H s)(hg:Gl X x)(hm:X.mg x=some u)(h:Q u s)
 (hd:autoParam (dB x) RN):wX X (eval (.Name x pos) X.env) Q E s:=
 Calls.Name_function_global I.ok.kind hg (Calls.loadGlobal_global (by rw[I.ok.glob];exact I.mod.glob.keeps I.bk) hm h) hd
def kY(I:Inv X ai σ H s)(hg:Gl X x)(hm:X.mg x=none)(hv:bootBuiltins x=some u)(h:Q u s)
 (hn:autoParam (x≠"__name__") RN) (hd:autoParam (dB x) RN):wX X (eval (.Name x pos) X.env) Q E s:=by
 obtain⟨mb,h1,h2⟩:=I.mod.blt;exact Calls.Name_function_global I.ok.kind hg (Calls.loadGlobal_builtin (by rw[I.ok.glob];exact I.mod.glob.keeps I.bk) hm (by rw[I.ok.blt];exact h1.keeps I.bk) ((h2 x hn).trans hv) h) hd
def vN(hg:Gl X x)(hm:X.mg x=some u)(r:RelV v u)(hd:autoParam (dB x) RN):PE X (.Name x pos) (tC v):=λ_ _ _ H _ I h=>vM I hg hm ⟨v,H,I,r,h⟩ hd
def Ge(hg:Gl X x)(hm:X.mg x=none)(hv:bootBuiltins x=some u)(r:RelV v u)(hn:autoParam (x≠"__name__") RN) (hd:autoParam (dB x) RN):PE X (.Name x pos) (tC v):=λ_ _ _ H _ I h=>kY I hg hm hv ⟨v,H,I,r,h⟩ hn hd
variable{a b:Expr}{ta tb:TE}{pos:Pos}
variable{tA tB':TT}{bj:List Expr}
noncomputable def O7(t u:TT):TT:=λσ H Q=>t σ H λc H1=>if c=true then u σ H1 Q else Q false H1
noncomputable def QL(t u:TT):TT:=λσ H Q=>t σ H λc H1=>if c=true then Q true H1 else u σ H1 Q
noncomputable def O8(t:TT):TT:=λσ H Q=>t σ H λc H1=>Q (!c) H1
def Gf(ha:PT X a tA):PW X (.BoolOp .And [a] pos) tA:=by
 intro wh ai s σ H Q I h;refine isTrue_and (dY (ha ai s σ H Q I h) λc s1 e=>?_);cases c with
 |true=>exact isTrue_and_nil e
 |false=>exact e
def JA(ha:PT X a tA):PW X (.BoolOp .Or [a] pos) tA:=by
 intro wh ai s σ H Q I h;refine isTrue_or (dY (ha ai s σ H Q I h) λc s1 e=>?_);cases c with
 |false=>exact isTrue_or_nil e
 |true=>exact e
def JB(ha:PT X a tA)(hb:PW X (.BoolOp .And (b::bj) pos) tB'):PW X (.BoolOp .And (a::b::bj) pos) (O7 tA tB'):=by
 intro wh ai s σ H Q I h;refine isTrue_and (dY (ha ai s σ H _ I h) λc s1 ⟨H1,I1,q1⟩=>?_);cases c with
 |true=>exact hb wh ai s1 σ H1 Q I1 q1
 |false=>exact⟨H1,I1,q1⟩
def Mm(ha:PT X a tA)(hb:PW X (.BoolOp .Or (b::bj) pos) tB'):PW X (.BoolOp .Or (a::b::bj) pos) (QL tA tB'):=by
 intro wh ai s σ H Q I h;refine isTrue_or (dY (ha ai s σ H _ I h) λc s1 ⟨H1,I1,q1⟩=>?_);cases c with
 |true=>exact⟨H1,I1,q1⟩
 |false=>exact hb wh ai s1 σ H1 Q I1 q1
def JC(ha:PT X a tA):PT X (.UnaryOp .Not a pos) (O8 tA):=by intro ai s σ H Q I h;exact isTrue_not (ha ai s σ H (λc H1=>Q (!c) H1) I h)
noncomputable def Mn(ta tb:TE):TE:=λσ H Q=>ta σ H λx H1=>∃c,x=.bl c/\if c=true then tb σ H1 Q else Q (.bl false) H1
noncomputable def O9(ta tb:TE):TE:=λσ H Q=>ta σ H λx H1=>∃c,x=.bl c/\if c=true then Q (.bl true) H1 else tb σ H1 Q
noncomputable def Mo(ta:TE):TE:=λσ H Q=>ta σ H λx H1=>∃c,x=.bl c/\Q (.bl (!c)) H1
def JD{op}(h:PE X a t):PE X (.BoolOp op [a] pos) t:=λai s σ H Q I hw=>BoolOp_one (h ai s σ H Q I hw)
def JE(ha:PE X a ta)(hb:PE X (.BoolOp .And (b::bj) pos) tb):PE X (.BoolOp .And (a::b::bj) pos) (Mn ta tb):=by
 intro ai s σ H Q I h;refine BoolOp_and (dY (ha ai s σ H _ I h) λv s1 ⟨x,H1,I1,r1,q1⟩=>?_);obtain⟨c,rfl,q1⟩:=q1;cases r1;refine kG ?_;cases c with
 |true=>exact hb ai s1 σ H1 Q I1 q1
 |false=>exact⟨.bl false,H1,I1,rfl,q1⟩
def Mp(ha:PE X a ta)(hb:PE X (.BoolOp .Or (b::bj) pos) tb):PE X (.BoolOp .Or (a::b::bj) pos) (O9 ta tb):=by
 intro ai s σ H Q I h;refine BoolOp_or (dY (ha ai s σ H _ I h) λv s1 ⟨x,H1,I1,r1,q1⟩=>?_);obtain⟨c,rfl,q1⟩:=q1;cases r1;refine kG ?_;cases c with
 |false=>exact hb ai s1 σ H1 Q I1 q1
 |true=>exact⟨.bl true,H1,I1,rfl,q1⟩
def JF(ha:PE X a ta):PE X (.UnaryOp .Not a pos) (Mo ta):=by intro ai s σ H Q I h;refine UnaryOp_ (dY (ha ai s σ H _ I h) λv s1 ⟨x,H1,I1,r1,q1⟩=>?_);obtain⟨c,rfl,q1⟩:=q1;cases r1;exact not_of (kG ⟨.bl (!c),H1,I1,rfl,q1⟩)
noncomputable def QM(t:TT)(ta tb:TE):TE:=λσ H Q=>t σ H λc H1=>if c=true then ta σ H1 Q else tb σ H1 Q
def C4(hc:PT X c tA)(ha:PE X a ta)(hb:PE X b tb):PE X (.IfExp c a b pos) (QM tA ta tb):=by
 intro ai s σ H Q I h;refine wpAny_IfExp (dY (hc ai s σ H _ I h) λd s1 ⟨H1,I1,q1⟩=>?_);cases d with
 |true=>exact ha ai s1 σ H1 Q I1 q1
 |false=>exact hb ai s1 σ H1 Q I1 q1
end
def SqL(K:RC)(H:Hp)(a:Addr)(xs:List V):Prop:=
 Rd H a (.lst xs)\/
  ∃(o:Obj)(its:Array RE)(n:Nat),K.lookup a=some o/\o.cls=.type "list"/\o.dict=none/\o.data=.seq its n/\its.size<=sizeLine/\Vals xs its.toList
def SqT(K:RC)(H:Hp)(a:Addr)(xs:List V):Prop:=
 Rd H a (.tup xs)\/
  ∃(o:Obj)(its:Array RE)(n:Nat),K.lookup a=some o/\o.cls=.type "tuple"/\o.data=.seq its n/\its.size<=sizeLine/\Vals xs its.toList
noncomputable def O_:RE->Option V
 |.none=>some .ig
 |.bool b=>some (.bl b)
 |.int i _=>some (.int i)
 |.str x _=>some (.str x)
 |.bytes b _=>some (.OB b)
 |.float b _=>some (.Mh b)
 |.ref a=>some (.ref a)
 |.type n=>some (.ty n)
 |_=>none
def RelV.abs(r:RelV x u):O_ u=some x:=by
 cases x with
 |ig=>cases r;rfl
 |bl _=>cases r;rfl
 |int _=>obtain⟨t,rfl⟩:=r;rfl
 |str _=>obtain⟨t,rfl⟩:=r;rfl
 |OB _=>obtain⟨t,rfl⟩:=r;rfl
 |Mh _=>obtain⟨t,rfl⟩:=r;rfl
 |ref _=>cases r;rfl
 |ty _=>cases r;rfl
def RelV.inj(r:RelV x u)(q:RelV y u):x=y:=ia (r.abs.symm.trans q.abs)
theorem Vals.inj{xs ys:List V}{us:List RE}(h:Vals xs us)(k:Vals ys us):xs=ys:=by
 induction h generalizing ys with
 |nil=>cases k;rfl
 |cons r _ ih=>
  cases k with
  |cons r' t'=>rw[r.inj r',ih t']
section
def SqL.of{K:RC}(h:H a=some (.lst xs)):SqL K H a xs:=.inl (.inl h)
def SqT.of{K:RC}(h:H a=some (.tup xs)):SqT K H a xs:=.inl (.inl h)
def Inv.list(I:Inv X ai σ H s)(h:SqL X.K H a xs):∃its:List RE,Vals xs its/\PlainL s.heap a its.toArray/\xs.length<=sizeLine:=by
 rcases h with h|⟨o,its,n,hk,hc,hd,hs,hz,r⟩
 .obtain⟨z,its,n,r,e⟩:=h.ok I.bC;exact⟨its,r,⟨_,n,e,rfl,rfl,rfl⟩,z⟩
 .refine⟨its.toList,r,⟨o,n,I.vK a o hk,hc,hd,by simpa using hs⟩,?_⟩;have e:=r.length;simp only[tP]at e;lia
def Inv.tuple(I:Inv X ai σ H s)(h:SqT X.K H a xs):∃its:List RE,Vals xs its/\IsTup s.heap a its.toArray/\xs.length<=sizeLine:=by
 rcases h with h|⟨o,its,n,hk,hc,hs,hz,r⟩
 .obtain⟨z,its,r,p⟩:=h.ok I.bC;exact⟨its,r,p,z⟩
 .refine⟨its.toList,r,⟨o,I.vK a o hk,hc,n,by simpa using hs⟩,?_⟩;have e:=r.length;simp only[tP]at e;lia
def Inv.yT(I:Inv X ai σ H s)(h:SqL X.K H a xs)(h':SqL X.K H a ys):xs=ys:=by
 obtain⟨its,r,⟨o,n,e,_,_,d⟩,_⟩:=I.list h;obtain⟨its',r',⟨o',n',e',_,_,d'⟩,_⟩:=I.list h';rw[e]at e';cases e';rw[d]at d';injection d' with d1 _;have:its=its':=by simpa using ie Array.toList d1
 subst this;exact r.inj r'
def Inv.CV(I:Inv X ai σ H s)(h:SqT X.K H a xs)(h':SqT X.K H a ys):xs=ys:=by
 obtain⟨its,r,⟨o,e,_,n,d⟩,_⟩:=I.tuple h;obtain⟨its',r',⟨o',e',_,n',d'⟩,_⟩:=I.tuple h';rw[e]at e';cases e';rw[d]at d';injection d' with d1 _;have:its=its':=by simpa using ie Array.toList d1
 subst this;exact r.inj r'
end
section
variable{X:Cx}{st:Stmt}{bj:List Stmt}{t u:TS}
noncomputable def Mq:TS:=λD σ H=>D.nx σ H
noncomputable def Pa(t u:TS):TS:=λD σ H=>t {D with nx:=u D} σ H
def Gg:Gc X [] Mq:=λ_ _ σ H _ I h=>wpAny_execs_nil ⟨σ,H,I,h⟩
def C5(h1:PS X st t)(h2:Gc X bj u):Gc X (st::bj) (Pa t u):=by
 intro ai s σ H D I h;refine wpAny_execs_cons (dY (h1 ai s σ H {D with nx:=u D} I h) λf s1 q=>?_);cases f with
 |next=>obtain⟨σ',H',I',q⟩:=q;exact h2 ai s1 σ' H' D I' q
 |ret v=>exact q
 |brk=>exact q
 |cont=>exact q
def Gh(h1:PS X st t):Gc X [st] t:=by
 intro ai s σ H D I h;refine wpAny_execs_cons (dY (h1 ai s σ H D I h) λf s1 q=>?_);cases f with
 |next=>exact wpAny_execs_nil q
 |ret v=>exact q
 |brk=>exact q
 |cont=>exact q
def Inv.quiet(I:Inv X ai σ H s):interactive X.env=false:=by simp[interactive,I.ok.kind]
noncomputable def Mr(te:TE):TS:=λD σ H=>te σ H λ_ H1=>D.nx σ H1
def nV(he:PE X e te)(hs:autoParam (swapsWith e none pos.line X.env=pure false) RQ):PS X (.Expr e pos) (Mr te):=by intro ai s σ H D I h;exact wpAny_Expr_any (dY (he ai s σ H _ I h) λv s1 ⟨x,H1,I1,r1,q1⟩=>⟨σ,H1,I1,q1⟩) I.quiet hs
noncomputable def Pb(te:TE):TS:=λD σ H=>te σ H D.rt
def JG(he:PE X e te):PS X (.Return (some e) pos) (Pb te):=by intro ai s σ H D I h;exact wpAny_Return_some (dY (he ai s σ H _ I h) λv s1 ⟨x,H1,I1,r1,q1⟩=>⟨x,σ,H1,I1,r1,q1⟩)
noncomputable def Pc(c:TT)(t u:TS):TS:=λD σ H=>c σ H λb H1=>if b=true then t D σ H1 else u D σ H1
def Ms(hc:PT X c tc)(ha:Gc X a t)(hb:Gc X b u):PS X (.If c a b pos) (Pc tc t u):=by
 intro ai s σ H D I h;refine wpAny_If (dY (hc ai s σ H _ I h) λd s1 ⟨H1,I1,q1⟩=>?_);cases d with
 |true=>exact ha ai s1 σ H1 D I1 q1
 |false=>exact hb ai s1 σ H1 D I1 q1
end
abbrev TG:=V->St->Hp->(St->Hp->Prop)->Prop
abbrev Md:=List V->St->Hp->(St->Hp->Prop)->Prop
def PG(X:Cx)(target:Expr)(t:TG):Prop:=
 ∀(ai:List (Addr×Obj))(s:RB)(σ:St)(H:Hp)(v:V)(u:RE)(Q:St->Hp->Prop),Inv X ai σ H s->RelV v u->t v σ H Q->
  wpAny (model X.prog X.w) X.A (assign target X.env u) (λ_ s'=>∃σ' H',Inv X ai σ' H' s'/\Q σ' H') X.xe s
def JH(X:Cx)(ts:List Expr)(t:Md):Prop:=
 ∀(ai:List (Addr×Obj))(s:RB)(σ:St)(H:Hp)(vs:List V)(us:List RE)(Q:St->Hp->Prop),Inv X ai σ H s->Vals vs us->t vs σ H Q->
  wpAny (model X.prog X.w) X.A (assignInOrder ((assignEach ts X.env).map (·.2)) us) (λ_ s'=>∃σ' H',Inv X ai σ' H' s'/\Q σ' H') X.xe s
section
noncomputable def rQ(i:Nat):TG:=λv σ H Q=>Q (σ.set i (some v)) H
def Au(hN:X.N.Nodup)(hi:X.N[i]?=some x)(hx:Jw X.env.scope x)(hf:autoParam (X.fn x=true\/X.env.scope.names.lookup x=some .local) RO):PG X (.Name x pos) (rQ i):=by intro ai s σ H v u Q I r h;exact wpAny_assign_Name (xo I hN hi hx r (λs' I'=>⟨_,H,I',h⟩) hf)
noncomputable def Pd:Md:=λvs σ H Q=>vs=[]/\Q σ H
noncomputable def IA(t:TG)(u:Md):Md:=λvs σ H Q=>∃v r,vs=v::r/\t v σ H λσ' H'=>u r σ' H' Q
def Gi:JH X [] Pd:=by intro ai s σ H vs us Q I r h;obtain⟨e,h⟩:=h;subst e;cases r;exact assignInOrder_nil ⟨σ,H,I,h⟩
def aL(h1:PG X e t)(h2:JH X es u)
 (hs:autoParam ((assignEach (e::es) X.env).map (·.2)=assign e X.env::(assignEach es X.env).map (·.2)) RQ):JH X (e::es) (IA t u):=by
 intro ai s σ H vs us Q I r h;obtain⟨v,vr,e1,h⟩:=h;subst e1;cases r with
 |cons r rr=>rw[hs];refine assignInOrder_cons (dY (h1 ai s σ H _ _ _ I r h) λ_ s1 ⟨σ1,H1,I1,q1⟩=>?_);exact h2 ai s1 σ1 H1 _ _ Q I1 rr q1
noncomputable def Pe(K:RC)(n:Nat)(t:Md):TG:=λv σ H Q=>∃a xs,v=.ref a/\SqT K H a xs/\xs.length=n/\t xs σ H Q
def JI(hc:X.calm=true)(h:JH X es t)
 (hn:autoParam ((assignEach es X.env).length=n) RQ) (hst:autoParam ((assignEach es X.env).findIdx? (·.1)=none) RQ):PG X (.Tuple es k pos) (Pe X.K n t):=by
 intro ai s σ H v u Q I r hw;obtain⟨a,xs,e1,hq,hl,hw⟩:=hw;subst e1;cases r;obtain⟨its,rv,ht,hz⟩:=I.tuple hq;refine assign_Tuple_tuple (I.ok.hd hc) ht (by simp[hn,<- hl,rv.length]) hst λh' hx=>?_;have I1:Inv X ai σ H {s with heap:=h'}:=I.kept (t':=s.toks) λb o e=>hx b o (dU (dN e)) e;exact h ai _ σ H xs _ Q I1 (by simpa using rv) hw
noncomputable def Gj(te:TE)(g:TG):TS:=λD σ H=>te σ H λx H1=>g x σ H1 D.nx
def JJ(he:PE X e te)(hg:PG X tg g)(hs:autoParam (swapsWithSole [tg] e pos.line X.env=pure false) RQ)(hw:autoParam (swappedStores [tg] e X.env=pure none) RQ)
 (h1:autoParam ((assignEach [tg] X.env).map (·.2)=[assign tg X.env]) RQ):PS X (.Assign [tg] e pos) (Gj te g):=by
 intro ai s σ H D I h;refine wpAny_Assign_stores (dY (he ai s σ H _ I h) λv s1 ⟨x,H1,I1,r1,q1⟩=>?_) hs hw;rw[h1];exact dY (hg ai s1 σ H1 x v _ I1 r1 q1) λ_ s2 q=>q
def C6(hN:X.N.Nodup)(hi:X.N[i]?=some x)(hx:Jw X.env.scope x)(he:PE X e te)(hs:autoParam (swapsWith e (some (.Name x pos')) pos.line X.env=pure false) RQ)(hf:autoParam (X.fn x=true\/X.env.scope.names.lookup x=some .local) RO) :
 PS X (.Assign [.Name x pos'] e pos) (Gj te (rQ i)):=by
 intro ai s σ H D I h;refine wpAny_Assign_Name (dY (he ai s σ H _ I h) λv s1 ⟨y,H1,I1,r1,q1⟩=>?_) hs;exact xo I1 hN hi hx r1 (λs2 I2=>⟨_,H1,I2,q1⟩) hf
end
structure It where
 go:Nat->Hp->Prop
 Mi:Nat->Hp->V->Hp->Prop
 stop:Nat->Hp->Prop
def kM(X:Cx)(ai:List (Addr×Obj))(H:Hp)(b:Addr):Prop:=H b=none/\b≠X.env.locals/\b∉X.fs/\(b∈X.ex\/X.s₀.heap.objs.size<=b)/\(∀x c,X.env.cells.lookup x=some c->c≠b)/\∀p∈X.pn++ai,p.1≠b
def Inv.uA(I:Inv X ai σ H s)(hb:s.heap.objs.size<=b)(hn:H' b=none):kM X ai H' b:=by
 refine⟨hn,qJ (fy I.lt hb),I.Qo hb,.inr (ib I.sz hb),λx c e z=>?_,λp hp z=>?_⟩
 .obtain⟨v,q⟩:=I.cell x c e;exact absurd (fy q.lt (by rw[z];exact hb)) (qM _)
 .exact absurd (fy (dN (I.pin p hp).1) (by rw[z];exact hb)) (qM _)
structure Turn(P:RD) (w:World) (K:RC) (tg:Expr) (J:It) (fp:List Addr) (it:Addr) (tn:Nat->Heap->Prop):Prop where
 mem:it∈fp
 obj:∀i h,tn i h->∀b∈fp,∃o,h.get? b=some o/\∀v,o.data≠.cell v
 keep:∀i h h',tn i h->(∀b∈fp,∀o,h.get? b=some o->h'.get? b=some o)->tn i h'
 item:∀(X:Cx),X.prog=P->X.w=w->X.K=K->X.calm=true->∀(i:Nat)(ai:List (Addr×Obj))(s:RB)(σ:St)(H:Hp)(E:RE->RB->Prop),Inv X ai σ H s->(∀b∈fp,kM X ai H b)->tn i s.heap->J.go i H->
  wpAny (model P w) X.A (pyNext (.ref it)) (λr s1=>∃u,r=some u/\
   wpAny (model P w) X.A (letOwnedTupleGo tg (.ref it) u) (λ_ s2=>∃x H',Inv X ai σ H' s2/\RelV x u/\J.Mi i H x H'/\tn (i+1) s2.heap/\∀b∈fp,H' b=none) E s1) E s
 done:∀(X:Cx),X.prog=P->X.w=w->X.K=K->X.calm=true->∀(i:Nat)(ai:List (Addr×Obj))(s:RB)(σ:St)(H:Hp)(E:RE->RB->Prop),Inv X ai σ H s->(∀b∈fp,kM X ai H b)->tn i s.heap->J.stop i H->
  wpAny (model P w) X.A (pyNext (.ref it)) (λr s1=>r=none/\Inv X ai σ H s1) E s
 self:∀(A:RF)(i:Nat)(s:RB)(Q:RE->RB->Prop)(E:RE->RB->Prop),tn i s.heap->Q (.ref it) s->wpAny (model P w) A (pyIter (.ref it)) Q E s
abbrev TI:=St->Hp->(It->Hp->Prop)->Prop
def Qq(X:Cx)(ai:List (Addr×Obj))(σ:St)(tg:Expr)(R:It->Hp->Prop)(itv:RE)(s2:RB):Prop:=∃(it:Addr)(fp:List Addr)(tn:Nat->Heap->Prop)(J:It)(H':Hp),itv=.ref it/\Inv X ai σ H' s2/\Turn X.prog X.w X.K tg J fp it tn/\tn 0 s2.heap/\(∀b∈fp,kM X ai H' b)/\R J H'
def PI(X:Cx)(tg iter:Expr)(wi:TI):Prop:=
 ∀(ai:List (Addr×Obj))(s:RB)(σ:St)(H:Hp)(R:It->Hp->Prop),Inv X ai σ H s->wi σ H R->
  wpAny (model X.prog X.w) X.A (eval iter X.env) (λv s1=>wpAny (model X.prog X.w) X.A (pyIter v) (Qq X ai σ tg R) X.xe s1) X.xe s
def Av(ho:s.heap.get? it=some o)(hc:o.cls=.type n)(hd:o.data=.fields vs)
 (hn:["enumerate","zip","dict_itemiterator","dict_reverseitemiterator","odict_iterator","itertools.zip_longest","itertools.pairwise"].contains n=false) (hQ:Q () s):wpAny M A (letOwnedTupleGo tg (.ref it) u) Q E s:=by
 unfold letOwnedTupleGo;cases tg<;>first
  |exact cZ hQ
  |(cases u<;>first
     |exact cZ hQ
     |(refine aW (wpAny_load ho ?_)
       rw[hc,hd];show wpAny M A (if(["enumerate","zip","dict_itemiterator","dict_reverseitemiterator","odict_iterator","itertools.zip_longest","itertools.pairwise"].contains n&&vs[0]?==some (rawInt _))=true then _ else _) Q E s;rw[dS (by intro h;rw[hn,Rm]at h;cases h)];exact cZ hQ))
noncomputable def Pf(K:RC)(a:Addr):It:=⟨λi H=>∃xs x,SqL K H a xs/\xs[i]?=some x,λi H x H'=>H'=H/\∀xs,SqL K H a xs->xs[i]?=some x,λi H=>∃xs,SqL K H a xs/\xs.length<=i⟩
noncomputable def Pg(K:RC)(a:Addr):It:=⟨λi H=>∃xs x,SqT K H a xs/\xs[i]?=some x,λi H x H'=>H'=H/\∀xs,SqT K H a xs->xs[i]?=some x,λi H=>∃xs,SqT K H a xs/\xs.length<=i⟩
noncomputable def OL(lo:Int)(n:Nat):It:=⟨λi _=>i<n,λi H x H'=>H'=H/\x=.int (lo+i),λi _=>n<=i⟩
def BD{K:RC}{tg:Expr}(a it:Addr):Turn P w K tg (Pf K a) [it] it (λi h=>h.IsListIter it a i) where
 mem:=by simp
 obj:=λi h st b hb=>by
  have e:b=it:=by simpa using hb
  subst e;obtain⟨o,e,c,d⟩:=st;exact⟨o,e,λv z=>by rw[d]at z;cases z⟩
 keep:=λi h h' st k=>st.at λo e=>k it (by simp) o e
 item:=by intro X hP hw hK hc i ai s σ H E I hf st hg;subst hP hw hK;obtain⟨xs,x,hq,hx⟩:=hg;obtain⟨its,rv,p,hz⟩:=I.list hq;obtain⟨u,hu,ru⟩:=rv.get hx;obtain⟨f0,f1,f2,f3,f4,f5⟩:=hf it (by simp);refine wpAny_pyNext_list_item st p.isList (x:=u) (by simpa using hu) λh' st' sb=>?_;have I1:Inv X ai σ H {s with heap:=h'}:=I.turned (t':=s.toks) (λb o hb e=>(sb.2 b hb).trans e) f0 f1 f3 f4 f5;obtain⟨o,e,c,d⟩:=id st';exact⟨u,rfl,Av (s:={s with heap:=h'}) e c d (by decide) ⟨x,H,I1,ru,⟨rfl,λys hy=>by rw[I.yT hy hq];exact hx⟩,st',λb hb=>(hf b hb).1⟩⟩
 done:=by intro X hP hw hK hc i ai s σ H E I hf st hg;subst hP hw hK;obtain⟨xs,hq,hx⟩:=hg;obtain⟨its,rv,p,hz⟩:=I.list hq;obtain⟨f0,f1,f2,f3,f4,f5⟩:=hf it (by simp);have hl:=rv.length;exact wpAny_pyNext_list_end (I.ok.hd hc) st p.isList (by simp;lia) λh' eb=>⟨rfl,I.turned (t':=s.toks) (λb o hb e=>eb b o hb e) f0 f1 f3 f4 f5⟩
 self:=λ_ _ _ _ _ st h=>wpAny_pyIter_listiter st h
def y3{K:RC}{tg:Expr}(a it:Addr):Turn P w K tg (Pg K a) [it] it (λi h=>h.IsTupleIter it a i) where
 mem:=by simp
 obj:=λi h st b hb=>by
  have e:b=it:=by simpa using hb
  subst e;obtain⟨o,e,c,d⟩:=st;exact⟨o,e,λv z=>by rw[d]at z;cases z⟩
 keep:=λi h h' st k=>st.at λo e=>k it (by simp) o e
 item:=by intro X hP hw hK hc i ai s σ H E I hf st hg;subst hP hw hK;obtain⟨xs,x,hq,hx⟩:=hg;obtain⟨its,rv,p,hz⟩:=I.tuple hq;obtain⟨u,hu,ru⟩:=rv.get hx;obtain⟨f0,f1,f2,f3,f4,f5⟩:=hf it (by simp);refine wpAny_pyNext_tuple_item st (show s.heap.IsTuple a its.toArray from p) (x:=u) (by simpa using hu) λh' st' sb=>?_;have I1:Inv X ai σ H {s with heap:=h'}:=I.turned (t':=s.toks) (λb o hb e=>(sb.2 b hb).trans e) f0 f1 f3 f4 f5;obtain⟨o,e,c,d⟩:=id st';exact⟨u,rfl,Av (s:={s with heap:=h'}) e c d (by decide) ⟨x,H,I1,ru,⟨rfl,λys hy=>by rw[I.CV hy hq];exact hx⟩,st',λb hb=>(hf b hb).1⟩⟩
 done:=by intro X hP hw hK hc i ai s σ H E I hf st hg;subst hP hw hK;obtain⟨xs,hq,hx⟩:=hg;obtain⟨its,rv,p,hz⟩:=I.tuple hq;obtain⟨f0,f1,f2,f3,f4,f5⟩:=hf it (by simp);have hl:=rv.length;exact wpAny_pyNext_tuple_end (I.ok.hd hc) st (show s.heap.IsTuple a its.toArray from p) (by simp;lia) λh' eb=>⟨rfl,I.turned (t':=s.toks) (λb o hb e=>eb b o hb e) f0 f1 f3 f4 f5⟩
 self:=λ_ _ _ _ _ st h=>wpAny_pyIter_tupleiter st h
def y9{K:RC}{tg:Expr}(it:Addr)(lo:Int)(n:Nat):Turn P w K tg (OL lo n) [it] it (λi h=>IsRangeIter h it (lo+(i:Nat)*1) ((n:Int)-(i:Nat)) 1) where
 mem:=by simp
 obj:=λi h st b hb=>by grind
 keep:=λi h h' st k=>k it (by simp) _ st
 item:=by intro X hP hw hK hc i ai s σ H E I hf st hg;subst hP hw hK;obtain⟨f0,f1,f2,f3,f4,f5⟩:=hf it (by simp);have W:=Walks.range (prog:=X.prog) (w:=X.w) (I.ok.hd hc) it lo 1 n;refine W.item i s _ _ hg st λv h' tk hv st' kk=>?_;obtain⟨t,rfl⟩:=hv;have I1:Inv X ai σ H {s with heap:=h',toks:=tk}:=I.turned (λb o hb e=>kk b o (by simpa using hb) e) f0 f1 f3 f4 f5;refine⟨_,rfl,Av (s:={s with heap:=h',toks:=tk}) (n:="range_iterator") st' rfl rfl (by decide) ⟨.int (lo+i),H,I1,⟨t,?_⟩,⟨rfl,rfl⟩,st',λb hb=>(hf b hb).1⟩⟩;rw[Int.mul_one]
 done:=by intro X hP hw hK hc i ai s σ H E I hf st hg;subst hP hw hK;obtain⟨f0,f1,f2,f3,f4,f5⟩:=hf it (by simp);exact wpAny_pyNext_range_end (I.ok.hd hc) st (by have:n<=i:=hg;lia) λh' eb=>⟨rfl,I.turned (t':=s.toks) (λb o hb e=>eb b o hb e) f0 f1 f3 f4 f5⟩
 self:=λ_ _ _ _ _ st h=>wpAny_pyIter_rangeiter st h
section
def C7{s:RB}{R:It->Hp->Prop}{E:RE->RB->Prop}{lo hi:Int}{t u v:Tok}{tk:Nat}(I:Inv X ai σ H s)(h1:-(2^62)<=lo)(h2:lo<2^62)(h3:-(2^62)<=hi)(h4:hi<2^62)
 (q:R (OL lo (hi-lo).toNat) H):wX X (pyIter (.ref s.heap.objs.size)) (Qq X ai σ tg R) E { s with heap:=s.heap.push { cls:=.type "range",data:=.fields #[.int lo t,.int hi u,.int 1 v] },toks:=tk }:=by
 refine wpAny_pyIter_range (IsRange.new ..) (small_one h1 h2 h3 h4) ?_;have I1:Inv X ai σ H { s with heap:=s.heap.push { cls:=.type "range",data:=.fields #[.int lo t,.int hi u,.int 1 v] },toks:=tk }:=I.kept λb o e=>cA _ e;refine⟨(s.heap.push { cls:=.type "range",data:=.fields #[.int lo t,.int hi u,.int 1 v] }).objs.size,[(s.heap.push { cls:=.type "range",data:=.fields #[.int lo t,.int hi u,.int 1 v] }).objs.size],_,_,H,rfl,
  I1.kept (t':=tk) λb o e=>cA _ e,y9 _ lo (hi-lo).toNat,?_,λb hb=>?_,q⟩
 .have e1:lo+((0:Nat):Int)*1=lo:=by simp
  have e2:(((hi-lo).toNat:Nat):Int)-((0:Nat):Int)=Builtin.Range.rangeSize lo hi 1:=by rw[rangeSize_one];split<;>lia
  show IsRangeIter _ _ (lo+((0:Nat):Int)*1) ((((hi-lo).toNat:Nat):Int)-((0:Nat):Int)) 1;rw[e1,e2];exact dO _ rfl
 .have e:b=(s.heap.push { cls:=.type "range",data:=.fields #[.int lo t,.int hi u,.int 1 v] }).objs.size:=by simpa using hb
  subst e;exact I1.uA (cC _) (I1.bC.fresh (cC _))
def Mt(ta:TA):TI:=λσ H R=>ta σ H λvs H1=>∃j:Int,vs=[.int j]/\-(2^62)<=j/\j<2^62/\R (OL 0 j.toNat) H1
def BE{a:Expr}{ta:TA}{p pos:Pos}(hg:Gl X "range") (hm:X.mg "range"=none) (ha:PA X [a] ta) (hs:autoParam (starEach [a] X.env=[(false,eval a X.env)]) RQ):PI X tg (.Call (.Name "range" p) [a] [] pos) (Mt ta):=by
 intro ai s σ H R I h;refine Call_ (kY I hg hm boot_range (jN (dY (ha pos ai s σ H _ I h) λus s1 ⟨vs,H1,I1,r1,q1⟩=>?_) hs rfl));obtain⟨j,e,q1,q2,q⟩:=q1;subst e;cases r1 with
 |cons r rr=>cases rr;obtain⟨t,rfl⟩:=r;exact call_range_1 (C7 I1 (by lia) (by lia) q1 q2 (by simpa using q))
def Ph(wi:TI)(g:TG)(tb:TS):TS:=λD σ H=>wi σ H λJ H1=>∃W:Nat->Nat->St->Hp->Prop,(∃m,W 0 m σ H1)/\∀i m σ H,W i m σ H->
 (J.stop i H/\D.nx σ H)\/(J.go i H/\∃N:St->Hp->Prop,(∀σ' H',N σ' H'->∃m',m'<m/\W (i+1) m' σ' H')/\∀x H',J.Mi i H x H'->g x σ H' λσ2 H2=>tb {D with nx:=N,ct:=N,bk:=D.nx} σ2 H2)
noncomputable def rR(fp:List Addr)(h:Heap):List (Addr×Obj):=fp.filterMap λb=>(h.get? b).map λo=>(b,o)
def jQ(hb:b∈fp)(e:h.get? b=some o):(b,o)∈rR fp h:=List.mem_filterMap.mpr ⟨b,hb,by rw[e];rfl⟩
def BF(hp:p∈rR fp h):p.1∈fp/\h.get? p.1=some p.2:=by
 obtain⟨b,hb,e⟩:=List.mem_filterMap.mp hp;cases q:h.get? b with
 |none=>rw[q]at e;cases e
 |some o=>rw[q]at e;have e':(b,o)=p:=ia e;subst e';exact⟨hb,q⟩
def Inv.pinned(I:Inv X ai σ H s)(hf:∀b∈fp,kM X ai H b)(ho:∀b∈fp,∃o,s.heap.get? b=some o/\∀v,o.data≠.cell v):Inv X (ai++rR fp s.heap) σ H s:=
 I.Bx λp hp=>(gg.mp hp).elim (λz=>I.pin p (gk _ z)) λz=>by
  obtain⟨hb,e⟩:=BF z;obtain⟨f0,f1,f2,_⟩:=hf p.1 hb
  grind
def Inv.o6(I:Inv X (ai++pl) σ H s):Inv X ai σ H s:=I.Bx λp hp=>I.pin p (gk _ (qO _ hp))
def JK(hp:PassesOwn (model X.prog X.w) X.A X.env X.xe)(hc:X.calm=true)(hi:PI X tg iter wi)(hg:PG X tg g)(hb:Gc X body tb)
 (hs:autoParam (∀x,foldedSetIterable iter X.env x=pure x) RP):PS X (.For tg iter body [] pos) (Ph wi g tb):=by
 intro ai s σ H D I h;refine wpAny_For (dY (hi ai s σ H _ I h) λv s1 h1=>dY h1 λitv s2 h2=>?_) hs;obtain⟨it,fp,tn,J,H2,e,I2,T,st2,f2,W,⟨m0,w0⟩,turn⟩:=h2;subst e;have stat:∀{H':Hp},(∀b∈fp,H' b=none)->∀b∈fp,kM X ai H' b:=λhn b hb=>⟨hn b hb,(f2 b hb).2⟩;refine codeAny_forLoop_any (λn s'=>∃i σ' H',Inv X ai σ' H' s'/\tn i s'.heap/\(∀b∈fp,H' b=none)/\W i n σ' H') ?_ m0 ⟨0,σ,H2,I2,st2,λb hb=>(f2 b hb).1,w0⟩;rintro n s3 ⟨i,σ3,H3,I3,st3,fr3,w3⟩;rcases turn i n σ3 H3 w3 with⟨stop,qn⟩|⟨go,N,hN,step⟩
 .refine tY hp (dY (T.done X rfl rfl rfl hc i ai s3 σ3 H3 X.xe I3 (stat fr3) st3 stop) λr s4 ⟨hr,I4⟩=>?_);subst hr;exact wpAny_execs_nil ⟨σ3,H3,I4,qn⟩
 .refine tY hp (dY (T.item X rfl rfl rfl hc i ai s3 σ3 H3 X.xe I3 (stat fr3) st3 go) λr s4 ⟨u,hr,h4⟩=>?_);subst hr;refine tY hp (dY h4 λ_ s5 ⟨x,H5,I5,r5,y5,st5,fr5⟩=>?_);have I5':=I5.pinned (stat fr5) (T.obj _ _ st5);refine tY hp (dY (hg _ s5 σ3 H5 x u _ I5' r5 (step x H5 y5)) λ_ s6 ⟨σ6,H6,I6,q6⟩=>?_);refine tY hp (dY (hb _ s6 σ6 H6 _ I6 q6) λf s7 q7=>?_);have again:∀{σ7:St}{H7:Hp},Inv X (ai++rR fp s5.heap) σ7 H7 s7->N σ7 H7->∃m,m<n/\∃i σ' H',Inv X ai σ' H' s7/\tn i s7.heap/\(∀b∈fp,H' b=none)/\W i m σ' H':=λ{σ7 H7} I7 n7=>by obtain⟨m',hm,w7⟩:=hN σ7 H7 n7;refine⟨m',hm,i+1,σ7,H7,I7.o6,T.keep _ _ _ st5 λb hb o e=>(I7.pin (b,o) (gk _ (gk _ (jQ hb e)))).1,λb hb=>?_,w7⟩;obtain⟨o,e,d⟩:=T.obj _ _ st5 b hb;exact(I7.pin (b,o) (gk _ (gk _ (jQ hb e)))).2.1
  cases f with
  |next=>obtain⟨σ7,H7,I7,n7⟩:=q7;exact again I7 n7
  |cont=>obtain⟨σ7,H7,I7,n7⟩:=q7;exact again I7 n7
  |brk=>obtain⟨σ7,H7,I7,q7⟩:=q7;exact⟨σ7,H7,I7.o6,q7⟩
  |ret v=>obtain⟨x7,σ7,H7,I7,r7,q7⟩:=q7;exact⟨x7,σ7,H7,I7.o6,r7,q7⟩
end
abbrev R2:=V->V->Hp->VK->Prop
def OpR(X:Cx)(f:RE->RE->Sem RE)(r:R2):Prop:=
 ∀(ai:List (Addr×Obj))(s:RB)(σ:St)(H:Hp)(x y:V)(v u:RE)(Q:VK),Inv X ai σ H s->RelV x v->RelV y u->r x y H Q->
  wpAny (model X.prog X.w) X.A (f v u) (EP X ai σ Q) X.xe s
def Pi(X:Cx)(f:RE->Sem RE)(r:V->Hp->VK->Prop):Prop:=
 ∀(ai:List (Addr×Obj))(s:RB)(σ:St)(H:Hp)(x:V)(v:RE)(Q:VK),Inv X ai σ H s->RelV x v->r x H Q->
  wpAny (model X.prog X.w) X.A (f v) (EP X ai σ Q) X.xe s
def CallR(X:Cx)(f:RE)(r:List V->Hp->VK->Prop):Prop:=
 ∀(ai:List (Addr×Obj))(s:RB)(σ:St)(H:Hp)(xs:List V)(us:List RE)(Q:VK),Inv X ai σ H s->Vals xs us->r xs H Q->
  wpAny (model X.prog X.w) X.A (call f us) (EP X ai σ Q) X.xe s
def Pj(X:Cx)(r:V->Hp->(Bool->Hp->Prop)->Prop):Prop:=
 ∀(ai:List (Addr×Obj))(s:RB)(σ:St)(H:Hp)(x:V)(v:RE)(Q:Bool->Hp->Prop),Inv X ai σ H s->RelV x v->r x H Q->
  wpAny (model X.prog X.w) X.A (truthy v) (TP X ai σ Q) X.xe s
noncomputable def Me(r:R2)(ta tb:TE):TE:=λσ H Q=>ta σ H λx H1=>tb σ H1 λy H2=>r x y H2 Q
noncomputable def QN(r:V->Hp->VK->Prop)(ta:TE):TE:=λσ H Q=>ta σ H λx H1=>r x H1 Q
noncomputable def rI(C:Int->Int->Prop)(g:Int->Int->V):R2:=λx y H Q=>∃i j,x=.int i/\y=.int j/\C i j/\Q (g i j) H
noncomputable def Gk(g:Int->Int->V):R2:=λx y H Q=>∃i j,x=.int i/\y=.int j/\Q (g i j) H
noncomputable def rU(g:Int->V):V->Hp->VK->Prop:=λx H Q=>∃i,x=.int i/\Q (g i) H
section
def JL(ha:PE X a ta)(hb:PE X b tb){R:V->V->Hp->Prop}(I:Inv X ai σ H s)
 (h:ta σ H λx H1=>tb σ H1 λy H2=>R x y H2) {Q:RE->RB->Prop} {f:RE->RE->Sem RE}
 (hf:∀v u s2 x y H2,Inv X ai σ H2 s2->RelV x v->RelV y u->R x y H2->wX X (f v u) Q X.xe s2) :
 wX X (eval a X.env) (λv s₁=>wX X (eval b X.env) (λu s₂=>wX X (f v u) Q X.xe s₂) X.xe s₁) X.xe s:=by
 refine dY (ha ai s σ H _ I h) λv s1 ⟨x,H1,I1,r1,q1⟩=>?_;refine dY (hb ai s1 σ H1 _ I1 q1) λu s2 ⟨y,H2,I2,r2,q2⟩=>?_;exact hf v u s2 x y H2 I2 r1 r2 q2
def Mv{op:Operator}(ho:OpR X (binaryOp op) r)(ha:PE X a ta)(hb:PE X b tb):PE X (.BinOp a op b pos) (Me r ta tb):=by intro ai s σ H Q I h;exact wpAny_BinOp (JL ha hb I h λv u s2 x y H2 I2 rx ry q=>ho ai s2 σ H2 x y v u Q I2 rx ry q)
def Mw(ho:Pi X (unaryOp op) r)(ha:PE X a ta):PE X (.UnaryOp op a pos) (QN r ta):=by intro ai s σ H Q I h;exact UnaryOp_ (dY (ha ai s σ H _ I h) λv s1 ⟨x,H1,I1,r1,q1⟩=>ho ai s1 σ H1 x v Q I1 r1 q1)
def OM{f:RE->RE->Sem RE}{C:Int->Int->Prop}{g:Int->Int->Int}
 (rule:∀(i j:Int)(t u:Tok)(s:RB)(Q:RE->RB->Prop)(E:RE->RB->Prop),C i j->Q (.int (g i j) s.toks) {s with toks:=s.toks+1}->wX X (f (.int i t) (.int j u)) Q E s) :
 OpR X f (rI C λi j=>.int (g i j)):=by
 intro ai s σ H x y v u Q I rx ry h;obtain⟨i,j,rfl,rfl,hc,q⟩:=h;obtain⟨t,rfl⟩:=rx;obtain⟨t',rfl⟩:=ry;exact rule i j t t' s _ _ hc ⟨.int (g i j),H,I.tok _,⟨_,rfl⟩,q⟩
def Mx{f:RE->RE->Sem RE}{g:Int->Int->Int}
 (rule:∀(i j:Int)(t u:Tok)(s:RB)(Q:RE->RB->Prop)(E:RE->RB->Prop),Q (.int (g i j) s.toks) {s with toks:=s.toks+1}->wX X (f (.int i t) (.int j u)) Q E s) :
 OpR X f (Gk λi j=>.int (g i j)):=by
 intro ai s σ H x y v u Q I rx ry h;obtain⟨i,j,rfl,rfl,q⟩:=h;obtain⟨t,rfl⟩:=rx;obtain⟨t',rfl⟩:=ry;exact rule i j t t' s _ _ ⟨.int (g i j),H,I.tok _,⟨_,rfl⟩,q⟩
def Gm{f:RE->RE->Sem RE}{g:Int->Int->Bool}
 (rule:∀(i j:Int)(t u:Tok)(s:RB)(Q:RE->RB->Prop)(E:RE->RB->Prop),Q (.bool (g i j)) s->wX X (f (.int i t) (.int j u)) Q E s) :
 OpR X f (Gk λi j=>.bl (g i j)):=by
 intro ai s σ H x y v u Q I rx ry h;obtain⟨i,j,rfl,rfl,q⟩:=h;obtain⟨t,rfl⟩:=rx;obtain⟨t',rfl⟩:=ry;exact rule i j t t' s _ _ ⟨.bl (g i j),H,I,rfl,q⟩
def Pk(i j:Int):Prop:=0<j/\j<1073741824
def Pl(i j:Int):Prop:=0<=j/\j<=1000000/\i.natAbs<2^64
def CMul(i j:Int):Prop:=(-(2^64)<i/\i<2^64)\/(-(2^64)<j/\j<2^64)
def CMul.ok(h:CMul i j):IntMulOk i j:=by
 rcases h with⟨h1,h2⟩|⟨h1,h2⟩
 .exact .of_left (intBits_le_64 h1 h2)
 .exact .of_right (intBits_le_64 h1 h2)
def op_add:OpR X (binaryOp .Add) (Gk λi j=>.int (i+j)):=Mx λ_ _ _ _ _ _ _ q=>add_int q
def JM:OpR X (binaryOp .Sub) (Gk λi j=>.int (i-j)):=Mx λ_ _ _ _ _ _ _ q=>sub_int q
def JN:OpR X (binaryOp .Mult) (rI CMul λi j=>.int (i*j)):=OM λ_ _ _ _ _ _ _ hc q=>mul_int q hc.ok
def Gn:OpR X (binaryOp .FloorDiv) (rI Pk λi j=>.int (i/j)):=OM λi j _ _ _ _ _ hc q=>by have h1:(0:Int)<j:=hc.1;have h2:j<1073741824:=hc.2;exact floordiv_int (by lia) (by rw[Int.fdiv_eq_ediv_of_nonneg i (by lia)];exact q) (.inl (PyProof.noPylong_small (by lia)))
def JO:OpR X (binaryOp .Mod) (rI (λ_ j=>0<j) λi j=>.int (i%j)):=OM λi j _ _ _ _ _ hc q=>by have h1:(0:Int)<j:=hc;exact mod_int' (by lia) (by rw[Int.fmod_eq_emod_of_nonneg i (by lia)];exact q)
def JP:OpR X (binaryOp .Pow) (rI Pl λi j=>.int (i^j.toNat)):=OM λ_ _ _ _ _ _ _ hc q=>pow_int_small hc.1 hc.2.1 hc.2.2 q
def QO{f:RE->Sem RE}{g:Int->Int}
 (rule:∀(i:Int)(t:Tok)(s:RB)(Q:RE->RB->Prop)(E:RE->RB->Prop),Q (.int (g i) s.toks) {s with toks:=s.toks+1}->wX X (f (.int i t)) Q E s) :
 Pi X f (rU λi=>.int (g i)):=by
 intro ai s σ H x v Q I rx h;obtain⟨i,rfl,q⟩:=h;obtain⟨t,rfl⟩:=rx;exact rule i t s _ _ ⟨.int (g i),H,I.tok _,⟨_,rfl⟩,q⟩
def JQ:Pi X (unaryOp .USub) (rU λi=>.int (-i)):=QO λ_ _ _ _ _ q=>neg_int q
end
section
def JR(I:Inv X ai σ H s)(q:Q (.bl k) H)(e:k=k'):EP X ai σ Q (.bool k') s:=by subst e;exact⟨.bl k,H,I,rfl,q⟩
def My:OpR X (compareOp .Lt) (Gk λi j=>.bl (decide (i<j))):=Gm λ_ _ _ _ _ _ _ q=>lt_int q
def Mz:OpR X (compareOp .LtE) (Gk λi j=>.bl (decide (i<=j))):=Gm λ_ _ _ _ _ _ _ q=>le_int q
def MA:OpR X (compareOp .Gt) (Gk λi j=>.bl (decide (j<i))):=Gm λ_ _ _ _ _ _ _ q=>gt_int q
def MB:OpR X (compareOp .GtE) (Gk λi j=>.bl (decide (j<=i))):=Gm λ_ _ _ _ _ _ _ q=>ge_int q
def OpR.or(h:OpR X f r)(h':OpR X f r'):OpR X f (λx y H Q=>r x y H Q\/r' x y H Q):=by
 intro ai s σ H x y v u Q I rx ry q;rcases q with q|q
 .exact h ai s σ H x y v u Q I rx ry q
 .exact h' ai s σ H x y v u Q I rx ry q
def aH(b:Expr)(h:autoParam (op≠.In) RN)(h2:autoParam (op≠.NotIn) RN):behindInMarks op b=false:=by
 have e1:(op==CmpOp.In)=false:=by cases op<;>first|rfl|exact absurd rfl h
 have e2:(op==CmpOp.NotIn)=false:=by cases op<;>first|rfl|exact absurd rfl h2
 cases b<;>simp[behindInMarks,e1,e2]
def Aw(ho:OpR X (compareOp op) r)(ha:PE X a ta)(hb:PE X b tb)(hm:behindInMarks op b=false):PE X (.Compare a [op] [b] pos) (Me r ta tb):=by intro ai s σ H Q I h;exact wpAny_Compare1 (JL ha hb I h λv u s2 x y H2 I2 rx ry q=>ho ai s2 σ H2 x y v u Q I2 rx ry q) hm
noncomputable def IB(t:TE):TT:=λσ H Q=>t σ H λx H'=>∃k,x=.bl k/\Q k H'
def Gp(ho:OpR X (compareOp op) r)(ha:PE X a ta)(hb:PE X b tb)(hm:behindInMarks op b=false):PT X (.Compare a [op] [b] pos) (IB (Me r ta tb)):=by intro ai s σ H Q I h;refine wpAny_isTrue_Compare1 (dY (ha ai s σ H _ I h) λv s1 ⟨x,H1,I1,r1,q1⟩=>dY (hb ai s1 σ H1 _ I1 q1) λu s2 ⟨y,H2,I2,r2,q2⟩=>dY (ho ai s2 σ H2 x y v u _ I2 r1 r2 q2) λc s3 ⟨z,H3,I3,r3,k,e,q3⟩=>?_) hm;subst e;cases r3;exact kG ⟨H3,I3,q3⟩
noncomputable def y_(r r':R2)(ta tb tc:TE):TE:=λσ H Q=>ta σ H λx H1=>tb σ H1 λy H2=>r x y H2 λz H3=>∃k,z=.bl k/\
 (if k=true then tc σ H3 λw' H4=>r' y w' H4 Q else Q (.bl false) H3)
def C8(ho:OpR X (compareOp op) r)(ho':OpR X (compareOp op') r')(ha:PE X a ta)(hb:PE X b tb)(hc:PE X c tc)
 (hm:lastMarks [op,op'] [b,c]=false:=by with_unfolding_all rfl):PE X (.Compare a [op,op'] [b,c] pos) (y_ r r' ta tb tc):=by
 intro ai s σ H Q I h;refine Compare_chain (dY (ha ai s σ H _ I h) λv s1 ⟨x,H1,I1,r1,q1⟩=>chain_link (dY (hb ai s1 σ H1 _ I1 q1) λu s2 ⟨y,H2,I2,r2,q2⟩=>dY (ho ai s2 σ H2 x y v u _ I2 r1 r2 q2) λd s3 ⟨z,H3,I3,r3,k,e,q3⟩=>?_)) hm;subst e;cases r3;refine kG ?_;cases k with
 |false=>exact ite_ff ⟨.bl false,H3,I3,rfl,q3⟩
 |true=>exact ite_tt (chain_last (dY (hc ai s3 σ H3 _ I3 q3) λw' s4 ⟨z',H4,I4,r4,q4⟩=>ho' ai s4 σ H4 y z' u w' Q I4 r2 r4 q4))
def C9(ho:OpR X (compareOp op) r)(ho':OpR X (compareOp op') r')(ha:PE X a ta)(hb:PE X b tb)(hc:PE X c tc)
 (hm:lastMarks [op,op'] [b,c]=false:=by with_unfolding_all rfl):PT X (.Compare a [op,op'] [b,c] pos) (IB (y_ r r' ta tb tc)):=by
 intro ai s σ H Q I h;refine isTrue_chain (dY (ha ai s σ H _ I h) λv s1 ⟨x,H1,I1,r1,q1⟩=>test_link (dY (hb ai s1 σ H1 _ I1 q1) λu s2 ⟨y,H2,I2,r2,q2⟩=>dY (ho ai s2 σ H2 x y v u _ I2 r1 r2 q2) λd s3 ⟨z,H3,I3,r3,k,e,q3⟩=>?_)) hm;subst e;cases r3;refine kG ?_;cases k with
 |false=>obtain⟨k',e',q'⟩:=q3;cases e';exact ite_ff ⟨H3,I3,q'⟩
 |true=>refine ite_tt (test_last (dY (hc ai s3 σ H3 _ I3 q3) λw' s4 ⟨z',H4,I4,r4,q4⟩=>dY (ho' ai s4 σ H4 y z' u w' _ I4 r2 r4 q4) λd' s5 ⟨z2,H5,I5,r5,k2,e2,q5⟩=>?_));subst e2;cases r5;exact kG ⟨H5,I5,q5⟩
def JS(K:RC)(x:V)(H:Hp)(k:Bool):Prop:=
 match x with
 |.ig=>k=false
 |.bl b=>k=b
 |.int i=>k=(i != 0)
 |.str y=>y.length<=sizeLine/\k=((y.length:Int) != 0)
 |.OB y=>y.size<=sizeLine/\k=((y.size:Int) != 0)
 |.ref p=>(∃xs,SqL K H p xs/\k=!xs.isEmpty)\/(∃xs,SqT K H p xs/\k=!xs.isEmpty)\/∃kvs,H p=some (.dK kvs)/\k=!kvs.isEmpty
 |_=>False
def za{κ:Type}{kvs:List (κ×V)}{vs:List (κ×RE)}(r:KV kvs vs):(!vs.isEmpty)=!kvs.isEmpty:=by cases r<;>rfl
def rS(r:Vals xs its):(!its.toArray.isEmpty)=!xs.isEmpty:=by cases r<;>simp
def pf:(sizeLine:Nat)<2^63:=by rw[Ru];decide
def JT:Pj X (λx H Q=>∃k,JS X.K x H k/\Q k H):=by
 intro ai s σ H x v Q I rx h;obtain⟨k,e,q⟩:=h;have hl:=pf;have hs:sizeLine=16777216:=Ru;cases x with
 |ig=>cases rx;have e':k=false:=e;subst e';exact truthy_none ⟨H,I,q⟩
 |bl b=>cases rx;have e':k=b:=e;subst e';exact kG ⟨H,I,q⟩
 |int i=>obtain⟨t,rfl⟩:=rx;have e':k=(i != 0):=e;subst e';exact PySem.P.truthy_int ⟨H,I,q⟩
 |str y=>obtain⟨t,rfl⟩:=rx;obtain⟨hy,e'⟩ : y.length<=sizeLine/\k=((y.length:Int) != 0):=e;subst e';exact PySem.P.truthy_str (by lia) ⟨H,I.tok _,q⟩
 |OB y=>obtain⟨t,rfl⟩:=rx;obtain⟨hy,e'⟩ : y.size<=sizeLine/\k=((y.size:Int) != 0):=e;subst e';exact PySem.W.truthy_bytes (by lia) ⟨H,I.tok _,q⟩
 |ref p=>
  cases rx;have e':(∃xs,SqL X.K H p xs/\k=!xs.isEmpty)\/(∃xs,SqT X.K H p xs/\k=!xs.isEmpty)\/∃kvs,H p=some (.dK kvs)/\k=!kvs.isEmpty:=e;rcases e' with⟨xs,hx,e'⟩|⟨xs,hx,e'⟩|⟨kvs,hx,e'⟩
  .subst e';obtain⟨its,r,pl,hz⟩:=I.list hx;have cK:=r.length;exact wpAny_truthy_list pl.isList (by simp only[cE];lia) ⟨H,I.tok _,by rw[rS r];exact q⟩
  .subst e';obtain⟨its,r,pl,hz⟩:=I.tuple hx;have cK:=r.length;exact truthy_tuple pl (by simp only[cE];lia) ⟨H,I.tok _,by rw[rS r];exact q⟩
  .subst e';obtain⟨hz,hS,vs,r,m⟩ : kvs.length<=sizeLine/\(p==sysModules)=false/\∃vs,KV kvs vs/\s.heap.DictOf (bd X.prog X.w) p vs:=I.bC p _ hx;have cK:kvs.length=vs.length:=Paired.length r;exact wpAny_truthy_dict hS m (by lia) ⟨H,I.tok _,by rw[za r];exact q⟩
 |_=>exact(show False from e).elim
def C_(ha:PE X a ta)(he:∀whole,isTrue a X.env whole=(do let v <- whole;standAt a.pos;holding [v] (truthy v))) :
 PT X a (λσ H Q=>ta σ H λx H'=>∃k,JS X.K x H' k/\Q k H'):=by
 intro ai s σ H Q I h;exact isTrue_plain (dY (ha ai s σ H _ I h) λv s1 ⟨x,H1,I1,r1,q1⟩=>JT ai s1 σ H1 x v Q I1 r1 q1) (he _)
def zb:OpR X (binaryOp .Add) (λx y H Q=>∃i j,x=.str i/\y=.str j/\i.length+j.length<=sizeLine/\Q (.str (i++j)) H):=by intro ai s σ H x y v u Q I rx ry h;obtain⟨i,j,rfl,rfl,hz,q⟩:=h;obtain⟨t,rfl⟩:=rx;obtain⟨t',rfl⟩:=ry;exact add_str (λt' tk=>⟨.str (i++j),H,I.tok _,⟨_,rfl⟩,q⟩) hz
def i4(r:Vals [x] us):∃u,us=[u]/\RelV x u:=by
 cases r with
 |cons r1 r2=>cases r2;exact⟨_,rfl,r1⟩
def xp(r:Vals [x,y] us):∃u w',us=[u,w']/\RelV x u/\RelV y w':=by
 cases r with
 |cons r1 r2=>
  cases r2 with
  |cons r3 r4=>cases r4;exact⟨_,_,rfl,r1,r3⟩
def BG(hc:X.calm=true):CallR X (.builtin "max") (λxs H Q=>∃i j,xs=[.int i,.int j]/\Q (.int (if j>i then j else i)) H):=by
 intro ai s σ H xs us Q I r h;obtain⟨i,j,rfl,q⟩:=h;obtain⟨u,w',rfl,⟨t,rfl⟩,⟨t',rfl⟩⟩:=xp r;refine max_two_ints (I.ok.hd hc) λh' tk k=>⟨_,H,I.kept k,?_,q⟩;by_cases hj:j>i
 .rw[c5 hj,c5 hj];exact⟨_,rfl⟩
 .rw[dS hj,dS hj];exact⟨_,rfl⟩
end
structure L8(h:Heap) (x dx C:Addr) (mA:Str->Option RE):Prop where
 obj:h.get? x=some (PySem.W.instObj C dx)
 ns:h.Ns1 dx mA
 ne:dx≠x
def BH{h:Heap}{mA:Str->Option RE}(n:h.Ns1 dx mA):∃od,h.get? dx=some od/\∀name,PySem.W.lookIn name od=some (mA name):=by
 obtain⟨o,es,ep,ho,hd,hk,_,hm⟩:=n;refine⟨o,ho,λname=>?_⟩;have e:=hm name;unfold nsFind findBy at e;rw[<- Array.find?_toList]at e;unfold PySem.W.lookIn;rw[hd];dsimp only;split
 .rename_i y q;rw[q]at e;exact ie some e
 .rename_i q;rw[q]at e;have a:es.toList.any (·.refKey)=false:=by rw[List.any_eq_false];intro y hy;obtain⟨z,t,CT⟩:=hk y (Array.mem_toList_iff.mp hy);simp[DictEntry.refKey,CT]
  have a':¬es.toList.any (·.refKey)=true:=by rw[a];exact qH
  rw[dS a'];exact ie some e
def L8.look(I:L8 h x dx C mA):∃od,PySem.W.InstAt h x (PySem.W.instObj C dx) C (some od)/\∀name,PySem.W.lookIn name od=some (mA name):=
 let ⟨od,ho,hl⟩:=BH I.ns
 ⟨od,⟨I.obj,rfl,rfl,ho⟩,hl⟩
def RelO.some_of(r:RelO (some v) o):∃u,o=some u/\RelV v u:=by
 cases o with
 |none=>exact(show False from r).elim
 |some u=>exact⟨u,rfl,r⟩
section
def Gq(bC:HOk P w H h)(e:H a=some (.ins C dx fs)):∃mA,L8 h a dx C mA/\(∀f,RelO (fs.lookup f) (mA f))/\PySem.Within mA (fs.map (·.1))/\fs.length<=1000/\H dx=some (.own a):=by obtain⟨d,z,ne,ob,mA,n,r,q⟩:=(show ObjOk P w H h a (.ins C dx fs)from bC a _ e);exact⟨mA,⟨ob,n,ne⟩,r,q,z,d⟩
end
structure Qm(K:RC) (C:Addr):Prop where
 pg:PySem.W.plainGet K C Str.empty=true
 hd:PySem.W.hasDictIn K C=true
 po:PySem.W.plainOver K C=true
 sa:PySem.W.findIn K (.ref C) "__setattr__"=some (some (.builtin "object.__setattr__"))
def Qm.get{K:RC}(c:Qm K C)(f:Str):PySem.W.plainGet K C f=true:=c.pg
section
inductive pX(K:RC) (H:Hp):V->RE->Prop where
 |ig:pX K H .ig (.type "NoneType")
 |bl (x:Bool):pX K H (.bl x) (.type "bool")
 |int (i:Int):pX K H (.int i) (.type "int")
 |str (x:Str):pX K H (.str x) (.type "str")
 |Mh (x:UInt64):pX K H (.Mh x) (.type "float")
 |lst {a:Addr} {xs:List V} (e:H a=some (.lst xs)):pX K H (.ref a) (.type "list")
 |cQ {a:Addr} {o:Obj} {xs:List V} (e:H a=some (.cQ o (.lst xs))):pX K H (.ref a) (.type "list")
 |tup {a:Addr} {xs:List V} (e:H a=some (.tup xs)):pX K H (.ref a) (.type "tuple")
 |dK {a:Addr} {kvs:List (b5×V)} (e:H a=some (.dK kvs)):pX K H (.ref a) (.type "dict")
 |dT {a:Addr} {kvs:List (List b5×V)} (e:H a=some (.dT kvs)):pX K H (.ref a) (.type "dict")
 |ins {a C dx:Addr} {fs:List (Str×V)} (e:H a=some (.ins C dx fs)) (cl:Qm K C) (ha:PySem.W.findIn K (.ref C) "__class__"=some (some (.builtin "object.__class__")))
  (hn:PySem.W.specialIn K (.builtin "object.__class__") "__get__"=some (some (.builtin "getset_descriptor.__get__"))) (htk:PySem.W.takesIn K (.builtin "object.__class__")=some true)
  (hm:PySem.W.mroIn K C (.type "object")=some true):pX K H (.ref a) (.ref C)
def BI(I:Inv X ai σ H s)(rx:RelV x u)(ty:pX X.K H x t)(e:PySem.W.kitOne X.K t c=some b)(h:∀tk,Q (.bool b) {s with toks:=tk}) :
 wpAny (model X.prog X.w) A (call (.builtin "isinstance") [u,c]) Q E s:=by
 cases ty with
 |ig=>cases(show u=Value.none from rx);exact ki PySem.W.kitx_none I.vK True.intro e (λz=>nomatch z) h
 |bl y=>cases(show u=Value.bool y from rx);exact ki PySem.W.kitx_bool I.vK True.intro e (λz=>nomatch z) h
 |int i=>obtain⟨t,q⟩:=(show ∃t,u=Value.int i t from rx);cases q;exact ki PySem.W.kitx_int I.vK True.intro e (λz=>nomatch z) h
 |str y=>obtain⟨t,q⟩:=(show ∃t,u=Value.str y t from rx);cases q;exact ki PySem.W.kitx_str I.vK True.intro e (λz=>nomatch z) h
 |Mh y=>obtain⟨t,q⟩:=(show ∃t,u=Value.float y t from rx);cases q;exact ki PySem.W.kitx_float I.vK True.intro e (λz=>nomatch z) h
 |@lst a xs ea=>cases(show u=Value.ref a from rx);obtain⟨_,_,n,_,h1⟩:=(show ObjOk X.prog X.w H s.heap a (.lst xs)from I.bC a _ ea);exact ki PySem.W.kitx_list I.vK ⟨_,h1,rfl⟩ e (λz=>nomatch z) h
 |@cQ a ob xs ea=>cases(show u=Value.ref a from rx);obtain⟨_,_,_,n,_,h1⟩:=(show ObjOk X.prog X.w H s.heap a (.cQ ob (.lst xs))from I.bC a _ ea);exact ki PySem.W.kitx_list I.vK ⟨_,h1,rfl⟩ e (λz=>nomatch z) h
 |@tup a xs ea=>cases(show u=Value.ref a from rx);obtain⟨_,_,_,p⟩:=(show ObjOk X.prog X.w H s.heap a (.tup xs)from I.bC a _ ea);obtain⟨o,h1,h2,_⟩:=p;exact ki PySem.W.kitx_tuple I.vK ⟨o,h1,h2⟩ e (λz=>nomatch z) h
 |@dK a kvs ea=>cases(show u=Value.ref a from rx);obtain⟨_,_,vs,_,p⟩:=(show ObjOk X.prog X.w H s.heap a (.dK kvs)from I.bC a _ ea);obtain⟨o,es,ep,h1,h2,_⟩:=p;exact ki Rn I.vK ⟨o,h1,h2.1⟩ e (λz=>nomatch z) h
 |@dT a kvs ea=>cases(show u=Value.ref a from rx);obtain⟨_,_,xs,_,o,es,ep,h1,h2,_⟩:=(show ObjOk X.prog X.w H s.heap a (.dT kvs)from I.bC a _ ea);exact ki Rn I.vK ⟨o,h1,h2.1⟩ e (λz=>nomatch z) h
 |@ins a C dx fs ea cl ha hn htk hm=>cases(show u=Value.ref a from rx);obtain⟨mA,O,_⟩:=Gq I.bC ea;obtain⟨od,J,_⟩:=O.look;exact ki (PySem.W.kitx_own (cl.get _) cl.hd ha hn htk hm) I.vK J e (λz=>nomatch z) h
end
structure kh(k:Nat) (A:RF):Prop where
 hd:A.handled=none
 dp:A.depth+3*k+5<recursionLimit
 un:A.units+16*k+200<cLine
def kh.mono(r:kh k A)(h:j<=k):kh j A:=⟨r.hd,by have:=r.dp;lia,by have:=r.un;lia⟩
theorem kh.deeper(r:kh (k+1) A)(env:Env):kh k (A.deeper env):=⟨r.hd,by have:=r.dp;show A.depth+1+3*k+5<_;lia,by have:=r.un;show A.units+3+16*k+200<_;lia⟩
theorem kh.depth(r:kh k A):A.depth<recursionLimit:=by have:=r.dp;lia
theorem kh.units(r:kh k A):A.units+64<cLine:=by have:=r.un;lia
noncomputable def MC:TA:=λ_ H Q=>Q [] H
noncomputable def MD(ta:TE)(tr:TA):TA:=λσ H Q=>ta σ H λx H1=>tr σ H1 λxs H2=>Q (x::xs) H2
section
def gI:PA X [] MC:=λ_ _ _ _ H Q I h=>Calls.spliced_nil ⟨[],H,I,.nil,h⟩
def d9(ha:PE X e te)(hr:PA X es t)(hs:autoParam (starEach (e::es) X.env=(false,eval e X.env)::starEach es X.env) RQ):PA X (e::es) (MD te t):=by intro pos ai s σ H Q I h;rw[hs];show wpAny _ _ (spliced ((false,eval e X.env)::backTo pos (starEach es X.env))) _ _ s;refine Calls.spliced_cons (dY (ha ai s σ H _ I h) λu s1 ⟨x,H1,I1,r1,q1⟩=>?_);exact dY (hr pos ai s1 σ H1 _ I1 q1) λus s2 ⟨xs,H2,I2,r2,q2⟩=>⟨x::xs,H2,I2,.cons r1 r2,q2⟩
def Pm(t:TA):TE:=λσ H Q=>t σ H λxs H1=>xs.length<=sizeLine/\∀p,H1 p=none->Q (.ref p) (ck H1 p (.tup xs))
def ME(t:TA):TE:=λσ H Q=>t σ H λxs H1=>xs.length<=sizeLine/\∀p,H1 p=none->Q (.ref p) (ck H1 p (.lst xs))
def JU{x1}(h:PA X es t):PE X (.Tuple es x1 pos) (Pm t):=by intro ai s σ H Q I hq;refine wpAny_Tuple_spliced (dY (h pos ai s σ H _ I hq) λus s1 ⟨xs,H1,I1,r,z,q⟩=>⟨by rw[<- r.length];exact z,?_⟩);have hf:H1 s1.heap.objs.size=none:=I1.bC.fresh (cC _);refine⟨.ref s1.heap.objs.size,ck H1 s1.heap.objs.size (.tup xs),I1.laid (t':=s1.toks) (λb u e=>cA _ e) (cC _) ?_,rfl,q _ hf⟩;exact⟨z,us,r,⟨_,dO _ rfl,rfl,_,rfl⟩⟩
def Da(h:PA X es t):PE X (.List es pos) (ME t):=by intro ai s σ H Q I hq;refine wpAny_List_spliced (dY (h pos ai s σ H _ I hq) λus s1 ⟨xs,H1,I1,r,z,q⟩=>⟨by rw[<- r.length];exact z,?_⟩);have hf:H1 s1.heap.objs.size=none:=I1.bC.fresh (cC _);refine⟨.ref s1.heap.objs.size,ck H1 s1.heap.objs.size (.lst xs),I1.laid (t':=s1.toks) (λb u e=>cA _ e) (cC _) ?_,rfl,q _ hf⟩;exact⟨z,us,0,r,dO _ rfl⟩
end
abbrev Sp:=List V->Hp->VK->XK->Prop
abbrev F3:=List Env->Hp->RB->XK->RE->RB->Prop
structure Iy(P:RD) (w:World) (K:RC) (mg:Str->Option RE) (base:Heap) (A:RF) (outer:List Env) (s:RB) (H:Hp):Prop where
 frames:A.frames=some outer
 mod:Mod K mg base
 bs:∀b o,base.get? b=some o->s.heap.get? b=some o/\H b=none
 L4:base.objs.size<=s.heap.objs.size
 uy:s.heap.FunFrames base outer
 OH:∀b∈nT outer,H b=none
 bC:HOk P w H s.heap
 bare:AllBare s.gens
 kt:Mc K H
def CE(outer:List Env)(P:RD)(w:World)(H:Hp)(s:RB)(Q:VK)(u:RE)(s':RB):Prop:=∃v H',s'.os=s.os/\AllBare s'.gens/\Un (nT outer) [] H H' s.heap s'.heap/\HOk P w H' s'.heap/\RelV v u/\Q v H'
def CR(CX:F3)(outer:List Env)(P:RD)(w:World)(H:Hp)(s:RB)(Q:VK)(E:XK)(r:Result)(s':RB):Prop:=
 match r with
 |.ok (.ret u)=>CE outer P w H s Q u s'
 |.ok _=>False
 |.error e=>CX outer H s E e s'
structure bE(P:RD) (w:World) (K:RC) (mg:Str->Option RE) (base:Heap) (CX:F3) (k:Nat) (f:Addr) (fd:FuncData) (ps:List Str) (sp:Sp):Prop where
 len:∀vs H Q E,sp vs H Q E->vs.length=ps.length
 run:∀(A:RF)(outer:List Env)(s:RB)(H:Hp)(args:Args)(us:List RE)(vs:List V)(Q:VK)(E:XK),kh k A->Iy P w K mg base A outer s H->BindsTo s fd args (ps.zip us)->Vals vs us->sp vs H Q E->
  codeAny (model P w) A (.call (.ref f) args) (CR CX outer P w H s Q E) s
def bE.imp{P:RD}{w:World}{K:RC}{mg:Str->Option RE}{base:Heap}{CX:F3}(F:bE P w K mg base CX k f fd ps sp)
 (h:∀vs H Q E,sp' vs H Q E->sp vs H Q E):bE P w K mg base CX k f fd ps sp':=
 ⟨λvs H Q E q=>F.len vs H Q E (h _ _ _ _ q),λA outer s H args us vs Q E hr he hb hv hs=>F.run A outer s H args us vs Q E hr he hb hv (h _ _ _ _ hs)⟩
section
def Inv.Qh(I:Inv X ai σ H s):Iy X.prog X.w X.K X.mg X.base X.A X.stack s H:=⟨I.ok.frames,I.ok.mod,I.bs,ib I.ok.L4 I.sz,I.stack,I.xa,I.bC,I.bare,I.kt⟩
def Inv.after(I:Inv X ai σ H s)(h:CE X.stack X.prog X.w H s Q u s'):EP X ai σ Q u s':=by obtain⟨v,H',os,bare,un,bC,r,q⟩:=h;obtain⟨hh,g,d,t,os'⟩:=s';obtain rfl:os'=s.os:=os;exact⟨v,H',I.call (h':=hh) (g':=g) (d':=d) (t':=t) (ch:=[]) un bC bare (λb z=>absurd z (by simp)),r,q⟩
end
noncomputable def IC(sp:Sp)(dvs:List V)(E:XK)(t:TA):TE:=λσ H Q=>t σ H λvs H1=>sp (vs++dvs) H1 Q E
def Binds(K:RC)(fd:FuncData)(ps:List Str)(ds:List RE):Prop:=∀(s:RB)(us:List RE),K.In s.heap->(us++ds).length=ps.length->BindsTo s fd ⟨us,[]⟩ (ps.zip (us++ds))
def Binds.all{K:RC}(h:∀us:List RE,us.length=ps.length->bindArgs fd ⟨us,[]⟩=pure (ps.zip us)):Binds K fd ps []:=λs us _ hl=>by rw[kH]at hl ⊢;exact .of_eq (h us hl)
def ph(CX:F3)(X:Cx)(E:XK):Prop:=∀(ai:List (Addr×Obj))(σ:St)(H:Hp)(s:RB)(e:RE)(s':RB),Inv X ai σ H s->CX X.stack H s E e s'->X.xe e s'
section
def JV(F:bE X.prog X.w X.K X.mg X.base CX k f fd ps sp)(hr:kh k X.A)(hb:Binds X.K fd ps ds)(hd:Vals dvs ds)(hx:ph CX X E)
 (I:Inv X ai σ H s) (r:Vals vs us) (h:sp (vs++dvs) H Q E):wX X (call (.ref f) us) (EP X ai σ Q) X.xe s:=by
 have r2:Vals (vs++dvs) (us++ds):=r.append hd;have hl:(us++ds).length=ps.length:=by rw[<- r2.length];exact F.len _ _ _ _ h
 refine wpAny_call (Rj (F.run X.A X.stack s H ⟨us,[]⟩ (us++ds) (vs++dvs) Q E hr I.Qh (hb s us I.vK hl) r2 h) λr s' hq=>?_);cases r with
 |error e=>exact hx ai σ H s e s' I hq
 |ok fl=>
  cases fl with
  |ret u=>exact I.after hq
  |next=>exact False.elim hq
  |brk=>exact False.elim hq
  |cont=>exact False.elim hq
def Gr(F:bE X.prog X.w X.K X.mg X.base CX k f fd ps sp)(hr:kh k X.A)(hg:Gl X x)(hm:X.mg x=some (.ref f))(hk:keepIn X.K (.ref f)=true)(hb:Binds X.K fd ps ds)(hd:Vals dvs ds)(hx:ph CX X E)
 (ha:PA X (e::es) t) (hdb:autoParam (dB x) RN) (he:autoParam (sE X e es) RQ) (hpl:autoParam (bT X pos es) RQ) :
 PE X (.Call (.Name x p) (e::es) [] pos) (IC sp dvs E t):=by
 intro ai s σ H Q I h;refine wpAny_Call_Name_kw (vM I hg hm ?_ hdb);refine PySem.W.callWith_K (h₀:=X.base) I.ok.mod.zt hk (dY (ha pos ai s σ H _ I h) λus s1 ⟨vs,H1,I1,r,q⟩=>⟨I1.vK,?_⟩) he hpl;exact JV F hr hb hd hx I1 r q
end
structure aP(N P:List Str) (sc:Scope):Prop where
 kind:sc.kind=.function
 co:sc.isCoroutine=false
 gen:sc.isGenerator=false
 nd:N.Nodup
 pre:N.take P.length=P
 par:∀x∈P,sc.names.lookup x=some .local\/sc.names.lookup x=some .cell
 L1:∀y∈sc.names,y.2≠.free
theorem uD{kindOf:Str->Option NameKind}:∀{binds:List (Str×RE)}{m:Str->Option RE},(∀v,(x,v)∉binds)->bindL kindOf binds m x=m x
 |[],_,_=>rfl
 |(n,v)::r,m,h=>by
  unfold bindL;rw[uD λw hw=>h w (iY _ hw)];split
  .have:x≠n:=by rintro rfl;exact h v qG
   simp[this]
  .rfl
theorem uE{kindOf:Str->Option NameKind}:∀{binds:List (Str×RE)}{m:Str->Option RE},(∀v,(x,v)∉binds)->bindC kindOf binds m x=m x
 |[],_,_=>rfl
 |(n,v)::r,m,h=>by
  unfold bindC;rw[uE λw hw=>h w (iY _ hw)];split
  .rfl
  .have:x≠n:=by rintro rfl;exact h v qG
   simp[this]
theorem uF{kindOf:Str->Option NameKind}:∀{P:List Str}{vs:List RE}{i:Nat}{m:Str->Option RE},P.Nodup->P[i]?=some x->vs[i]?=some v->kindOf x=some .local->
 bindL kindOf (P.zip vs) m x=some v
 |[],_,_,_,_,h,_,_=>by simp at h
 |_::_,[],_,_,_,_,h,_=>by simp at h
 |p::P,w::vs,0,m,nd,h1,h2,hk=>by simp at h1 h2;subst h1;subst h2;show bindL kindOf ((p,w)::P.zip vs) m p=_;unfold bindL;rw[uD λv hv=>(qK.mp nd).1 (List.of_mem_zip hv).1,c5 hk];simp
 |p::P,w::vs,i+1,m,nd,h1,h2,hk=>by show bindL kindOf ((p,w)::P.zip vs) m x=_;unfold bindL;exact uF (i:=i) (qK.mp nd).2 (by simpa using h1) (by simpa using h2) hk
theorem uG{kindOf:Str->Option NameKind}:∀{P:List Str}{vs:List RE}{i:Nat}{m:Str->Option RE},P.Nodup->P[i]?=some x->vs[i]?=some v->kindOf x≠some .local->
 bindC kindOf (P.zip vs) m x=some v
 |[],_,_,_,_,h,_,_=>by simp at h
 |_::_,[],_,_,_,_,h,_=>by simp at h
 |p::P,w::vs,0,m,nd,h1,h2,hk=>by simp at h1 h2;subst h1;subst h2;show bindC kindOf ((p,w)::P.zip vs) m p=_;unfold bindC;rw[uE λv hv=>(qK.mp nd).1 (List.of_mem_zip hv).1,dS hk];simp
 |p::P,w::vs,i+1,m,nd,h1,h2,hk=>by show bindC kindOf ((p,w)::P.zip vs) m x=_;unfold bindC;exact uG (i:=i) (qK.mp nd).2 (by simpa using h1) (by simpa using h2) hk
noncomputable def k9(N:List Str)(vs:List V):St:=vs.map some++List.replicate (N.length-vs.length) none
noncomputable def BJ(CX:F3)(P:RD)(w:World)(K:RC)(mg:Str->Option RE)(base:Heap)(N:List Str)(qual:Str)(scope:Scope)(f:Addr)(cd:RE)(A:RF)(outer:List Env)(s:RB)(H:Hp)(E:XK):Cx where
 prog:=P
 w:=w
 K:=K
 mg:=mg
 base:=base
 A:=A.deeper (envOfC qual scope s.heap.objs.size f cd)
 N:=N
 s₀:=s
 H₀:=H
 env:=envOfC qual scope s.heap.objs.size f cd
 outer:=outer
 stack:=envOfC qual scope s.heap.objs.size f cd::outer
 ex:=[]
 calm:=true
 fn:=λ_=>true
 pn:=[]
 xe:=λe s'=>wpAny (model P w) (A.deeper (envOfC qual scope s.heap.objs.size f cd)) (leaving (envOfC qual scope s.heap.objs.size f cd) e) (λ_ s''=>CX outer H s E e s'') (λe' s''=>CX outer H s E e' s'') s'
def xq{sc:Scope}(h:sc.names.lookup x=some .cell):∃c,(cellsFrom n sc.names []).lookup x=some c:=by have q:=PySem.W.cellsFrom_some sc.names n [] (.inl h);exact Option.isSome_iff_exists.mp q
def BK{CX:F3}{P:RD}{w:World}{K:RC}{mg:Str->Option RE}{base:Heap}{N ps:List Str}{qual:Str}{scope:Scope}
 (S:aP N ps scope) (hd:A.handled=none) (e0:Iy P w K mg base A outer s H) (hl:vs.length=ps.length) (r:Vals vs us)
 (x:InCallC s s.heap.objs.size (bindL (envOfC qual scope s.heap.objs.size f cd).kindOf (ps.zip us) λ_=>none) (cellsFrom (s.heap.objs.size+1) scope.names []) (bindC (envOfC qual scope s.heap.objs.size f cd).kindOf (ps.zip us) λ_=>none) s1) :
 Inv (BJ CX P w K mg base N qual scope f cd A outer s H E) [] (k9 N vs) H s1:=by
 have hpl:ps.length<=N.length:=by have:=ie List.length S.pre;rw[kj]at this;lia
 obtain⟨h1,tk,rfl,hk⟩:=x.done;have noA:∀b:Addr,b∉(BJ CX P w K mg base N qual scope f cd A outer s H E).ex:=λb z=>absurd (show b∈([]:List Addr)from z) (by simp);refine⟨⟨e0.mod,S.kind,rfl,rfl,cC _,λy z c h1 h2=>?_,λy hy=>?_,λy c _ h=>?_,λ_=>hd,Around.frames_deeper e0.frames,.inr ⟨rfl,rfl⟩,λb z=>absurd z (noA b),e0.bs,e0.L4,λb _ _=>noA b,λb z=>absurd z (noA b),e0.uy,e0.OH,e0.kt⟩,
  rfl,e0.bare,Un.kept hk,⟨_,x.toInCall.ns,λi y v h1 h2 h3=>?_⟩,λy c h=>⟨_,x.cell y c h⟩,e0.bC.fresh (cC _),λy c h=>?_,λp hp=>absurd (show p∈([]:List (Addr×Obj))from hp) (by simp),e0.bC.kept hk,?_⟩
 .exact name_of_addr x.apart (lX h1) (lX h2)
 .have hy:scope.names.lookup y=some .cell\/scope.names.lookup y=some .free:=hy;rcases hy with hy|hy
  .exact xq hy
  .exact absurd rfl (S.L1 _ (lX hy))
 .exact vH (x.above y c (lX h))
 .have hi:i<vs.length:=by
   grind [k9]
  have ha:vs[i]?=some v:=by grind [k9]
  obtain⟨u,hu,rv⟩:=r.get ha;have hp:ps[i]?=some y:=by rw[<- S.pre,List.getElem?_take_of_lt (by lia)];exact h1
  have ndP:ps.Nodup:=by rw[<- S.pre];exact S.nd.sublist (List.take_sublist _ _)
  refine⟨u,rv,?_⟩;rcases S.par y (fj hp)with k|k
  .exact .inl ⟨k,uF ndP hp hu k⟩
  .obtain⟨c,e⟩:=xq (n:=s.heap.objs.size+1) k;refine .inr ⟨.inl k,c,e,?_⟩;have q:=x.cell y c e;rw[uG ndP hp hu (by show scope.names.lookup y≠_;rw[k];decide)]at q;exact q
 .exact e0.bC.fresh (vH (x.above y c (lX h)))
 .unfold k9;show _=N.length;rw[gp,bH,vJ];lia
def MF{CX:F3}{P:RD}{w:World}{K:RC}{mg:Str->Option RE}{base:Heap}{k:Nat}{f:Addr}{name qual:Str}{params:Arguments}{body:List Stmt}{scope:Scope}{dV kV doc pm cdv ct oc:RE}{an od:Option Addr}
 {osl:Array (Option RE)} {N ps:List Str} {sp:Sp} (lk:K.lookup f=some ⟨oc,od,.func (fnOf name qual params body scope dV kV doc pm an cdv ct),osl⟩) (hcd:codeIn K cdv qual=true) (S:aP N ps scope)
 (len:∀vs H Q E,sp vs H Q E->vs.length=ps.length)
 (hbody:∀(A:RF)(outer:List Env)(s:RB)(H:Hp)(vs:List V)(Q:VK)(E:XK),kh k (A.deeper (envOfC qual scope s.heap.objs.size f cdv))->sp vs H Q E->
   ∃t,Gc (BJ CX P w K mg base N qual scope f cdv A outer s H E) body t/\t {nx:=λ_ H'=>Q .ig H',rt:=Q} (k9 N vs) H) :
 bE P w K mg base CX (k+1) f (fnOf name qual params body scope dV kV doc pm an cdv ct) ps sp:=by
 refine⟨len,λA outer s H args us vs Q E hr e0 hb r hsp=>?_⟩;have hl:=len _ _ _ _ hsp;have KX:K.In s.heap:=e0.mod.zt.keeps λb o e=>(e0.bs b o e).1;have lim:s.heap.NoLimit:=e0.mod.nolimit.keeps λb o e=>(e0.bs b o e).1;have hkind:∀y∈ps.zip us,scope.names.lookup y.1=some .local\/(scope.names.lookup y.1=some .cell/\((cellsFrom (s.heap.objs.size+1) scope.names []).lookup y.1).isSome=true):=λ⟨n,v⟩ hy=>by
  rcases S.par n (List.of_mem_zip hy).1 with q|q
  .exact .inl q
  .exact .inr ⟨q,PySem.W.cellsFrom_some _ _ _ (.inl q)⟩
 refine codeAny_call_function hr.depth (KX _ _ lk) rfl S.co S.gen rfl (PySem.W.codeRec_of KX hcd) (hb _ _ _ _ ?_);refine wpAny_newFunctionEnv_cells S.kind hkind λenv he s1 x=>?_;subst he;refine⟨lim.keeps x.toInCall.keep,codeAny_func ?_⟩;obtain⟨t,ht,hq⟩:=hbody A outer s H vs Q E (hr.deeper _) hsp;have I:Inv (BJ CX P w K mg base N qual scope f cdv A outer s H E) [] (k9 N vs) H s1:=BK S hr.hd e0 hl r x;refine ni (ht [] s1 (k9 N vs) H _ I hq) (λfl s' hs=>?_) λe s' hs=>hs;have fin:∀{σ':St}{H':Hp}{v:V}{u:RE},Inv (BJ CX P w K mg base N qual scope f cdv A outer s H E) [] σ' H' s'->RelV v u->Q v H'->CE outer P w H s Q u s':=λ{σ' H' v u} J rv q=>⟨v,H',J.os,J.bare,J.base,J.bC,rv,q⟩;cases fl with
 |ret u=>obtain⟨v,σ',H',J,rv,q⟩:=hs;exact fin J rv q
 |next=>obtain⟨σ',H',J,q⟩:=hs;exact fin (v:=V.ig) (u:=Value.none) J rfl q
 |brk=>obtain⟨_,_,_,q⟩:=hs;exact False.elim q
 |cont=>obtain⟨_,_,_,q⟩:=hs;exact False.elim q
section
variable{X:Cx}{x:Str}{p pos:Pos}{e:Expr}{es:List Expr}{t:TA}{id T:String}{r:List V->Hp->VK->Prop}
noncomputable def Qr(r:List V->Hp->VK->Prop)(t:TA):TE:=λσ H Q=>t σ H λvs H1=>r vs H1 Q
def rT(hc:CallR X (.builtin id) r) (hg:Gl X x) (hm:X.mg x=none) (hv:bootBuiltins x=some (.builtin id)) (ha:PA X (e::es) t) (hn:autoParam (x≠"__name__") RN) (hdb:autoParam (dB x) RN)
 (he:autoParam (starEach (e::es) X.env=(false,eval e X.env)::starEach es X.env) RQ) (hpl:autoParam (bT X pos es) RQ):PE X (.Call (.Name x p) (e::es) [] pos) (Qr r t):=by
 intro ai s σ H Q I h;refine wpAny_Call_Name_kw (kY I hg hm hv ?_ hn hdb);exact PyProof.Rows.callWith_builtin1 (dY (ha pos ai s σ H _ I h) λus s1 ⟨vs,H1,I1,r1,q1⟩=>hc ai s1 σ H1 vs us Q I1 r1 q1) he hpl
def uH(hc:CallR X (.type T) r) (hg:Gl X x) (hm:X.mg x=none) (hv:bootBuiltins x=some (.type T)) (ha:PA X (e::es) t) (hn:autoParam (x≠"__name__") RN) (hdb:autoParam (dB x) RN)
 (he:autoParam (starEach (e::es) X.env=(false,eval e X.env)::starEach es X.env) RQ) (hpl:autoParam (bT X pos es) RQ):PE X (.Call (.Name x p) (e::es) [] pos) (Qr r t):=by
 intro ai s σ H Q I h;refine wpAny_Call_Name_kw (kY I hg hm hv ?_ hn hdb);exact jN (dY (ha pos ai s σ H _ I h) λus s1 ⟨vs,H1,I1,r1,q1⟩=>hc ai s1 σ H1 vs us Q I1 r1 q1) he hpl
end
end L2
namespace HT
open PySem PyProof.Rows
section
def cat_tup(ht:IsTup s.heap t vs.toArray)(hb:IsTup s.heap b ws.toArray)(hv:vs≠[])
 (h1:ws=[]->Q (.ref t) s) (h2:ws≠[]->Q (.ref s.heap.objs.size) { s with heap:=s.heap.push { cls:=.type "tuple",data:=.seq (vs++ws).toArray } })
 (hsz:vs.length+ws.length<=sizeLine):wpAny (model prog w) A (binaryOp .Add (.ref t) (.ref b)) Q E s:=by
 obtain⟨⟨cls,dd,data,sl⟩,ho,hc,n,hd⟩:=id ht;obtain⟨⟨cls2,dd2,data2,sl2⟩,ho2,hc2,n2,hd2⟩:=id hb;simp only at hc hd hc2 hd2;subst hc hd hc2 hd2;have e:vs.toArray++ws.toArray=(vs++ws).toArray:=by simp
 by_cases hw:ws=[]
 .exact concat_meets ⟨_,ho,rfl⟩ ⟨_,ho2,rfl⟩ noFill_tuple_add seq_tuple_add PySem.F.slot_tuple_add PySem.F.entry_tuple_add (PySem.F.args_tuple_add_2 _ _)
   (tuple_addW1 t b vs.toArray ws.toArray n n2 dd dd2 sl sl2 (by simpa using hv) (by simp[hw])) ⟨ho,ho2,h1 hw⟩
 .refine concat_meets ⟨_,ho,rfl⟩ ⟨_,ho2,rfl⟩ noFill_tuple_add seq_tuple_add PySem.F.slot_tuple_add PySem.F.entry_tuple_add (PySem.F.args_tuple_add_2 _ _)
   (tuple_addW2 t b vs.toArray ws.toArray n n2 dd dd2 sl sl2 (by simpa using hv) (by simpa using hw) (by rw[cE,cE];exact hsz)) ⟨ho,ho2,?_⟩
  rw[e];exact h2 hw
noncomputable def sIx(n d:Nat):Option Int->Nat
 |none=>d
 |some v=>if v<0 then(v+(n:Int)).toNat else min v.toNat n
def sIx_nat(n d k:Nat):sIx n d (some (k:Int))=min k n:=by show(if(k:Int)<0 then((k:Int)+(n:Int)).toNat else min (k:Int).toNat n)=min k n;rw[dS (by lia),o8]
def JW(n d:Nat)(hd:d<=n)(o:Option Int):sIx n d o<=n:=by
 cases o with
 |none=>exact hd
 |some v=>
  show(if v<0 then(v+(n:Int)).toNat else min v.toNat n)<=n
  grind
def Ax(v:Int)(n d:Nat):(if v<0 then max (v+(n:Int)) 0 else min v (n:Int))=((sIx n d (some v):Nat):Int):=by
 show(if v<0 then max (v+(n:Int)) 0 else min v (n:Int))=(((if v<0 then(v+(n:Int)).toNat else min v.toNat n):Nat):Int)
 grind
def zc(lo hi:Option Int)(n:Nat):Builtin.Slice.sliceAdjust lo hi 1 (n:Int)=(((sIx n 0 lo:Nat):Int),((sIx n n hi:Nat):Int)):=by
 have h1:¬((1:Int)<0):=by lia
 unfold Builtin.Slice.sliceAdjust;simp only[h1,Rv];refine Prod.ext ?_ ?_
 .cases lo with
  |none=>rfl
  |some v=>exact Ax v n 0
 .cases hi with
  |none=>rfl
  |some v=>exact Ax v n n
def zd(i j:Nat):Builtin.Slice.slicePlaces (i:Int) (j:Int) 1=j-i:=by
 unfold Builtin.Slice.slicePlaces
 grind
def rV(p:IsPart v o)(h:Q o s):wpAny (model prog w) A (Builtin.Slice.slicePartIndex v) Q E s:=by
 cases p with
 |none=>exact slicePart_none h
 |int i t=>exact slicePart_int h
def sliceApplied_gen{lo hi:Option Int}{n:Nat}{Q:Int×Int×Nat->RB->Prop}(hs:s.heap.IsSliceOf sl vl vu .none)(pl:IsPart vl lo)(pu:IsPart vu hi)
 (h:Q (((sIx n 0 lo:Nat):Int),1,sIx n n hi-sIx n 0 lo) s):wpAny (model prog w) A (Builtin.Slice.sliceApplied (.ref sl) (pure (n:Int))) Q E s:=by
 obtain⟨os,hos,hcs,hds⟩:=id hs;unfold Builtin.Slice.sliceApplied Builtin.Slice.sliceFields;refine aW (aW (kI hos hds (x:=vl) rfl (aW (kI hos hds (x:=vu) rfl (aW (kI hos hds (x:=.none) rfl (cZ ?_)))))));refine aW (slicePart_none ?_);show wpAny _ _ (if((1:Int)==0)=true then _ else _) _ _ s;rw[dS (by decide)];refine aW (rV pl (aW (rV pu (aW (cZ ?_)))));show wpAny _ _ (match Builtin.Slice.sliceAdjust lo hi 1 (n:Int)with|(lo,hi)=>pure (lo,(1:Int),Builtin.Slice.slicePlaces lo hi 1)) _ _ s;rw[zc lo hi n];show wpAny _ _ (pure (((sIx n 0 lo:Nat):Int),(1:Int),Builtin.Slice.slicePlaces ((sIx n 0 lo:Nat):Int) ((sIx n n hi:Nat):Int) 1)) _ _ s;rw[zd];exact cZ h
def Dc(xs:Array RE)(i k:Nat):((List.range k).filterMap λ(m:Nat)=>xs[((i:Int)+(m:Int)*1).toNat]?).toArray=((xs.toList.drop i).take k).toArray:=by
 have e:(λ(m:Nat)=>xs[((i:Int)+(m:Int)*1).toNat]?)=λm=>xs[i+m]?:=by grind
 rw[e];have:=pick_run xs i k;rw[List.filterMap_map]at this;have e2:((λx=>xs[x]?) ∘ λx=>i+x)=λm=>xs[i+m]?:=rfl;rw[e2]at this;rw[this]
def getItem_tuple_cut{vl vu:RE}{lo hi:Option Int}{Q:RE->RB->Prop}(ht:IsTup s.heap t items)(hs:s.heap.IsSliceOf sl vl vu .none)(pl:IsPart vl lo)(pu:IsPart vu hi)
 (hw:¬(sIx items.size 0 lo=0/\sIx items.size items.size hi=items.size))
 (h:Q (.ref s.heap.objs.size) { s with heap:=s.heap.push { cls:=.type "tuple",data:=.seq ((items.toList.drop (sIx items.size 0 lo)).take (sIx items.size items.size hi-sIx items.size 0 lo)).toArray } })
 (hsz:items.size<=sizeLine):wpAny (model prog w) A (getItem (.ref t) (.ref sl)) Q E s:=by
 have htake:sizeOk (.seq ((items.toList.drop (sIx items.size 0 lo)).take (sIx items.size items.size hi-sIx items.size 0 lo)).toArray):=by
  show((items.toList.drop (sIx items.size 0 lo)).take (sIx items.size items.size hi-sIx items.size 0 lo)).toArray.size<=sizeLine
  grind
 have hj:sIx items.size items.size hi<=items.size:=JW _ _ (cC _) hi;obtain⟨os,hos,hcs,hds⟩:=id hs;have hTs:s.TypeIs (.ref sl) "slice":=⟨os,hos,hcs⟩;unfold getItem
 try with_reducible refine pU ?_
 first|refine aW (cZ ?_)|skip
 refine aW (wpAny_sequenceKey ht.typeIs (by decide) ?_);refine aW (kK (name:=Str.ofString "__getitem__") ht.typeIs iV
  (qE iV ht.typeIs entry_tuple_getitem ?_ (args_tuple_getitem _ _)))
 show wpAny _ _ (Builtin.Tuple.tupleItemsOf (.ref t) >>= _) _ _ s;refine aW (tupleItemsOf_ ht ?_);refine aW (tU hTs ?_);rw[c5 (by decide)];refine aW (sliceApplied_gen hs pl pu ?_);have hno:¬((((sIx items.size 0 lo:Nat):Int)==0&&(1:Int)==1&&(sIx items.size items.size hi-sIx items.size 0 lo)==items.size)=true):=by grind
 show wpAny _ _ (if(((sIx items.size 0 lo:Nat):Int)==0&&(1:Int)==1&&(sIx items.size items.size hi-sIx items.size 0 lo)==items.size)=true then _ else _) _ _ s;rw[dS hno,Dc]
 first
  |exact aW (m:=Builtin.Tuple.tupleExact _) (nk (cZ ⟨_,rfl,cZ h⟩) htake)
  |exact aW (m:=Builtin.Tuple.tupleExact _) (nk (aW (cZ (cZ ⟨_,rfl,cZ h⟩))) htake)
  |exact aW (aW (m:=Builtin.Tuple.tupleExact _) (nk (cZ (cZ ⟨_,rfl,cZ h⟩)) htake))
  |exact aW (aW (m:=Builtin.Tuple.tupleExact _) (nk (cZ ⟨_,rfl,cZ h⟩) htake))
end
end HT
namespace L2
open PySem PySem.Spec PyProof.Rows
abbrev TO:=St->Hp->(Option Int->Hp->Prop)->Prop
def PO(X:Cx)(e:Option Expr)(t:TO):Prop:=
 ∀(ai:List (Addr×Obj))(s:RB)(σ:St)(H:Hp)(Q:Option Int->Hp->Prop),Inv X ai σ H s->t σ H Q->
  wpAny (model X.prog X.w) X.A (evalPart e X.env) (λu s'=>∃o H',Inv X ai σ H' s'/\IsPart u o/\Q o H') X.xe s
noncomputable def Gs:TO:=λ_ H Q=>Q none H
noncomputable def MG(t:TE):TO:=λσ H Q=>t σ H λx H1=>∃i,x=.int i/\Q (some i) H1
section
variable{X:Cx}{e:Expr}{te:TE}{lo hi:Option Expr}{tl th:TO}{pos p2:Pos}
def Gu:PO X none Gs:=by intro ai s σ H Q I h;rw[evalPart_none];exact cZ ⟨none,H,I,.none,h⟩
def Gv(h:PE X e te):PO X (some e) (MG te):=by intro ai s σ H Q I hw;rw[evalPart_some];refine dY (h ai s σ H _ I hw) λu s1 ⟨x,H1,I1,r1,q1⟩=>?_;obtain⟨i,rfl,q⟩:=q1;obtain⟨t,rfl⟩:=r1;exact⟨some i,H1,I1,.int i t,q⟩
def SlR(X:Cx)(r:V->Option Int->Option Int->Hp->VK->Prop):Prop:=
 ∀(ai:List (Addr×Obj))(s:RB)(σ:St)(H:Hp)(x:V)(v vl vu:RE)(lo hi:Option Int)(sl:Addr)(Q:VK),Inv X ai σ H s->RelV x v->s.heap.IsSliceOf sl vl vu .none->IsPart vl lo->IsPart vu hi->r x lo hi H Q->
  ∃T id,typeLookup (.type T) "__getitem__"=pure (some (.builtin id))/\s.TypeIs v T/\wpAny (model X.prog X.w) X.A (getItem v (.ref sl)) (EP X ai σ Q) X.xe s
def SlR.or(h:SlR X r)(h':SlR X r'):SlR X (λx lo hi H Q=>r x lo hi H Q\/r' x lo hi H Q):=by
 intro ai s σ H x v vl vu lo hi sl Q I rx hs pl pu q;rcases q with q|q
 .exact h ai s σ H x v vl vu lo hi sl Q I rx hs pl pu q
 .exact h' ai s σ H x v vl vu lo hi sl Q I rx hs pl pu q
noncomputable def QP(r:V->Option Int->Option Int->Hp->VK->Prop)(te:TE)(tl th:TO):TE:=λσ H Q=>te σ H λx H1=>tl σ H1 λl H2=>th σ H2 λu H3=>r x l u H3 Q
def Dd(hr:SlR X r)(he:PE X e te)(hl:PO X lo tl)(hu:PO X hi th):PE X (.Subscript e (.Slice lo hi none p2) pos) (QP r te tl th):=by intro ai s σ H Q I h;refine Subscript_ (dY (he ai s σ H _ I h) λv s1 ⟨x,H1,I1,r1,q1⟩=>?_);refine wpAny_Slice (dY (hl ai s1 σ H1 _ I1 q1) λvl s2 ⟨l,H2,I2,pl,q2⟩=>dY (hu ai s2 σ H2 _ I2 q2) λvu s3 ⟨u,H3,I3,pu,q3⟩=>?_);rw[evalPart_none];refine cZ ?_;have I4:Inv X ai σ H3 { s3 with heap:=s3.heap.push { cls:=.type "slice",data:=.fields #[vl,vu,.none] } }:=I3.kept (t':=s3.toks) λb ob q=>cA _ q;obtain⟨T,id,hT,ht,hg⟩:=hr ai { s3 with heap:=s3.heap.push { cls:=.type "slice",data:=.fields #[vl,vu,.none] } } σ H3 x v vl vu l u s3.heap.objs.size Q I4 r1 (Heap.IsSliceOf.new ..) pl pu q3;show wX X (subscriptTail e (.Slice lo hi none p2) v (.ref s3.heap.objs.size)) (EP X ai σ Q) X.xe { s3 with heap:=s3.heap.push { cls:=.type "slice",data:=.fields #[vl,vu,.none] } };exact tail_any (ops:=[.ref s3.heap.objs.size,v]) ht hT hg (by with_unfolding_all rfl)
def xr(xs:List V)(lo hi:Option Int):List V:=(xs.drop (HT.sIx xs.length 0 lo)).take (HT.sIx xs.length xs.length hi-HT.sIx xs.length 0 lo)
def pY(xs:List V)(lo hi:Option Int):(xr xs lo hi).length<=xs.length:=by unfold xr;rw[kj,By];lia
def Pn(K:RC):V->Option Int->Option Int->Hp->VK->Prop:=λx lo hi H Q=>∃a xs,x=.ref a/\SqT K H a xs/\
 ¬(HT.sIx xs.length 0 lo=0/\HT.sIx xs.length xs.length hi=xs.length)/\∀p,H p=none->Q (.ref p) (ck H p (.tup (xr xs lo hi)))
def sl_tup:SlR X (Pn X.K):=by
 intro ai s σ H x v vl vu lo hi sl Q I rx hs pl pu h;obtain⟨a,xs,rfl,hx,hw,q⟩:=h;cases rx;obtain⟨its,r,ht,hz⟩:=I.tuple hx;have cK:its.toArray.size=xs.length:=by rw[cE];exact r.length.symm
 refine⟨"tuple",_,iV.lookup,ht.typeIs,?_⟩;refine HT.getItem_tuple_cut ht hs pl pu (by rw[cK];exact hw) ?_ (by rw[cK];exact hz);rw[cK];refine⟨.ref s.heap.objs.size,_,I.laid (t':=s.toks) (o:=.tup (xr xs lo hi)) (λb ob q=>cA _ q) (cC _) ?_,rfl,q _ (I.bC.fresh (cC _))⟩;exact⟨ib (pY xs lo hi) hz,_,(r.drop (HT.sIx xs.length 0 lo)).take (HT.sIx xs.length xs.length hi-HT.sIx xs.length 0 lo),IsTup.new _ _⟩
def MH(K:RC):R2:=λx y H Q=>∃a b xs ys,x=.ref a/\y=.ref b/\SqT K H a xs/\SqT K H b ys/\xs≠[]/\xs.length+ys.length<=sizeLine/\
 (ys=[]->Q (.ref a) H)/\(ys≠[]->∀p,H p=none->Q (.ref p) (ck H p (.tup (xs++ys))))
def Vals.xg(r:Vals xs us):us=[]↔xs=[]:=by
 cases r with
 |nil=>simp
 |cons _ _=>simp
def op_catT:OpR X (binaryOp .Add) (MH X.K):=by intro ai s σ H x y v u Q I rx ry h;obtain⟨a,b,xs,ys,rfl,rfl,ha,hb,hx,hz,q1,q2⟩:=h;cases rx;cases ry;obtain⟨its,r1,p1,_⟩:=I.tuple ha;obtain⟨its2,r2,p2,_⟩:=I.tuple hb;refine HT.cat_tup p1 p2 (λz=>hx (r1.xg.mp z)) (λz=>⟨.ref a,H,I,rfl,q1 (r2.xg.mp z)⟩) (λz=>?_) (by rw[<- r1.length,<- r2.length];exact hz);refine⟨.ref s.heap.objs.size,_,I.laid (t':=s.toks) (o:=.tup (xs++ys)) (λb ob q=>cA _ q) (cC _) ?_,rfl,q2 (λw=>z (r2.xg.mpr w)) _ (I.bC.fresh (cC _))⟩;exact⟨by rw[gp];exact hz,_,r1.append r2,IsTup.new _ _⟩
end
noncomputable def t8(n:Nat)(i:Int):Option Nat:=if 0<=i then(if i<n then some i.toNat else none)else if -(n:Int)<=i then some (i+n).toNat else none
def b0{α:Type}(xs:List α)(i:Int):Option α:=(t8 xs.length i).bind λj=>xs[j]?
def Gw(h:t8 n i=some j):seqIndex? i n=some j/\j<n/\-(n:Int)<=i/\i<n:=by
 unfold t8 at h;by_cases h0:0<=i
 .rw[c5 h0]at h;by_cases h1:i<n
  .rw[c5 h1]at h;have e:i.toNat=j:=ia h;exact⟨by rw[seqIndex_of h0 h1,e],by lia,by lia,h1⟩
  .rw[dS h1]at h;cases h
 .rw[dS h0]at h;by_cases h1:-(n:Int)<=i
  .rw[c5 h1]at h;have e:(i+n).toNat=j:=ia h;exact⟨by rw[seqIndex_neg (by lia) h1,e],by lia,h1,by lia⟩
  .rw[dS h1]at h;cases h
def vO{α:Type}{xs:List α}{i:Int}{v:α}(h:b0 xs i=some v):∃j,seqIndex? i xs.length=some j/\xs[j]?=some v/\j<xs.length/\-(xs.length:Int)<=i/\i<xs.length:=by
 unfold b0 at h;cases e:t8 xs.length i with
 |none=>rw[e]at h;cases h
 |some j=>rw[e]at h;obtain⟨h1,h2,h3,h4⟩:=Gw e;exact⟨j,h1,h,h2,h3,h4⟩
def rD(b:Expr):Prop:=∀o i,subscripted b false o i=operate [o,i] (getItem o i)
def IxR(X:Cx)(r:R2):Prop:=
 ∀(value slice:Expr)(ai:List (Addr×Obj))(s:RB)(σ:St)(H:Hp)(x y:V)(v u:RE)(Q:VK),Inv X ai σ H s->RelV x v->RelV y u->r x y H Q->
  subscripted slice false v u=operate [v,u] (getItem v u)->wpAny (model X.prog X.w) X.A (subscriptTail value slice v u) (EP X ai σ Q) X.xe s
def ON(X:Cx)(id:String)(r:V->List V->Hp->VK->Prop):Prop:=
 ∀(ai:List (Addr×Obj))(s:RB)(σ:St)(H:Hp)(x:V)(xs:List V)(v:RE)(us:List RE)(Q:VK),Inv X ai σ H s->RelV x v->Vals xs us->r x xs H Q->
  wpAny (model X.prog X.w) X.A (call (.builtin id) (v::us)) (EP X ai σ Q) X.xe s
section
variable{X:Cx}
def IxR.or(h:IxR X r)(h':IxR X r'):IxR X (λx y H Q=>r x y H Q\/r' x y H Q):=by
 intro value slice ai s σ H x y v u Q I rx ry q hs;rcases q with q|q
 .exact h value slice ai s σ H x y v u Q I rx ry q hs
 .exact h' value slice ai s σ H x y v u Q I rx ry q hs
def De(hr:IxR X r)(ha:PE X a ta)(hb:PE X b tb)(hs:rD b):PE X (.Subscript a b pos) (Me r ta tb):=by intro ai s σ H Q I h;exact Subscript_ (JL ha hb I h λv u s2 x y H2 I2 rx ry q=>hr a b ai s2 σ H2 x y v u Q I2 rx ry q (hs _ _))
def JX(K:RC):R2:=λx y H Q=>∃p xs i v,x=.ref p/\y=.int i/\SqL K H p xs/\b0 xs i=some v/\Q v H
def MI(K:RC):R2:=λx y H Q=>∃p xs i v,x=.ref p/\y=.int i/\SqT K H p xs/\b0 xs i=some v/\Q v H
def MJ:R2:=λx y H Q=>∃z i c,x=.str z/\y=.int i/\z.length<=sizeLine/\b0 z.cps.toList i=some c/\Q (.str ⟨#[c]⟩) H
def ix_list:IxR X (JX X.K):=by
 intro value slice ai s σ H x y v u Q I rx ry h hs;obtain⟨p,xs,i,z,rfl,rfl,hq,he,q⟩:=h;cases rx;obtain⟨t,rfl⟩:=ry;obtain⟨its,r,pl,hz⟩:=I.list hq;obtain⟨j,h1,h2,h3,h4,h5⟩:=vO he;obtain⟨w,ew,rw'⟩:=r.get h2;have hl:=r.length;have hn:=pf;have fin:EP X ai σ Q w s:=⟨z,H,I,rw',q⟩;by_cases h0:0<=i
 .have hj:i.toNat=j:=by rw[seqIndex_of h0 h5]at h1;exact ia h1
  exact item_listR pl.isList h0 (by lia) (by rw[hj];simpa using ew) fin hs
 .have hj:(i+(its.toArray.size:Int)).toNat=j:=by rw[seqIndex_neg (by lia) h4]at h1;rw[cE,<- hl];exact ia h1
  exact subscriptTail_builtinR (x:=w) pl.isList.typeIs slot_list_getitem.lookup
   (wpAny_getItem_list_neg (Q:=λr s'=>r=w/\EP X ai σ Q r s') pl.isList (by lia) (by rw[cE]<;>lia) (by lia) (by rw[hj];simpa using ew) ⟨rfl,fin⟩) hs
def ix_tup:IxR X (MI X.K):=by
 intro value slice ai s σ H x y v u Q I rx ry h hs;obtain⟨p,xs,i,z,rfl,rfl,hq,he,q⟩:=h;cases rx;obtain⟨t,rfl⟩:=ry;obtain⟨its,r,pl,hz⟩:=I.tuple hq;obtain⟨j,h1,h2,h3,h4,h5⟩:=vO he;obtain⟨w,ew,rw'⟩:=r.get h2;have hl:=r.length;have hn:=pf;have fin:EP X ai σ Q w s:=⟨z,H,I,rw',q⟩;exact subscriptTail_builtinR (x:=w) pl.typeIs slot_tuple_getitem.lookup
  (getItem_tuple (j:=j) (Q:=λr s'=>r=w/\EP X ai σ Q r s') pl (by lia) (by lia) (by rw[cE,<- hl];exact h1) (by simpa using ew) ⟨rfl,fin⟩) hs
def JY:IxR X MJ:=by
 intro value slice ai s σ H x y v u Q I rx ry h hs;obtain⟨z,i,c,rfl,rfl,hz,he,q⟩:=h;obtain⟨t,rfl⟩:=rx;obtain⟨t',rfl⟩:=ry;obtain⟨j,h1,h2,h3,h4,h5⟩:=vO he;have hl:z.cps.toList.length=z.length:=by simp[Str.length]
 rw[hl]at h1 h4 h5;have hn:=pf;exact tail_any (Ro s z t) slot_str_getitem.lookup (getItem_str (c:=c) (by have e1:decide (i < -(2^63:Int))=false:=fm (by lia);have e2:decide (i>=2^63)=false:=fm (by lia);rw[e1,e2,Bool.or_false]) (by rw[h1];simpa using h2) ⟨.str ⟨#[c]⟩,H,I.tok _,⟨_,rfl⟩,q⟩) hs
def QQ(K:RC):R2:=λx y H Q=>JX K x y H Q\/MI K x y H Q\/MJ x y H Q
def JZ:IxR X (QQ X.K):=ix_list.or (ix_tup.or JY)
def vP(lo hi:Option Int)(n:Nat):(sliceBounds lo hi none n).1=((HT.sIx n 0 lo:Nat):Int)/\(sliceBounds lo hi none n).2.1=((HT.sIx n n hi:Nat):Int)/\(sliceBounds lo hi none n).2.2=1:=by
 refine⟨?_,?_,rfl⟩
 .cases lo with
  |none=>simp[sliceBounds,HT.sIx]
  |some i=>
   simp only[sliceBounds,HT.sIx,Option.getD_none,show(1:Int)>0 by decide,vE]
   grind
 .cases hi with
  |none=>simp[sliceBounds,HT.sIx]
  |some i=>
   simp only[sliceBounds,HT.sIx,Option.getD_none,show(1:Int)>0 by decide,vE]
   grind
def t9(its:List RE)(lo hi:Option Int):slicePick its.toArray lo hi none=((its.drop (HT.sIx its.length 0 lo)).take (HT.sIx its.length its.length hi-HT.sIx its.length 0 lo)).toArray:=by obtain⟨h1,h2,h3⟩:=vP lo hi its.toArray.size;unfold slicePick;rw[h1,h2,h3];simp only[sliceRange_one,pick_run,cE]<;>rfl
def Po(K:RC):V->Option Int->Option Int->Hp->VK->Prop:=λx lo hi H Q=>∃a xs,x=.ref a/\SqL K H a xs/\∀p,H p=none->Q (.ref p) (ck H p (.lst (xr xs lo hi)))
def sl_list:SlR X (Po X.K):=by intro ai s σ H x v vl vu lo hi sl Q I rx hs pl pu h;obtain⟨a,xs,rfl,hx,q⟩:=h;cases rx;obtain⟨its,r,ht,hz⟩:=I.list hx;have cK:=r.length;refine⟨"list",_,slot_list_getitem.lookup,ht.isList.typeIs,?_⟩;refine wpAny_getItem_list_slice ht.isList hs pl pu .none (by simp) ?_ (by rw[cE]<;>lia);rw[t9,<- cK];refine⟨.ref s.heap.objs.size,_,I.laid (t':=s.toks) (o:=.lst (xr xs lo hi)) (λb ob q=>cA _ q) (cC _) ?_,rfl,q _ (I.bC.fresh (cC _))⟩;exact⟨ib (pY xs lo hi) hz,_,0,(r.drop (HT.sIx xs.length 0 lo)).take (HT.sIx xs.length xs.length hi-HT.sIx xs.length 0 lo),dO _ rfl⟩
def call_len_seq:CallR X (.builtin "len") (λxs H Q=>∃p ys,xs=[.ref p]/\(SqL X.K H p ys\/SqT X.K H p ys)/\Q (.int ys.length) H):=by
 intro ai s σ H xs us Q I r h;obtain⟨p,ys,rfl,hq,q⟩:=h;obtain⟨u,rfl,rx⟩:=i4 r;cases rx;have hn:=pf;rcases hq with hq|hq
 .obtain⟨its,r',pl,hz⟩:=I.list hq;have cK:=r'.length;exact Calls.call_len_list pl.isList (by simp only[cE]<;>lia) ⟨.int ys.length,H,I.tok _,⟨s.toks+1,by rw[cE,cK]⟩,q⟩
 .obtain⟨its,r',pl,hz⟩:=I.tuple hq;have cK:=r'.length;exact len_tuple pl (by simp only[cE]<;>lia) ⟨.int ys.length,H,I.tok _,⟨s.toks+1,by rw[cE,cK]⟩,q⟩
def vQ:CallR X (.builtin "len") (λxs H Q=>∃z,xs=[.str z]/\z.length<=sizeLine/\Q (.int z.length) H):=by intro ai s σ H xs us Q I r h;obtain⟨z,rfl,hz,q⟩:=h;obtain⟨u,rfl,t,rfl⟩:=i4 r;have hn:=pf;exact len_str (by lia) ⟨.int z.length,H,I.tok _,⟨_,rfl⟩,q⟩
def CallR.or(h:CallR X f r)(h':CallR X f r'):CallR X f (λxs H Q=>r xs H Q\/r' xs H Q):=by
 intro ai s σ H xs us Q I rs q;rcases q with q|q
 .exact h ai s σ H xs us Q I rs q
 .exact h' ai s σ H xs us Q I rs q
def vR:CallR X (.type "list") (λxs H Q=>∃p ys,xs=[.ref p]/\(SqL X.K H p ys\/SqT X.K H p ys)/\∀l,H l=none->Q (.ref l) (ck H l (.lst ys))):=by
 intro ai s σ H xs us Q I r h;obtain⟨p,ys,rfl,hq,q⟩:=h;obtain⟨u,rfl,rx⟩:=i4 r;cases rx;have fin:∀(its:List RE),Vals ys its->ys.length<=sizeLine->∀(h':Heap)(c':Nat),(∀b o',s.heap.get? b=some o'->h'.get? b=some o')->
  h'.get? s.heap.objs.size=some { cls:=.type "list",dict:=none,data:=.seq its.toArray c',slots:=#[] }->EP X ai σ Q (.ref s.heap.objs.size) {s with heap:=h'}:=λits r' hz h' c' kp e=>
  ⟨.ref s.heap.objs.size,_,I.laid (t':=s.toks) kp (cC _) (show ObjOk X.prog X.w _ h' _ (.lst ys)from⟨hz,its,c',r',e⟩),rfl,q _ (I.bC.fresh (cC _))⟩
 rcases hq with hq|hq
 .obtain⟨its,r',pl,hz⟩:=I.list hq;have cK:=r'.length;obtain⟨o,ho,hc,n,hd⟩:=pl.isList;exact call_list_seq p (.inl rfl) ho hc hd (λh' c' kp e=>fin its r' hz h' c' kp e) (by simp only[cE]<;>lia)
 .obtain⟨its,r',pl,hz⟩:=I.tuple hq;have cK:=r'.length;obtain⟨o,ho,hc,n,hd⟩:=pl;exact call_list_seq p (.inr rfl) ho hc hd (λh' c' kp e=>fin its r' hz h' c' kp e) (by simp only[cE]<;>lia)
def t_:CallR X (.type "tuple") (λxs H Q=>∃p ys,xs=[.ref p]/\((SqL X.K H p ys/\∀l,H l=none->Q (.ref l) (ck H l (.tup ys)))\/(SqT X.K H p ys/\Q (.ref p) H))):=by
 intro ai s σ H xs us Q I r h;obtain⟨p,ys,rfl,h⟩:=h;obtain⟨u,rfl,rx⟩:=i4 r;cases rx;rcases h with⟨hq,q⟩|⟨hq,q⟩
 .obtain⟨its,r',pl,hz⟩:=I.list hq;have cK:=r'.length;refine call_tuple_list pl.isList (λh' kp=>?_) (by simp only[cE]<;>lia);have I1:Inv X ai σ H {s with heap:=h'}:=I.kept (t':=s.toks) kp;have I2:Inv X ai σ (ck H h'.objs.size (.tup ys)) { s with heap:=h'.push { cls:=.type "tuple",data:=.seq its.toArray } }:=I1.laid (t':=s.toks) (λb o e=>cA _ e) (cC _) (show ObjOk X.prog X.w _ _ _ (.tup ys)from⟨hz,its,r',IsTup.new _ _⟩);exact⟨.ref h'.objs.size,_,I2,rfl,q _ (I1.bC.fresh (cC _))⟩
 .obtain⟨its,r',pl,hz⟩:=I.tuple hq;exact call_tuple_same pl ⟨.ref p,H,I,rfl,q⟩
def Qs(K:RC)(T:String)(x:V)(H:Hp):Prop:=match x with
 |.str _=>T="str"
 |.int _=>T="int"
 |.ref p=>(T="list"/\∃xs,SqL K H p xs)\/(T="tuple"/\∃o,K.lookup p=some o/\o.cls=.type "tuple"/\o.dict=none)\/
  (T="dict"/\((∃kvs,H p=some (.dK kvs))\/∃kvs,H p=some (.dT kvs)))\/(T="set"/\∃S n,H p=some (.set S n))
 |_=>False
def J0(I:Inv X ai σ H s)(r:RelV x v)(ty:Qs X.K T x H) :
 s.TypeIs v T/\∀a,v=.ref a->∃ob,s.heap.get? a=some ob/\ob.dict=none:=by
 cases x with
 |str z=>obtain⟨t,rfl⟩:=r;cases(show T="str" from ty);exact⟨Ro s z t,λ_ e=>nomatch e⟩
 |int i=>obtain⟨t,rfl⟩:=r;cases(show T="int" from ty);exact⟨typeIs_int s i t,λ_ e=>nomatch e⟩
 |ref p=>
  cases r;rcases ty with⟨rfl,xs,hq⟩|⟨rfl,o,hk,hc,hd⟩|⟨rfl,hk⟩|⟨rfl,S,n,hk⟩
  .obtain⟨its,_,pl,_⟩:=I.list hq;refine⟨pl.isList.typeIs,λa e=>?_⟩;cases e;obtain⟨o,n,e,c,hd,_⟩:=pl;exact⟨o,e,hd⟩
  .refine⟨⟨o,I.vK p o hk,hc⟩,λa e=>?_⟩;cases e;exact⟨o,I.vK _ o hk,hd⟩
  .have z:∃o,s.heap.get? p=some o/\o.ExactDict:=by
    rcases hk with⟨kvs,hk⟩|⟨kvs,hk⟩
    .obtain⟨_,_,_,_,o,_,_,e,ex,_⟩:=I.bC p _ hk;exact⟨o,e,ex⟩
    .obtain⟨_,_,_,_,o,_,_,e,ex,_⟩:=I.bC p _ hk;exact⟨o,e,ex⟩
   obtain⟨o,e,ex⟩:=z;refine⟨⟨o,e,ex.1⟩,λa e2=>?_⟩;cases e2;exact⟨o,e,ex.2.1⟩
  .obtain⟨o,_,_,_,e,ex,_⟩:=I.bC p _ hk;refine⟨⟨o,e,ex.1⟩,λa e2=>?_⟩;cases e2;exact⟨o,e,ex.2.1⟩
 |_=>exact False.elim ty
noncomputable def QR(K:RC)(T:String)(r:V->List V->Hp->VK->Prop)(to:TE)(t:TA):TE:=λσ H Q=>to σ H λx H1=>Qs K T x H1/\t σ H1 λxs H2=>r x xs H2 Q
variable{o e:Expr}{es:List Expr}{to:TE}{t:TA}{name:Str}{apos cpos:Pos}{T id:String}{r:V->List V->Hp->VK->Prop}
def rW(pa:PlainAttrs T)(slot:Slot T name id)(hty:typeOf (.builtin id)=pure (.type "method_descriptor")) (hm:ON X id r) (ho:PE X o to) (ha:PA X (e::es) t)
 (hbase:autoParam (attributeBase o name X.env (eval o X.env)=eval o X.env) RQ)
 (hfew:autoParam (((backTo cpos (starEach (e::es) X.env)).all (λx=>!x.1)&&(backToKw cpos (keywordEach [] X.env)).all (λx=>x.1.isSome)
   && decide ((e::es).length+([]:List Keyword).length+(if([]:List Keyword).isEmpty then 0 else 1)<30))=true) RQ)
 (hline:autoParam ((apos.endLine==cpos.line)=true) RQ) (hs:autoParam (starEach (e::es) X.env=(false,eval e X.env)::starEach es X.env) RQ) (hplain:autoParam (bT X cpos es) RQ) :
 PE X (.Call (.Attribute o name apos) (e::es) [] cpos) (QR X.K T r to t):=by
 intro ai s σ H Q I h;refine wpAny_Call_method_late hbase hfew hline rfl (dY (ho ai s σ H _ I h) λv s1 ⟨x,H1,I1,r1,ty,q1⟩=>?_);obtain⟨h1,h2⟩:=J0 I1 r1 ty;refine⟨T,id,pa,slot,hty,h1,h2,?_⟩;have hA:=ha cpos ai s1 σ H1 _ I1 q1;rw[hs]at hA ⊢;refine Calls.callWith_builtin (by show(false ||(backTo cpos (starEach es X.env)).any (·.1))=false;rw[hplain]<;>rfl) (Calls.evalArgs_plain ?_);exact dY hA λus s2 ⟨vs,H2,I2,r2,q2⟩=>hm ai s2 σ H2 x vs v us Q I2 r1 r2 q2
end
def Qu(X:Cx)(id:String)(r:V->List V->Hp->VK->Prop):Prop:=
 ∀(ai:List (Addr×Obj))(s:RB)(σ:St)(H:Hp)(x:V)(xs:List V)(v:RE)(us:List RE)(Q:VK),Inv X ai σ H s->RelV x v->Vals xs us->r x xs H Q->
  wpAny (model X.prog X.w) X.A (call (.builtin id) (v::us)) (EP X ai σ Q) X.xe s
def Vals.one{x:V}{us:List RE}(h:Vals [x] us):∃u,us=[u]/\RelV x u:=i4 h
section
def Inv.OI{its its':List RE}{f:Array RE->Array RE}(I:Inv X ai σ H s)(hH:H l=some (.lst xs))
 (e:s.heap.get? l=some { cls:=.type "list",data:=.seq its.toArray n }) (hf:f its.toArray=its'.toArray) (hv:Vals ys its') (hz:ys.length<=sizeLine) :
 Inv X ai σ (ck H l (.lst ys)) {s with heap:=s.heap.update l (Obj.mapSeq f),toks:=t'}:=by
 have q:=PySem.IsL.update e f;rw[hf]at q;refine I.write (x:=l) (e:=l) (by rw[hH];exact trivial) (.inl rfl) (λb' u hb hu=>(Heap.get?_update_other s.heap (Obj.mapSeq f) (kF hb)).trans hu) ⟨_,q⟩ ?_;exact⟨hz,its',_,hv,q⟩
def Inv.OF(I:Inv X ai σ H s)(hv:Vals ys its)(hz:ys.length<=sizeLine) :
 Inv X ai σ (ck H s.heap.objs.size (.lst ys)) { s with heap:=s.heap.push { cls:=.type "list",data:=.seq its.toArray },toks:=t' }:=
 I.laid (λ_ _ q=>cA _ q) (cC _) ⟨hz,its,0,hv,dO _ rfl⟩
theorem Inv.fresh(I:Inv X ai σ H s):H s.heap.objs.size=none:=I.bC.fresh (cC _)
def Inv.L5(I:Inv X ai σ H s)(hH:H l=some (.lst xs)):xs.length<=sizeLine/\∃(its:List RE)(n:Nat),Vals xs its/\xs.length=its.length/\s.heap.get? l=some { cls:=.type "list",data:=.seq its.toArray n }:=by obtain⟨z,its,n,r,e⟩:=I.bC l _ hH;exact⟨z,its,n,r,r.length,e⟩
def Df(h:n<=sizeLine):Builtin.List.listTooLong n=false:=by unfold Builtin.List.listTooLong;exact fm (by lia)
end
section
def Gx:V->List V->Hp->VK->Prop:=λx vs H Q=>∃l xs y,x=.ref l/\vs=[y]/\H l=some (.lst xs)/\xs.length<sizeLine/\Q .ig (ck H l (.lst (xs++[y])))
def pj:Qu X "list.append" Gx:=by intro ai s σ H x vs v us Q I rx rv h;obtain⟨l,xs,y,rfl,rfl,hH,hz,q⟩:=h;cases rx;obtain⟨u,rfl,ru⟩:=rv.one;obtain⟨z,its,n,r,hl,e⟩:=I.L5 hH;refine Ra F.slot_list_append ⟨_,e,rfl⟩ F.entry_list_append (F.args_list_append_2 _ _) (PySem.list_append l its.toArray n u (by rw[cE];lia)) ⟨e,?_⟩;refine⟨.ig,_,I.OI (its':=its++[u]) hH e (by simp) (r.append (.cons ru .nil)) ?_,rfl,q⟩;rw[gp,List.length_singleton];lia
def Ay:V->List V->Hp->VK->Prop:=λx vs H Q=>∃l b xs zs,x=.ref l/\vs=[.ref b]/\H l=some (.lst xs)/\H b=some (.lst zs)/\xs.length+zs.length<=sizeLine/\Q .ig (ck H l (.lst (xs++zs)))
def uI:Qu X "list.extend" Ay:=by
 intro ai s σ H x vs v us Q I rx rv h;obtain⟨l,b,xs,zs,rfl,rfl,hH,hB,hz,q⟩:=h;cases rx;obtain⟨u,rfl,ru⟩:=rv.one;cases ru;obtain⟨z,its,n,r,hl,e⟩:=I.L5 hH;obtain⟨z2,its2,n2,r2,hl2,e2⟩:=I.L5 hB;have hsz:its.toArray.size+its2.toArray.size<=sizeLine:=by rw[cE,cE];lia
 have hlong:¬(!its.toArray.isEmpty&&Builtin.List.listTooLong (its.toArray.size+its2.toArray.size))=true:=by rw[Df hsz,Bool.and_false];exact qH
 refine Ra F.slot_list_extend ⟨_,e,rfl⟩ F.entry_list_extend (F.args_list_extend_2 _ _)
  (AutoSeq1.list_extend_list_list_0 l its.toArray n b its2.toArray n2 hlong (by rw[cE];lia) (by lia)) ⟨e,e2,?_⟩
 refine⟨.ig,_,I.OI (its':=its++its2) hH e (by simp) (r.append r2) ?_,rfl,q⟩;rw[gp];lia
end
section
variable{κ:Type}[DecidableEq κ]
noncomputable def qR(kvs:List (κ×V))(k:κ):Option V:=(kvs.find? λkv=>decide (kv.1=k)).map (·.2)
noncomputable def k_(kvs:List (κ×V))(k:κ)(v:V):List (κ×V):=if(kvs.any λkv=>decide (kv.1=k))=true then kvs.map (λkv=>if kv.1=k then(kv.1,v)else kv)else kvs++[(k,v)]
def la{p:κ×V}(e:p.1=k):qR (p::r) k=some p.2:=by simp[qR,ii,e]
def lb{p:κ×V}(e:¬p.1=k):qR (p::r) k=qR r k:=by simp[qR,ii,e]
theorem xt(k:κ):∀kvs:List (κ×V),(kvs.any λkv=>decide (kv.1=k))=(qR kvs k).isSome
 |[]=>rfl
 |p::r=>by
  rw[m9];by_cases e:p.1=k
  .simp only[la e,gh e,Bool.true_or,Option.isSome_some]
  .rw[lb e,fm e,Bool.false_or];exact xt k r
theorem pZ(kvs:List (κ×V))(k:κ)(v:V):(k_ kvs k v).length<=kvs.length+1:=by grind [k_]
def RelO.jO(r:RelO o u):o.isSome=u.isSome:=by
 cases o with
 |none=>cases u with
  |none=>rfl
  |some _=>exact(show False from r).elim
 |some _=>cases u with
  |none=>exact(show False from r).elim
  |some _=>rfl
def KV.val{kvs:List (κ×V)}(r:KV kvs vs)(k:κ):RelO (qR kvs k) (valueAt vs k):=by
 unfold KV at r;induction r with
 |nil=>exact True.intro
 |@cons p q ps qs h t ih=>
  obtain⟨h1,h2⟩:=h;by_cases e:p.1=k
  .have e':q.1=k:=h1.symm.trans e;have b:valueAt (q::qs) k=some q.2:=by simp[valueAt,ii,e']
   rw[la e,b];exact h2
  .have e':¬q.1=k:=λz=>e (h1.trans z);have b:valueAt (q::qs) k=valueAt qs k:=by simp[valueAt,ii,e']
   rw[lb e,b];exact ih
theorem KV.any(r:KV kvs vs)(k:κ):(kvs.any λkv=>decide (kv.1=k))=vs.any λkv=>decide (kv.1=k):=by
 unfold KV at r;induction r with
 |nil=>rfl
 |cons h t ih=>rw[m9,m9,ih,h.1]
def KV.Aq(r:KV kvs vs)(k:κ)(ry:RelV y u) :
 KV (kvs.map λkv=>if kv.1=k then(kv.1,y)else kv) (vs.map λkv=>if kv.1=k then(kv.1,u)else kv):=by
 unfold KV at r ⊢;induction r with
 |nil=>exact .nil
 |@cons p q ps qs h t ih=>
  rw[b8,b8];refine .cons ?_ ih
  grind
def KV.put(r:KV kvs vs)(k:κ)(ry:RelV y u):KV (k_ kvs k y) (stored vs k u):=by
 unfold k_ stored;rw[r.any k];by_cases e:(vs.any λkv=>decide (kv.1=k))=true
 .rw[c5 e,c5 e];exact r.Aq k ry
 .rw[dS e,dS e];exact Paired.snoc r ⟨rfl,ry⟩
end
def nW(r:RelV (kV k) u):(bd P w).is k u=true:=by
 cases k with
 |inl i=>obtain⟨t,e⟩:=(show ∃t,u=Value.int i t from r);subst e;exact xj P w i t
 |inr x=>obtain⟨t,e⟩:=(show ∃t,u=Value.str x t from r);subst e;exact kX P w x t
theorem uJ:∀{ks:List b5}{us:List RE},Vals (ks.map kV) us->ItemsAre (bd P w) ks us
 |[],_,r=>by rw[xf]at r;cases r;exact .nil
 |k::ks,_,r=>by
  rw[b8]at r;cases r with
  |cons h t=>exact .cons (nW h) (uJ t)
abbrev KT(H:Hp):List (List b5×V)->List (List b5×Addr×RE)->Prop:=Paired λp q=>p.1=q.1/\H q.2.1=some (.tup (p.1.map kV))/\RelV p.2 q.2.2
def KT.val{H:Hp}(r:KT H kvs xs)(k:List b5):RelO (qR kvs k) ((atKey xs k).map (·.2)):=by
 induction r with
 |nil=>exact True.intro
 |@cons p q ps qs h t ih=>
  obtain⟨h1,_,h2⟩:=h;by_cases e:p.1=k
  .have e':q.1=k:=h1.symm.trans e;have b:atKey (q::qs) k=some q.2:=by simp[atKey,ii,e']
   rw[la e,b];exact h2
  .have e':¬q.1=k:=λz=>e (h1.trans z);have b:atKey (q::qs) k=atKey qs k:=by simp[atKey,ii,e']
   rw[lb e,b];exact ih
def KT.Aq(r:KT H kvs xs)(k:List b5)(ry:RelV y u) :
 KT H (kvs.map λkv=>if kv.1=k then(kv.1,y)else kv) (xs.map (putAt k u)):=by
 induction r with
 |nil=>exact .nil
 |@cons p q ps qs h t ih=>
  rw[b8,b8];refine .cons ?_ ih;obtain⟨h1,h2,h3⟩:=h;unfold putAt
  grind
def KT.put(r:KT H kvs xs)(k:List b5)(hb:H b=some (.tup (k.map kV)))(ry:RelV y u) :
 KT H (k_ kvs k y) (storedH xs k b u):=by
 have e:(kvs.any λkv=>decide (kv.1=k))=(atKey xs k).isSome:=by rw[xt,(r.val k).jO,Rp]
 unfold k_ storedH;rw[e];by_cases q:(atKey xs k).isSome=true
 .rw[c5 q,c5 q];exact r.Aq k ry
 .rw[dS q,dS q];exact Paired.snoc r ⟨rfl,hb,ry⟩
def KT.keeps(r:KT H kvs xs)(ht:∀b ys,H b=some (.tup ys)->H' b=some (.tup ys)):KT H' kvs xs:=Paired.OD r λ_ _ z=>⟨z.1,ht _ _ z.2.1,z.2.2⟩
section
def Az(ok:HOk P w H h)(e:Rd H a u):ObjOk P w H h a u:=e.ok ok
def xu(ok:HOk P w H h)(e:Rd H a (.dK kvs)):kvs.length<=sizeLine/\(a==sysModules)=false/\∃vs,KV kvs vs/\h.DictOf (bd P w) a vs:=show ObjOk P w H h a (.dK kvs)from Az ok e
theorem nq(ok:HOk P w H h)(e:H a=some (.tup (ks.map kV))):(tupleKind (bd P w)).is h ks a:=by obtain⟨_,its,r,o,h1,h2,n,h3⟩:=(show ObjOk P w H h a (.tup (ks.map kV))from ok a _ e);exact⟨o,its.toArray,n,h1,h2,h3,by simpa using uJ r⟩
def xw(ok:HOk P w H h)(e:Rd H a (.dT kvs)):kvs.length<=sizeLine/\(a==sysModules)=false/\
 ∃xs,KT H kvs xs/\h.DictOfH (tupleKind (bd P w)) a xs:=by
 obtain⟨z,y,xs,r,o,es,ep,h1,h2,h3,h4,h5⟩:=(show ObjOk P w H h a (.dT kvs)from Az ok e);refine⟨z,y,xs,r,o,es,ep,h1,h2,h3,h4,λx hx=>?_,h5⟩;have all:∀{l:List (List b5×V)}{m:List (List b5×Addr×RE)},KT H l m->∀x∈m,(tupleKind (bd P w)).is h x.1 x.2.1:=by
  intro l m q;induction q with
  |nil=>intro x hx;exact nomatch hx
  |@cons p q ps qs hq t ih=>grind [nq]
 exact all r x hx
end
def BL(H:Hp)(a:Addr)(y:V)(r:Option V):Prop:=(∃kvs k,Rd H a (.dK kvs)/\y=kV k/\r=qR kvs k)\/∃kvs k b,Rd H a (.dT kvs)/\y=.ref b/\H b=some (.tup (k.map kV))/\r=qR kvs k
section
def Inv.big(I:Inv X ai σ H s):sysModules<s.heap.objs.size:=by have h:mainGlobals<s.heap.objs.size:=(I.mod.glob.keeps I.bk).lt;exact yS (by decide) h
def BM(hu:A.units+1<cLine)(I:Inv X ai σ H s)(g:BL H a y (some v))(ry:RelV y u)(h:∀w' s',Inv X ai σ H s'->RelV v w'->Q w' s') :
 wpAny (model X.prog X.w) A (getItem (.ref a) u) Q E s:=by
 rcases g with⟨kvs,k,e,ey,l⟩|⟨kvs,k,b,e,ey,eb,l⟩
 .subst ey;obtain⟨z,hd,vs,rel,dd⟩:=xu I.bC e;obtain⟨w',hw,rw'⟩:=RelO.some_of (v:=v) (o:=valueAt vs k) (by rw[l];exact rel.val k);exact wpAny_getItem_of (nW ry) dd.mapOf hw (h w' _ (I.tok _) rw')
 .subst ey;cases(show u=Value.ref b from ry);obtain⟨z,hd,xs,rel,dd⟩:=xw I.bC e;obtain⟨w',hw,rw'⟩:=RelO.some_of (v:=v) (o:=(atKey xs k).map (·.2)) (by rw[l];exact rel.val k);obtain⟨p,hp,hp2⟩:=jM.mp hw;refine wpAny_getItem_heap (qI hu) (nq I.bC eb) dd hp ?_;rw[hp2];exact h w' _ (I.tok _) rw'
def Pp(hu:A.units+1<cLine)(I:Inv X ai σ H s)(g:BL H a y o)(ry:RelV y u)(h:∀s',Inv X ai σ H s'->Q (.bool o.isSome) s') :
 wpAny (model X.prog X.w) A (compareOp .In u (.ref a)) Q E s:=by
 rcases g with⟨kvs,k,e,ey,l⟩|⟨kvs,k,b,e,ey,eb,l⟩
 .subst ey;obtain⟨z,hd,vs,rel,dd⟩:=xu I.bC e;refine wpAny_in_of (nW ry) hd dd.mapOf ?_;rw[<- (rel.val k).jO,<- l];exact h _ (I.tok _)
 .subst ey;cases(show u=Value.ref b from ry);obtain⟨z,hd,xs,rel,dd⟩:=xw I.bC e;refine wpAny_in_heap (qI hu) (nq I.bC eb) hd dd ?_;have q:=(rel.val k).jO;rw[Rp]at q;rw[<- q,<- l];exact h _ (I.tok _)
def Gy(hu:A.units+1<cLine)(I:Inv X ai σ H s)(g:BL H a y o)(ry:RelV y u)(h:∀s',Inv X ai σ H s'->Q (.bool (!o.isSome)) s') :
 wpAny (model X.prog X.w) A (compareOp .NotIn u (.ref a)) Q E s:=by
 rcases g with⟨kvs,k,e,ey,l⟩|⟨kvs,k,b,e,ey,eb,l⟩
 .subst ey;obtain⟨z,hd,vs,rel,dd⟩:=xu I.bC e;refine wpAny_notIn_of (nW ry) hd dd.mapOf ?_;rw[<- (rel.val k).jO,<- l];exact h _ (I.tok _)
 .subst ey;cases(show u=Value.ref b from ry);obtain⟨z,hd,xs,rel,dd⟩:=xw I.bC e;refine wpAny_notIn_heap (qI hu) (nq I.bC eb) hd dd ?_;have q:=(rel.val k).jO;rw[Rp]at q;rw[<- q,<- l];exact h _ (I.tok _)
end
def Dg(i:Expr):Prop:=∀ov iv,subscripted i false ov iv=operate [ov,iv] (getItem ov iv)
def AA{E:RE->RB->Prop}{env:Env}{value slice:Expr}{pos:Pos}{T id:String}{Q:RE->RB->Prop}
 (hl:typeLookup (.type T) "__getitem__"=pure (some (.builtin id))) (hs:Dg slice)
 (h:wpAny (model prog w) A (eval value env) (λo s₁=>wpAny (model prog w) A (eval slice env) (λi s₂=>s₂.TypeIs o T/\wpAny (model prog w) A (getItem o i) Q E s₂) E s₁) E s) :
 wpAny (model prog w) A (eval (.Subscript value slice pos) env) Q E s:=by
 refine Subscript_ (ni h (λo s₁ h₁=>ni h₁ (λi s₂ h₂=>?_) λ_ _ x=>x) λ_ _ x=>x);obtain⟨hT,h₂⟩:=h₂;unfold subscriptTail;refine aW ?_;rw[getitemInPython_of_ne hT.not_modules];refine aW (wpAny_specialOf hT hl ?_);have fin:wpAny (model prog w) A (subscripted slice false o i) (λr s₃=>wpAny (model prog w) A (letTemporaryGo value o r >>= λ_=>pure r) Q E s₃) E s₂:=by rw[hs o i];exact wpAny_operating (ni h₂ (λr s₃ h₃=>aW (wpAny_letTemporaryGo (cZ h₃))) λ_ _ x=>x)
 first
  |exact cZ (aW fin)
  |exact aW (cZ (aW fin))
  |exact aW fin
def xx(I:Inv X ai σ H s)(g:BL H a y o):s.TypeIs (.ref a) "dict":=by
 rcases g with⟨kvs,k,e,_,_⟩|⟨kvs,k,b,e,_,_,_⟩
 .obtain⟨_,_,vs,_,dd⟩:=xu I.bC e;exact dd.typeIs
 .obtain⟨_,_,xs,_,dd⟩:=xw I.bC e;exact dd.typeIs
noncomputable def MK(td ty:TE):TE:=λσ H Q=>td σ H λx H1=>ty σ H1 λy H2=>∃a v,x=.ref a/\BL H2 a y (some v)/\Q v H2
section
def Gz(hu:X.A.units+1<cLine)(ho:PE X o td)(hi:PE X i ty)(hs:Dg i):PE X (.Subscript o i pos) (MK td ty):=by intro ai s σ H Q I h;refine AA PySem.F.slot_dict_getitem.lookup hs (dY (ho ai s σ H _ I h) λu s1 ⟨x,H1,I1,rx,q1⟩=>dY (hi ai s1 σ H1 _ I1 q1) λiv s2 ⟨y,H2,I2,ry,a,v,ex,g,q2⟩=>?_);subst ex;obtain rfl:u=Value.ref a:=rx;exact⟨xx I2 g,BM hu I2 g ry λw' s3 I3 rw'=>⟨v,H2,I3,rw',q2⟩⟩
end
def jf(kvs more:List (b5×V)):List (b5×V):=more.foldl (λacc kv=>k_ acc kv.1 kv.2) kvs
theorem mP:∀(more kvs:List (b5×V)),(jf kvs more).length<=kvs.length+more.length
 |[],kvs=>by show kvs.length<=kvs.length+0;lia
 |p::r,kvs=>by
  have h1:=mP r (k_ kvs p.1 p.2)
  grind [pZ,jf,k_]
structure M1(X:Cx) (o:Expr) (m:Str) (apos:Pos) (e:Expr) (cpos:Pos):Prop where
 base:attributeBase o m X.env (eval o X.env)=eval o X.env
 Q9:((backTo cpos (starEach [e] X.env)).all (λx=>!x.1)&&(backToKw cpos (keywordEach [] X.env)).all (λx=>x.1.isSome)
  && decide (([e]:List Expr).length+([]:List Keyword).length+(if([]:List Keyword).isEmpty then 0 else 1)<30))=true
 line:(apos.endLine==cpos.line)=true
 trees:backTo cpos (starEach [e] X.env)=[(false,eval e X.env)]
def Qw(H:Hp)(a:Addr):Prop:=(∃kvs,Rd H a (.dK kvs))\/∃kvs,Rd H a (.dT kvs)
def J1(I:Inv X ai σ H s)(d:Qw H a) :
 s.TypeIs (.ref a) "dict"/\(∀b,Value.ref a=.ref b->∃ob,s.heap.get? b=some ob/\ob.dict=none)/\(a==sysModules)=false:=by
 rcases d with⟨kvs,e⟩|⟨kvs,e⟩
 .obtain⟨_,hd,vs,_,dd⟩:=xu I.bC e;refine⟨dd.typeIs,λb q=>?_,hd⟩;cases q;obtain⟨ob,_,_,h1,h2,_⟩:=dd;exact⟨ob,h1,h2.2.1⟩
 .obtain⟨_,hd,xs,_,dd⟩:=xw I.bC e;refine⟨dd.typeIs,λb q=>?_,hd⟩;cases q;obtain⟨ob,_,_,h1,h2,_⟩:=dd;exact⟨ob,h1,h2.2.1⟩
end L2
namespace Att
open PySem PySem.W PySem.Calls PyProof.Rows
def qS:∀(ns:List Int)(vs:List RE),WellAll P h vs (ns.map WData.int)->IntsAre vs ns:=by
 intro ns;induction ns with
 |nil=>intro vs w;rw[xf]at w;cases w;exact .nil
 |cons n ns ih=>
  intro vs w;rw[b8]at w;cases w with
  |cons a b=>cases a;exact .cons _ _ (ih _ b)
def BN{l:OpenLaw}{n:Nat}(hn:l.most=some n){P:Params}
 (hpre:l.row.toRowW.claim.pre args=true) (hwl:WellAll P h vals args) :
 ∃a vs ns,vals=[Value.ref a]/\args=[WData.list (ns.map WData.int)]/\h.get? a=some { cls:=.type "list",data:=.seq vs.toArray }/\IntsAre vs ns/\ns.length<=n:=by
 have hsh:WShape.hasAll [] args [.list .int]=true:=(pre_splitW hpre).1;have hc:l.pre.holds [] {args:=args}=true:=(pre_splitW hpre).2;obtain⟨d,r,rfl,h1,h2⟩:=hasAllW_cons hsh;obtain rfl:=hasAllW_nil h2;obtain⟨xs,rfl,h3⟩:=hasW_list h1;obtain⟨ns,rfl⟩:=items_int h3;have cK:ns.length<=n:=by
  unfold OpenLaw.pre at hc;have h4:(WTm.not (.lt (.lit (.int (n:Int))) (.len (.arg 0)))).holds [] {args:=[.list (ns.map .int)]}=true:=by have h4:=(holds_andW hc).1;rw[hn]at h4;exact h4
  have h5:=condW_of h4 (w_not (w_lt w_lit (w_len_list (w_arg rfl))))
  grind
 cases hwl with
 |cons w1 w2=>
  cases w2;cases w1 with
  |list ho hall=>exact⟨_,_,ns,rfl,rfl,ho,qS ns _ hall,cK⟩
def BO(l:OpenLaw)(args:List WData):l.row.toRowW.claim.post args (.bool true) args=true:=
 postW_of (r:=l.row.toRowW) (X:=(true==true))
  (show WShape.has [] (.bool true) .bool=true by first|rfl|decide|simp[WShape.has,WShape.arms,WShape.armsAll])
  (show(WTm.eq .res (.lit (.bool true))).value [] {args:=args,res:=some (.bool true),after:=args}=some (.bool (true==true))from w_eq_bool (w_res rfl) w_lit) rfl
def attach_call{l:OpenLaw}{n:Nat}{XP:(Str->Option RE)->Heap->Prop}{YP:World->Heap->Prop}
 (hn:l.most=some n) (hdf:d.params.defaults=[])
 (call:∀(w:World)(s₀ s₁:RB)(mg mb:Str->Option RE)(fa:Addr)(o:Obj)(pm cd doc:RE)(a:Addr)(vs:List RE)(ns:List Int),
   Ground q loose [] XP w s₀ mg mb s₁.heap->YP w s₁.heap->
   s₁.heap.get? fa=some o->o.data=.func (docDef d.name d.params d.body d.scope pm cd doc)->s₁.heap.CodeRec cd d.name->mg d.name=some (.ref fa)->
   s₁.heap.get? a=some { cls:=.type "list",data:=.seq vs.toArray }->IntsAre vs ns->ns.length<=n->s₁.gens=#[]->
   codeAny (model l.prog w) callerA (.call (.ref fa) ⟨[.ref a],[]⟩) (λr s'=>r=.ok (.ret (.bool true))/\OldK s₁.heap s'.heap/\s'.os=s₁.os/\AllBare s'.gens) s₁) :
 WalkO q loose XP YP l.row.toRowW d [] (λf vs=>PySem.call f vs):=by
 intro w s₀ s₁ mg mb G Y fa o pm cd doc dV kV ho hd hcd hD hmg hg args vals as hpre hlay hrd hwl hlo;obtain rfl:dV=.none:=Dflts.none hD hdf;obtain rfl:kV=.none:=Dflts.noKw hD;obtain⟨a,vs,ns,rfl,rfl,hobj,hints,cK⟩:=BN hn hpre hwl;refine enter_call (Rj (call w s₀ s₁ mg mb fa o pm cd doc a vs ns G Y ho (fd_plain hd) hcd hmg hobj hints cK hg) λr s' hq=>?_);obtain⟨rfl,h2,h3,h4⟩:=hq;exact⟨.inl ⟨.bool true,.bool true,[],rfl,λ_=>rfl,.bool true,BO l _,λ_=>⟨List.Pairwise.nil,λ_ hm=>(nomatch hm)⟩⟩,h2,h3,h4⟩
end Att
namespace L2
open PySem PySem.Spec PyProof.Rows
noncomputable def aK(s:Stmt):Arguments:=match s with
 |.FunctionDef _ a _ _ _ _ _ _ _ _=>a
 |_=>{posonlyargs:=[],args:=[],vararg:=none,kwonlyargs:=[],kw_defaults:=[],kwarg:=none,defaults:=[]}
noncomputable def aI(s:Stmt):List Stmt:=match s with
 |.FunctionDef _ _ b _ _ _ _ _ _ _=>b
 |_=>[]
noncomputable def am(s:Stmt):Scope:=match s with
 |.FunctionDef _ _ _ _ _ _ sc _ _ _=>sc
 |_=>{kind:=.function,names:=[],isGenerator:=false,isCoroutine:=false}
noncomputable abbrev E0:XK:=λ_ _ _=>False
structure Mk(K:RC) (x qual:Str) (st:Stmt) (f:Addr) (fd:FuncData):Prop where
 ex:∃(oc:RE)(od:Option Addr)(kV doc pm:RE)(an:Option Addr)(cdv ct:RE)(osl:Array (Option RE)),
  fd=fnOf x qual (aK st) (aI st) (am st) .none kV doc pm an cdv ct/\K.lookup f=some ⟨oc,od,.func fd,osl⟩/\codeIn K cdv qual=true
 kp:keepIn K (.ref f)=true
section
variable{K:RC}
def Mk.binds{x qual:Str}{st:Stmt}(F:Mk K x qual st f fd)
 (h:∀(kV doc pm:RE)(an:Option Addr)(cdv ct:RE)(us:List RE),us.length=ps.length->bindArgs (fnOf x qual (aK st) (aI st) (am st) .none kV doc pm an cdv ct) ⟨us,[]⟩=pure (ps.zip us)):Binds K fd ps []:=by
 obtain⟨oc,od,kV,doc,pm,an,cdv,ct,osl,rfl,lk,hcd⟩:=F.ex;exact .all (h kV doc pm an cdv ct)
def J2{x qual:Str}{st:Stmt}{f:Addr}{oc:RE}{od an:Option Addr}{osl:Array (Option RE)}{kV doc pm cdv ct:RE}(l:K.lookup f=some ⟨oc,od,.func (fnOf x qual (aK st) (aI st) (am st) .none kV doc pm an cdv ct),osl⟩)
 (c:codeIn K cdv qual=true) (k:keepIn K (.ref f)=true):Mk K x qual st f (fnOf x qual (aK st) (aI st) (am st) .none kV doc pm an cdv ct):=⟨⟨oc,od,kV,doc,pm,an,cdv,ct,osl,rfl,l,c⟩,k⟩
end
section
def pv(i:Nat)(hN:autoParam (X.N[i]?=some x) RQ)(hv:autoParam (OK X.env.scope x) RI._auto_1)(hd:autoParam (dB x) RN)
 (hcd:autoParam ((x==("__classdict__" : Str))=false) RN):PE X (.Name x pos) (t7 i):=Jx hN hv hd hcd
end
def xy{A B:Prop}(h:B):if false=true then A else B:=by rw[dS qH];exact h
def vS{A B:Prop}(h:A):if true=true then A else B:=by rw[c5 rfl];exact h
def Same(H H':Hp):Prop:=∀b o,H b=some o->H' b=some o
def Same.refl(H:Hp):Same H H:=λ_ _ h=>h
def Same.trans(a:Same H H1)(b:Same H1 H2):Same H H2:=λc o h=>b c o (a c o h)
def Same.free(e:Same H H')(h:H' l=Option.none):H l=Option.none:=by
 cases q:H l with
 |none=>rfl
 |some o=>rw[e l o q]at h;cases h
def g_(P:RD)(w:World):F3:=λouter H s E e s'=>
 ∃(x C t:Addr)(B:Heap)(H':Hp),e=.ref x/\s'.os=s.os/\AllBare s'.gens/\Un (nT outer) [] H H' s.heap s'.heap/\HOk P w H' s'.heap/\
  Heap.FlyingW B outer x (.ref C) (.ref t) s'.heap/\(∀b u,H' b=some u->∃o,B.get? b=some o)/\(∀b o,s.heap.get? b=some o->Qt H b->b∉nT outer->B.get? b=some o)/\
  (∀b o,s.heap.get? b=some o->b∉nT outer->∃o',B.get? b=some o')/\H' x=none/\E (.ref C) none H'
def uK{H:Hp}{B h1 h2:Heap}(ok:HOk P w H h1)(CZ:∀b u,H b=some u->∃o,B.get? b=some o)(s1:B.StaysIn h1)(s2:B.StaysIn h2):HOk P w H h2:=λa o e=>(ok a o e).stay (λb u hb q=>by have hb':∃v,H b=some v:=hb.elim (λz=>⟨o,by rw[z];exact e⟩) λz=>⟨_,z⟩;obtain⟨v,hv⟩:=hb';obtain⟨o',ho⟩:=CZ b v hv;have:=s1 b o' ho;rw[q]at this;cases this;exact s2 b _ ho) (λ_ q=>q) λ_ _ q=>q
def rX:∀{o:HO},ObjOk P w H h a o->∃ob,h.get? a=some ob
 |.lst xs,x=>by obtain⟨_,_,_,_,e⟩:=x;exact⟨_,e⟩
 |.tup xs,x=>by obtain⟨_,_,_,⟨_,e,_⟩⟩:=x;exact⟨_,e⟩
 |.dK kvs,x=>by obtain⟨_,_,_,_,o,_,_,e,_⟩:=x;exact⟨_,e⟩
 |.dT kvs,x=>by obtain⟨_,_,_,_,o,_,_,e,_⟩:=x;exact⟨_,e⟩
 |.set S n,x=>by obtain⟨o,_,_,_,e,_⟩:=x;exact⟨_,e⟩
 |.ins C dx fs,x=>by obtain⟨_,_,_,e,_⟩:=x;exact⟨_,e⟩
 |.own y,x=>x
 |.xd fs,x=>by obtain⟨_,⟨_,_,_,e,_⟩,_⟩:=x;exact⟨_,e⟩
 |.OX lo hi,x=>by obtain⟨_,_,_,e⟩:=x;exact⟨_,e⟩
 |.cQ ob u,x=>by obtain⟨e,_⟩:=x;exact⟨_,e⟩
 |.Jr ps,x=>⟨_,(show h.get? a=some _ from x)⟩
 |.met f y,x=>⟨_,(show h.get? a=some _ from x)⟩
 |.ext φ,x=>x.2.1
section
variable{P:RD}{w:World}{K:RC}{mg:Str->Option RE}{base:Heap}{N:List Str}{qual:Str}{scope:Scope}{f:Addr}{cd:RE}{A:RF}{outer:List Env}{s₀:RB}{H₀:Hp}{E:XK}
abbrev p4(P:RD)(w:World)(K:RC)(mg:Str->Option RE)(base:Heap)(N:List Str)(qual:Str)(scope:Scope)(f:Addr)(cd:RE)(A:RF)(outer:List Env)(s:RB)(H:Hp)(E:XK):Cx:=BJ (g_ P w) P w K mg base N qual scope f cd A outer s H E
def xA(I:Inv (p4 P w K mg base N qual scope f cd A outer s₀ H₀ E) ai σ H s)(e:s₀.heap.get? b=some o)(hb:b∉nT outer) :
 b∉nT (p4 P w K mg base N qual scope f cd A outer s₀ H₀ E).stack:=λz=>by
 rcases cB.mp (I.t6 b z)with q|q
 .exact absurd (fy (dN e) (ib I.ok.above (Nat.le_of_eq q.symm))) (qM _)
 .exact hb q
def ze(hb:b∈nT outer):b∈nT (p4 P w K mg base N qual scope f cd A outer s₀ H₀ E).stack:=by show b∈nT (envOfC qual scope s₀.heap.objs.size f cd::outer);unfold nT;rw[tO];have:(envOfC qual scope s₀.heap.objs.size f cd).frame=some s₀.heap.objs.size:=rfl;rw[this];exact iY _ hb
def aB:ph (g_ P w) (p4 P w K mg base N qual scope f cd A outer s₀ H₀ E) E:=by
 intro ai σ H s e s' I h;obtain⟨x,C,t,B,H',rfl,os,bare,un,bC,fly,CZ,unt,inB,hx,hE⟩:=h;show wpAny _ _ (leaving _ _) _ _ s';have nx:∀b:Addr,b∉(p4 P w K mg base N qual scope f cd A outer s₀ H₀ E).ex:=λb z=>absurd (show b∈([]:List Addr)from z) (by simp);refine wpAny_leaves_onW I.ok.frames rfl fly λh' fly' up=>?_;have nf:∀b,b∈nT outer->∀o,s'.heap.get? b=some o->∀vs,o.data≠.fields vs:=λb hb o e=>by obtain⟨_,o',e',d⟩:=fly.2.2.1.mem (ze (P:=P) (w:=w) (K:=K) (mg:=mg) (base:=base) (N:=N) (H₀:=H₀) (E:=E) (A:=A) hb);rw[e]at e';cases e';exact d
 refine⟨x,C,t,B,H',rfl,os.trans I.os,bare,⟨λb o e n hb _=>?_,λb o e n hb _=>?_,λb o e n _=>?_,λb o e _=>?_,λb xs q=>un.nS b xs (I.base.nS b xs q),λb o u q=>un.rC b o u (I.base.rC b o u q),λb ps q=>?_⟩,uK bC CZ fly.1 fly'.1,fly',CZ,λb o e n hb=>?_,λb o e hb=>?_,hx,hE⟩
 .exact fly'.1 b o (unt b o (I.base.keep b o e n hb (nx b)) (n.imp (λn=>I.base.free b o e n (nx b)) λ⟨xs,q⟩=>⟨xs,I.base.nS b xs q⟩) (xA I e hb))
 .obtain⟨sl,e1⟩:=I.base.slot b o e n hb (nx b);obtain⟨sl',e2⟩:=un.slot b _ e1 (I.base.free b o e n (nx b)) (ze hb) (by simp);obtain⟨sl'',e3⟩:=up b _ e2 (nf b hb _ e2);exact⟨sl'',e3⟩
 .obtain⟨o1,e1⟩:=I.base.there b o e (nx b);exact un.free b o1 e1 (I.base.free b o e n (nx b)) (by simp)
 .obtain⟨o1,e1⟩:=I.base.there b o e (nx b);by_cases hb:b∈nT outer
  .obtain⟨o2,e2⟩:=un.there b o1 e1 (by simp);obtain⟨sl,e3⟩:=up b _ e2 (nf b hb _ e2);exact⟨_,e3⟩
  .obtain⟨o',q⟩:=inB b o1 e1 (xA I e hb);exact⟨o',fly'.1 b o' q⟩
 .obtain⟨m1,e1⟩:=I.base.uz b ps q;obtain⟨m2,e2⟩:=un.uz b _ e1;exact⟨m1++m2,by rw[e2,Array.append_assoc]⟩
 .exact unt b o (I.base.keep b o e n hb (nx b)) (n.imp (λn=>I.base.free b o e n (nx b)) λ⟨xs,q⟩=>⟨xs,I.base.nS b xs q⟩) (xA I e hb)
 .obtain⟨o1,e1⟩:=I.base.there b o e (nx b);exact inB b o1 e1 (xA I e hb)
def GA{s:RB}{h':Heap}{x C:Addr}{args:List RE}(I:Inv (p4 P w K mg base N qual scope f cd A outer s₀ H₀ E) ai σ H s)(hx:Heap.MadeExcOf s.heap h' x (.ref C) args)(hE:E (.ref C) none H) :
 (p4 P w K mg base N qual scope f cd A outer s₀ H₀ E).xe (.ref x) {s with heap:=h'}:=by
 show wpAny _ _ (leaving _ _) _ _ _;have nx:∀b:Addr,b∉(p4 P w K mg base N qual scope f cd A outer s₀ H₀ E).ex:=λb z=>absurd (show b∈([]:List Addr)from z) (by simp);have hin:∀env∈(p4 P w K mg base N qual scope f cd A outer s₀ H₀ E).stack,∀b,env.frame=some b->b∈nT (p4 P w K mg base N qual scope f cd A outer s₀ H₀ E).stack:=λenv he b hb=>List.mem_filterMap.mpr ⟨env,he,hb⟩;have FF:=I.stack;refine wpAny_leaves_madeW (base:=hideAll s.heap (nT (p4 P w K mg base N qual scope f cd A outer s₀ H₀ E).stack)) I.ok.frames rfl (λb o q=>Ri _ q) (PySem.W.funFrames_hide FF hin) hx λh'' t fly _ _ up=>?_;have inB:∀b o,s.heap.get? b=some o->b∉nT (p4 P w K mg base N qual scope f cd A outer s₀ H₀ E).stack->(hideAll s.heap (nT (p4 P w K mg base N qual scope f cd A outer s₀ H₀ E).stack)).get? b=some o:=λb o e hb=>PySem.W.hideAll_get _ e hb;have CZ:∀b u,H b=some u->∃o,(hideAll s.heap (nT (p4 P w K mg base N qual scope f cd A outer s₀ H₀ E).stack)).get? b=some o:=λb u e=>by obtain⟨o,ho⟩:=rX (I.bC b u e);exact⟨o,inB b o ho λz=>by rw[I.xa b z]at e;cases e⟩
 have st:(hideAll s.heap (nT (p4 P w K mg base N qual scope f cd A outer s₀ H₀ E).stack)).StaysIn s.heap:=λb o q=>Ri _ q;have nf:∀b,b∈nT outer->∀o,s.heap.get? b=some o->∀vs,o.data≠.fields vs:=λb hb o e=>by obtain⟨_,o',e',d⟩:=FF.mem (ze (P:=P) (w:=w) (K:=K) (mg:=mg) (base:=base) (N:=N) (H₀:=H₀) (E:=E) (A:=A) hb);rw[e]at e';cases e';exact d
 have hxn:H x=none:=by
  cases q:H x with
  |none=>rfl
  |some u=>obtain⟨o,ho⟩:=rX (I.bC x u q);rw[hx.new]at ho;cases ho
 refine⟨x,C,t,_,H,rfl,I.os,I.bare,⟨λb o e n hb _=>?_,λb o e n hb _=>?_,λb o e n _=>I.base.free b o e n (nx b),λb o e _=>?_,I.base.nS,I.base.rC,I.base.uz⟩,uK I.bC CZ st fly.1,fly,CZ,λb o e n hb=>?_,λb o e hb=>?_,hxn,hE⟩
 .exact fly.1 b o (inB b o (I.base.keep b o e n hb (nx b)) (xA I e hb))
 .obtain⟨sl,e1⟩:=I.base.slot b o e n hb (nx b);obtain⟨sl',e2⟩:=up b _ (hx.keeps b _ e1) (nf b hb _ e1);exact⟨sl',e2⟩
 .obtain⟨o1,e1⟩:=I.base.there b o e (nx b);by_cases hb:b∈nT outer
  .obtain⟨sl,e2⟩:=up b _ (hx.keeps b _ e1) (nf b hb _ e1);exact⟨_,e2⟩
  .exact⟨o1,fly.1 b o1 (inB b o1 e1 (xA I e hb))⟩
 .exact inB b o (I.base.keep b o e n hb (nx b)) (xA I e hb)
 .obtain⟨o1,e1⟩:=I.base.there b o e (nx b);exact⟨o1,inB b o1 e1 (xA I e hb)⟩
def kP:PassesOwn (model P w) (p4 P w K mg base N qual scope f cd A outer s₀ H₀ E).A (p4 P w K mg base N qual scope f cd A outer s₀ H₀ E).env (p4 P w K mg base N qual scope f cd A outer s₀ H₀ E).xe:=by
 show PassesOwn _ _ _ (λe s'=>wpAny _ _ (leaving _ e) _ _ s')
 passes_own
end
abbrev vT:List RE:=[.type "ValueError",.type "Exception",.type "BaseException",.type "object"]
def ML(h:Heap)(C:Addr)(bm:List RE):Prop:=∃N nm q bs hdct sn sub ab col dd k0 k1 k2 k3 k5 mN,h.get? C=some (excClassObj nm q C N bs bm hdct sn sub ab col dd k0 k1 k2 k3 k5 "ValueError.__new__")/\h.Ns N mN/\mN "__init__"=none/\OwnTail h vT bm
noncomputable def Dh(K:RC)(C:Addr):List RE:=match K.lookup C with
 |some ⟨_,_,.cls cd,_⟩=>cd.mro
 |_=>[]
def Di{K:RC}(X:K.In h)(q:excIn K C vT "ValueError.__new__"=true):∃bm,Dh K C=.ref C::bm/\ML h C bm:=by
 have q0:=q;unfold excIn at q;unfold Dh;cases ho:K.lookup C with
 |none=>rw[ho]at q;cases q
 |some ob=>
  rw[ho]at q;split at q
  .rename_i dd cd sl he;injection he with he;subst he;dsimp only;split at q
   .rename_i D bm k0 k1 k2 k3 n k5 hm hs;rw[hm];simp only[fq,tW,Bool.not_eq_true']at q;obtain⟨⟨⟨⟨⟨hD,hn⟩,hdel⟩,ht⟩,bC⟩,hni⟩:=q;refine⟨bm,by rw[hD],?_⟩;obtain⟨nm,bs,mro,ns,qn,hd,sn,sub,ab,col,del⟩:=cd;dsimp only at hm hdel bC hni;have es:sl=#[k0,k1,k2,k3,some (.builtin n),k5]:=by
     cases sl with
     |mk l=>simp only at hs;rw[hs]
    rw[hn]at es;subst es;have hC:=X _ _ ho;rw[hdel,hm,hD]at hC;exact⟨ns,nm,qn,bs,hd,sn,sub,ab,col,dd,k0,k1,k2,k3,k5,_,hC,.of_isNs (PySem.W.isNs_of_in X bC),PySem.W.nsMap_none_of_in X bC hni,PySem.W.tail_of_in X ht⟩
   .cases q
  .cases q
structure XC(K:RC) (mg:Str->Option RE) (c:Str) (C:Addr):Prop where
 gl:mg c=some (.ref C)
 ex:excIn K C vT "ValueError.__new__"=true
section
variable{X:Cx}{c:Str}{C:Addr}{np cpos pos:Pos}{e₀:Expr}{bj:List Expr}{t:TA}
noncomputable def J3(t:TA)(EW:Hp->Prop):TS:=λ_ σ H=>t σ H λvs H'=>vs.length<=sizeLine/\EW H'
def Dj{EW:Hp->Prop}(hc:XC X.K X.mg c C)(hg:Gl X c)(hcalm:X.calm=true)(ha:PA X (e₀::bj) t)
 (hl:∀(ai:List (Addr×Obj))(σ:St)(H:Hp)(s:RB)(h':Heap)(x:Addr)(args:List RE),Inv X ai σ H s->Heap.MadeExcOf s.heap h' x (.ref C) args->EW H->X.xe (.ref x) {s with heap:=h'})
 (he:autoParam (starEach (e₀::bj) X.env=(false,eval e₀ X.env)::starEach bj X.env) RQ) (hpl:autoParam (bT X cpos bj) RQ) (hd:autoParam (dB c) RN) :
 PS X (.Raise (some (.Call (.Name c np) (e₀::bj) [] cpos)) none pos) (J3 t EW):=by
 intro ai s σ H D I h;obtain⟨bm,_,N,nm,q,bs,hdct,sn,sub,ab,col,dd,k0,k1,k2,k3,k5,mN,hC,hN,hni,TL⟩:=Di I.ok.mod.zt hc.ex;have fb:=PySem.F.excBase_ValueError;refine wpAny_Raise_call_subU (C:=C) (nm:=nm) (q:=q) (N:=N) (bs:=bs) (bm:=bm) (hdct:=hdct) (sn:=sn) (sub:=sub) (ab:=ab) (col:=col) (dd:=dd) (k0:=k0) (k1:=k1) (k2:=k2) (k3:=k3) (k5:=k5) (bmB:=vT)
  fb (by decide +kernel) fb (mN:=mN) (TL.hasType fb.hasBase) (I.ok.hd hcalm) ?_ hni (vM I hg hc.gl ⟨rfl,?_⟩ hd)
 .rw[he];show(false ||(backTo cpos (starEach bj X.env)).any (·.1))=false;rw[hpl];rfl
 .have ha':=ha cpos ai s σ H _ I h;rw[he]at ha' ⊢;refine Calls.evalArgs_plain (ni ha' (λus s2 ⟨vs,H2,I2,r,q2⟩=>?_) λ_ _ y=>y);exact⟨rfl,by rw[<- r.length];exact q2.1,I2.bk _ _ hC,hN.keeps I2.bk,TL.keeps I2.bk,λh' e hm=>hl ai σ H2 s2 h' e us I2 hm q2.2⟩
end
abbrev TX:=St->Hp->VK->XK->Prop
end L2
namespace L2
open PySem PySem.Spec PySem.Calls PyProof.Rows
def kr
 (hx:s.heap.get? a=some o) (hc:o.cls=.type "list") (hdat:o.data=.seq xs k) (hd:o.dict=none) (hmiss:typeLookup (.type "list") name=pure none) (hname:(["__module__","__name__","__qualname__","__doc__","__annotations__"]:List Str).contains name=false) (hA:A.handled=none)
 (h:∀h' tk e,Heap.NewExcOf s.heap h' e "AttributeError"->Q none {s with heap:=h',toks:=tk}) (hsz:name.length+100<=sizeLine:=by size_fits) :
 wpAny (model prog w) A (getAttr? (.ref a) name) Q E s:=by
 obtain⟨c,dct,dat,sl⟩:=o;simp only at hc hdat hd;subst hc hdat hd;obtain⟨hp,g,d,tk,os⟩:=s;have hT:∀tk',(⟨hp,g,d,tk',os⟩ : RB).TypeIs (.ref a) "list":=λ_=>⟨_,hx,rfl⟩;have f1:=sub_AttributeError;have f3:=PySem.F.slot_list_getattribute.lookup;have f4:=PySem.F.slot_list_getattribute.bind (.ref a);have f5:=am_list_getattr_none;unfold getAttr? getAttrBy? getAttrBy
 repeat (any_goals (first|assumption|exact hT _|((with_reducible show wpAny _ _ (call (Value.builtin "list.__getattribute__") _ _) _ _ _);refine Ra PySem.F.slot_list_getattribute (hT _) am_entry_list_getattribute (PySem.F.args_list_getattribute_2 _ _) (meets_getattribute_miss_list a xs k sl name _ hmiss hname hsz) ⟨hx,hA,λh' tk' e hx'=>?_⟩)|wp_step))
 obtain⟨t',u',he⟩:=hx'.there;show wpAny _ _ (getattributeRaised _ _ _ _ _ _ _) _ _ _;unfold getattributeRaised
 repeat (any_goals (first|assumption|wp_step))
 exact h _ _ _ hx'.of
abbrev mQ:=List b5×Addr×RE
noncomputable def AB(xs:List mQ)(its:List mQ):List mQ:=its.foldl (λxs x=>storedH xs x.1 x.2.1 x.2.2) xs
def gO:entryFor table "dict.update.loop"=some Builtin.«dict.update.loop»:=entryFor_of_tree (by kernel_rfl)
def b_:plainId "dict.update.loop"=true:=by decide +kernel
section
variable{prog:RD}{w:World}
abbrev tK(prog:RD)(w:World):=tupleKind (bd prog w)
def DRaw(prog:RD)(w:World)(h:Heap)(S:Addr)(xs:List mQ):Prop:=∃o es ep,h.get? S=some o/\o.ExactDict/\o.data=.dict es ep/\es.toList=xs.map (entryOfKey (tK prog w))/\(xs.map (·.1)).Nodup
def AC(x:(tK prog w).is h k a)(e:∀b o,h.get? b=some o->h'.get? b=some o):(tK prog w).is h' k a:=by obtain⟨o,items,n,h1,r⟩:=x;exact⟨o,items,n,e _ _ h1,r⟩
def DRaw.of(d:DRaw prog w h S xs)(ks:∀x∈xs,(tK prog w).is hb x.1 x.2.1)(e:∀b o,hb.get? b=some o->h.get? b=some o):h.DictOfH (tK prog w) S xs:=by obtain⟨o,es,ep,h1,h2,h3,h4,h5⟩:=d;exact⟨o,es,ep,h1,h2,h3,h4,λx hx=>AC (ks x hx) e,h5⟩
def zf(ks:∀x∈xs,(tK prog w).is hb x.1 x.2.1)(hk:(tK prog w).is hb k a):∀x∈storedH xs k a v,(tK prog w).is hb x.1 x.2.1:=by
 unfold storedH;split
 .intro x hx;obtain⟨y,hy,rfl⟩:=dP.mp hx;have:=ks y hy;unfold putAt;split<;>exact this
 .intro x hx;rcases gg.mp hx with hx|hx
  .exact ks x hx
  .simp at hx;subst hx;exact hk
def xB{xs:List mQ}{k:List b5}:(storedH xs k a v).length<=xs.length+1:=by
 unfold storedH;split
 .rw[bH];lia
 .rw[gp];simp
variable{A:RF}{R:Result->RB->Prop}{I:Addr}{fp wr:List Addr}{G:Array GenState->Array GenState->Prop}{n:Nat}{P:Nat->RE->Prop}{St:Nat->RB->Prop}
def nX(W:WalksS prog w A.in1 I fp wr G n P St)(S:Addr)(hSf:S∉fp)(hu:A.in1.units<cLine)(hb:Heap)(hbS:hb.get? S=none)(hbw:∀b∈wr,hb.get? b=none)(its:List mQ)(hn:its.length=n)
 (hval:∀i v,P i v->∃p x,v=.ref p/\its[i]?=some x/\hb.IsTuple p #[.ref x.2.1,x.2.2]/\(tK prog w).is hb x.1 x.2.1) (hsz:n<=sizeLine) :
 ∀(k i:Nat)(s:RB)(xs:List mQ)(j:Int),n-i=k->i<=n->St i s->(∀b o,hb.get? b=some o->s.heap.get? b=some o)->(∀x∈xs,(tK prog w).is hb x.1 x.2.1)->xs.length<=i->
  DRaw prog w s.heap S xs->
  (∀s',Moved (S::wr) G s s'->s'.heap.DictOfH (tK prog w) S (AB xs (its.drop i))->R (.ok (.ret .none)) s')->
  codeAny (model prog w) A (.builtin "dict.update.loop" ⟨[.ref S,.ref I,rawInt j,.none],[]⟩) R s:=by
 have hSw:S∉wr:=λh=>hSf (W.sub _ h);have hsub:∀b∈wr,b∈S::wr:=λb hb=>iY _ hb;intro k;induction k with
 |zero=>
  intro i s xs j hk hi hst K ks hxl hS hR;have hin:i=n:=by lia
  subst hin;refine nn gO ?_;rw[lV b_ _];show wpAny _ A.in1 (pyNext (.ref I) >>= _) _ _ s;refine aW (W.done s _ _ hst λs' hm=>?_);have hR':=hR s' (hm.mono hsub) (by rw[qF (by lia)];obtain⟨o,es,ep,ho,bj⟩:=hS;exact DRaw.of (hb:=hb) ⟨o,es,ep,hm.heap S _ hSw ho,bj⟩ ks λb o e=>hm.heap b o (λz=>by grind) (K b o e));show wpAny _ A.in1 (Builtin.Dict.addKeywords S [] >>= λ_=>ret Value.none) _ _ s';exact aW (cZ (cZ hR'))
 |succ k ih=>
  intro i s xs j hk hi hst K ks hxl hS hR;have hlt:i<n:=by lia
  refine nn gO ?_;rw[lV b_ _];show wpAny _ A.in1 (pyNext (.ref I) >>= _) _ _ s;refine aW (W.item i s _ _ hlt hst λv s' hP hst' hm=>?_);obtain⟨p,x,rfl,hx,ht,CT⟩:=hval i v hP;have K':∀b o,hb.get? b=some o->s'.heap.get? b=some o:=λb o e=>hm.heap b o (λz=>by grind) (K b o e);obtain⟨ot,hot,hct,nt,hdt⟩:=ht;have hT:s'.TypeIs (.ref p) "tuple":=⟨ot,K' _ _ hot,hct⟩;have hS':DRaw prog w s'.heap S xs:=by obtain⟨o,es,ep,ho,bj⟩:=hS;exact⟨o,es,ep,hm.heap S _ hSw ho,bj⟩
  refine aW (pU ?_);refine aW ?_;refine wpAny_tryCatch ?_;unfold Builtin.Dict.pairItems;refine aW (tU hT ?_);rw[c5 (by decide)];refine aW (l6 (K' _ _ hot) hdt ?_);refine cZ ?_;show wpAny _ A.in1 (holding [Value.ref x.2.1,x.2.2] (dictSet S (.ref x.2.1) x.2.2)) _ _ s';refine pU ?_;refine wpAny_dictSet_heap (knd:=tK prog w) (hsz:=by lia) hu (AC CT K') (DRaw.of hS' ks K') λh' hd' hs'=>?_;have K2:∀b o,hb.get? b=some o->h'.get? b=some o:=λb o e=>(hs'.2 b (λz=>by grind)).trans (K' b o e);have hdrop:its.drop i=x::its.drop (i+1):=by
   have hil:i<its.length:=by lia
   rw[o5 hil];rw[ic hil]at hx;rw[ia hx]
  refine cZ ⟨tZ b_ _,ih (i+1) _ (storedH xs x.1 x.2.1 x.2.2) (j+1) (by lia) hlt (W.frame _ s' _ _ hst' (m8 _ _) λb hb o e=>?_) K2 (zf ks CT) (by have:=xB (xs:=xs) (k:=x.1) (a:=x.2.1) (v:=x.2.2);lia) ?_ λs'' hm'' hS''=>?_⟩
  .rw[hs'.2 b (λh:b=S=>hSf (by grind))];exact e
  .obtain⟨o,es,ep,h1,h2,h3,h4,_,h5⟩:=hd';exact⟨o,es,ep,h1,h2,h3,h4,h5⟩
  .refine hR s'' (Moved.trans W.gtrans ((hm.mono hsub).then_heap (m8 _ _) λb o hb e=>?_) hm'') (by rw[hdrop];exact hS'');rw[hs'.2 b (λh:b=S=>hb (by grind))];exact e
end
section
variable{prog:RD}{w:World}{A:RF}{E:RE->RB->Prop}{s:RB}
def qT(hh:A.handled=none)(hu:A.in1.in1.units<cLine)(hl:s.heap.get? l=some { cls:=.type "list",data:=.seq items nl }) (hn:its.length=items.size) (hsz:items.size<=sizeLine)
 (hval:∀(i:Nat)(v:RE),items[i]?=some v->∃(p:Addr)(x:mQ),v=.ref p/\its[i]?=some x/\s.heap.IsTuple p #[.ref x.2.1,x.2.2]/\(tK prog w).is s.heap x.1 x.2.1)
 (h:∀(h':Heap)(tk:Nat),h'.DictOfH (tK prog w) s.heap.objs.size (AB [] its)->(∀b o,b<s.heap.objs.size->s.heap.get? b=some o->h'.get? b=some o)->Q (.ref s.heap.objs.size) {s with heap:=h',toks:=tk}) :
 wpAny (model prog w) A (call (.type "dict") [.ref l]) Q E s:=by
 refine callType_codes (Q₁:=λobj s₁=>obj=.ref s.heap.objs.size/\s₁={ s with heap:=s.heap.push { cls:=.type "dict",data:=.dict #[] } }) PySem.F.kt_called_dict (PySem.F.kt_typeCall_dict_1 _) PySem.F.entry_dict_init (kt_code_dict_new _ ⟨rfl,rfl⟩) ?_;rintro obj s₁ ⟨rfl,rfl⟩;have hD:(s.heap.push { cls:=.type "dict",data:=.dict #[] }).get? s.heap.objs.size=some { cls:=.type "dict",data:=.dict #[] }:=dO _ rfl;have hT:Shared.TypeIs { s with heap:=s.heap.push { cls:=.type "dict",data:=.dict #[] } } (.ref s.heap.objs.size) "dict":=⟨_,hD,rfl⟩;refine⟨hT,PySem.F.args_dict_init_2 _ _,?_⟩;unfold Builtin.«dict.__init__»;refine aW ?_;unfold Builtin.Dict.selfAndRest;refine aW (wpAny_notOrdered_dict hT ?_);show wpAny _ _ (pure (s.heap.objs.size,[Value.ref l])) _ _ _;refine cZ ?_;show wpAny _ _ (Builtin.Dict.updateFrom "dict.__init__" s.heap.objs.size (.ref l) [] .none) _ _ _;unfold Builtin.Dict.updateFrom;have hl1:(s.heap.push { cls:=.type "dict",data:=.dict #[] }).get? l=some { cls:=.type "list",data:=.seq items nl }:=cA _ hl;refine aW (tU ⟨_,hl1,rfl⟩ ?_);rw[c5 (by decide)];refine aW (kr (s:={ s with heap:=s.heap.push { cls:=.type "dict",data:=.dict #[] } }) hl1 rfl rfl rfl (am_miss_of_fast (by decide +kernel)) (by decide +kernel) (by simp[hh]) λh1 tk1 e1 hx1=>?_);rw[c5 (by decide)];refine aW (Rr ?_);have k1:∀b o,s.heap.get? b=some o->h1.get? b=some o:=λb o e=>hx1.keeps b o (cA _ e);have hl2:h1.get? l=some { cls:=.type "list",data:=.seq items nl }:=k1 _ _ hl;have hD1:h1.get? s.heap.objs.size=some { cls:=.type "dict",data:=.dict #[] }:=hx1.keeps _ _ hD;have hlt1:s.heap.objs.size<h1.objs.size:=dN hD1;have hll:l<s.heap.objs.size:=dN hl;refine aW (kn (s:=⟨h1,s.gens,s.drawn,tk1,s.os⟩) ⟨_,hl2,rfl,nl,rfl⟩ ?_);have hh3:A.in1.in1.handled=none:=by simp[hh]
 have hno:∀b,s.heap.objs.size<=b->s.heap.get? b=none:=λb hb=>by
  cases q:s.heap.get? b with
  |none=>rfl
  |some o=>exact absurd (dN q) (Nat.not_lt.mpr hb)
 have hneI:l≠h1.objs.size:=dU (yS hll hlt1);have k2:∀b o,h1.get? b=some o->(h1.push { cls:=.type "list_iterator",data:=.fields #[.ref l,.int 0 0] }).get? b=some o:=λb o e=>cA _ e;refine cZ ⟨tZ b_ _,nX (A:=A.in1) ((Walks.list hh3 h1.objs.size l hneI items).toS) s.heap.objs.size ?_ hu s.heap (hno _ (cC _)) ?_ its hn hval hsz (items.size-0) 0 _ [] 0 rfl (lY _) ⟨⟨_,dO _ rfl,rfl,rfl⟩,⟨_,k2 _ _ hl2,rfl,nl,rfl⟩⟩ (λb o e=>k2 _ _ (k1 b o e)) (λx hx=>nomatch hx) (cC _) ⟨_,#[],0,k2 _ _ hD1,?_,rfl,rfl,vG⟩ ?_⟩
 .simp only[cB,fw,mH,not_or];exact⟨dU hlt1,qJ hll⟩
 .intro b hb;simp only[cB,fw,mH]at hb;subst hb;exact hno _ (vH hlt1)
 .exact⟨rfl,rfl,rfl⟩
 .intro s' hm hS';obtain⟨h',g',d',tk',os'⟩:=s';have eg:g'=s.gens:=hm.gens;have ed:d'=s.drawn:=hm.drawn;have eo:os'=s.os:=hm.os;subst eg;subst ed;subst eo;refine⟨rfl,h h' tk' hS' λb o hb e=>hm.heap b o ?_ (k2 _ _ (k1 _ _ e))⟩;simp only[cB,fw,mH,not_or];exact⟨dU hb,dU (yS hb hlt1)⟩
end
def lc(t kvs:List (List b5×V)):List (List b5×V):=kvs.foldl (λt x=>k_ t x.1 x.2) t
def vU(H:Hp):List V->List (List b5×V)->Prop:=Paired λv kv=>∃p ka,v=.ref p/\H p=some (.tup [.ref ka,kv.2])/\H ka=some (.tup (kv.1.map kV))
section
variable{P:RD}{w:World}{H:Hp}{h:Heap}
theorem uL(ok:HOk P w H h):∀{vs:List V}{us:List RE}{kvs:List (List b5×V)},vU H vs kvs->Vals vs us->
 ∃its:List mQ,its.length=us.length/\(∀(i:Nat)(v:RE),us[i]?=some v->∃(p:Addr)(x:mQ),v=.ref p/\its[i]?=some x/\h.IsTuple p #[.ref x.2.1,x.2.2]/\(tK P w).is h x.1 x.2.1)/\
  ∀t xs,KT H t xs->KT H (lc t kvs) (AB xs its)
 |_,_,_,.nil,.nil=>⟨[],rfl,λi v e=>by simp at e,λt xs r=>r⟩
 |_,_,_,.cons (a:=v) (b:=kv) q t,.cons (b:=u) r s=>by
  obtain⟨its,hl,hv,hk⟩:=uL ok t s;obtain⟨p,ka,rfl,hp,hka⟩:=q;cases r;obtain⟨_,is,r2,ot,ho,hc,n,hd⟩:=(show ObjOk P w H h p (.tup [.ref ka,kv.2])from ok p _ hp);obtain⟨u1,u2,rfl,ru1,ru2⟩:=xp r2;cases ru1;refine⟨(kv.1,ka,u2)::its,by simp[hl],λi v e=>?_,λt xs rt=>?_⟩
  .cases i with
   |zero=>simp at e;subst e;exact⟨p,(kv.1,ka,u2),rfl,rfl,⟨ot,ho,hc,n,hd⟩,nq ok hka⟩
   |succ i=>exact hv i v (by simpa using e)
  .exact hk _ _ (rt.put kv.1 hka ru2)
theorem rY:∀(kvs t:List (List b5×V)),(lc t kvs).length<=t.length+kvs.length
 |[],t=>cC _
 |x::r,t=>by have:=rY r (k_ t x.1 x.2);have h2:=pZ t x.1 x.2;show(lc (k_ t x.1 x.2) r).length<=_;simp only[gK];lia
end
section
variable{X:Cx}
def zg(hc:X.calm=true)(hu:X.A.units+64<cLine):CallR X (.type "dict") (λxs H Q=>∃l vs kvs,xs=[.ref l]/\Rd H l (.lst vs)/\vU H vs kvs/\∀p,H p=none->Q (.ref p) (ck H p (.dT (lc [] kvs)))):=by
 intro ai s σ H xs us Q I r h;obtain⟨l,vs,kvs,rfl,hl,hp,q⟩:=h;obtain⟨u,rfl,ru⟩:=i4 r;obtain rfl:u=Value.ref l:=ru;obtain⟨hz,its,n,rv,hg⟩:=(show ObjOk X.prog X.w H s.heap l (.lst vs)from hl.ok I.bC);obtain⟨pi,pl,pv,pk⟩:=uL I.bC hp rv;have hsz:its.toArray.size<=sizeLine:=by rw[cE,<- rv.length];exact hz
 refine qT (I.ok.hd hc) (by show X.A.units+1+1<cLine;lia) hg (its:=pi) (by rw[pl,cE]) hsz (λi v e=>pv i v (by simpa using e)) λh' tk hD hk=>?_;have hf:H s.heap.objs.size=none:=I.bC.fresh (cC _);refine⟨.ref s.heap.objs.size,_,I.laid (a:=s.heap.objs.size) (o:=.dT (lc [] kvs)) (t':=tk) (λb o e=>hk b o (dN e) e) (cC _) ?_,rfl,q _ hf⟩;obtain⟨o,es,ep,h1,h2,h3,h4,_,h5⟩:=hD;refine⟨?_,Rb.mpr (kF (dU I.big)),AB [] pi,(pk [] [] .nil).keeps λb ys e=>?_,o,es,ep,h1,h2,h3,h4,h5⟩
 .have:=rY kvs [];have h2:=Paired.length hp;simp only[qL]at this;lia
 .rw[aJ (aA e hf)];exact e
end
def AD(H:Hp)(a:Addr)(y:V)(r:Option V):Prop:=BL H a y r\/(Rd H a (.dT [])/\(∃k,y=kV k)/\r=none)\/(Rd H a (.dK [])/\(∃(b:Addr)(k:List b5),y=.ref b/\H b=some (.tup (k.map kV)))/\r=none)
section
def Dk(x:ObjOk P w H h a (.dT [])):(a==sysModules)=false/\h.DictOf (bd P w) a []:=by
 obtain⟨z,y,xs,r,o,es,ep,h1,h2,h3,h4,h5⟩:=x;cases r;have e:es=#[]:=by grind
 subst e;exact⟨y,o,#[],ep,h1,h2,h3,λx hx=>by simp at hx,by constructor,vG⟩
def Dm(x:ObjOk P w H h a (.dK [])):(a==sysModules)=false/\h.DictOfH (tupleKind (bd P w)) a []:=by
 obtain⟨z,y,vs,r,o,es,ep,h1,h2,h3,h4,h5⟩:=x;cases r;refine⟨y,o,es,ep,h1,h2,h3,?_,λx hx=>(nomatch hx),vG⟩;generalize es.toList=l at h5;obtain⟨h5,_⟩:=h5;cases l with
 |nil=>rfl
 |cons x r=>cases h5
def MM(hu:A.units+1<cLine)(I:Inv X ai σ H s)(g:AD H a y o)(ry:RelV y u)(h:∀s',Inv X ai σ H s'->Q (.bool o.isSome) s') :
 wpAny (model X.prog X.w) A (compareOp .In u (.ref a)) Q E s:=by
 rcases g with g|⟨e,⟨k,rfl⟩,rfl⟩|⟨e,⟨b,k,rfl,eb⟩,rfl⟩
 .exact Pp hu I g ry h
 .obtain⟨y,dd⟩:=Dk (e.ok I.bC);exact wpAny_in_of (nW ry) y dd.mapOf (h _ (I.tok _))
 .obtain rfl:u=Value.ref b:=ry;obtain⟨y,dd⟩:=Dm (e.ok I.bC);exact wpAny_in_heap (qI hu) (nq I.bC eb) y dd (h _ (I.tok _))
def Dn(hu:A.units+1<cLine)(I:Inv X ai σ H s)(g:AD H a y o)(ry:RelV y u)(h:∀s',Inv X ai σ H s'->Q (.bool (!o.isSome)) s') :
 wpAny (model X.prog X.w) A (compareOp .NotIn u (.ref a)) Q E s:=by
 rcases g with g|⟨e,⟨k,rfl⟩,rfl⟩|⟨e,⟨b,k,rfl,eb⟩,rfl⟩
 .exact Gy hu I g ry h
 .obtain⟨y,dd⟩:=Dk (e.ok I.bC);exact wpAny_notIn_of (nW ry) y dd.mapOf (h _ (I.tok _))
 .obtain rfl:u=Value.ref b:=ry;obtain⟨y,dd⟩:=Dm (e.ok I.bC);exact wpAny_notIn_heap (qI hu) (nq I.bC eb) y dd (h _ (I.tok _))
end
abbrev xC:=b5×RE×RE
noncomputable def Ps(vs:List (b5×RE))(its:List xC):List (b5×RE):=its.foldl (λvs x=>stored vs x.1 x.2.2) vs
section
def p5{h h':Heap}(d:h.DictOf (bd prog w) S vs)(e:∀o,h.get? S=some o->h'.get? S=some o):h'.DictOf (bd prog w) S vs:=let ⟨o,es,ep,ho,r⟩:=d;⟨o,es,ep,e o ho,r⟩
variable{St:Nat->RB->Prop}
def nr(W:WalksS prog w A.in1 I fp wr G n P St)(S:Addr)(hSf:S∉fp)(hb:Heap)(hbS:hb.get? S=none)(hbw:∀b∈wr,hb.get? b=none)(its:List xC)(hn:its.length=n)
 (hval:∀i v,P i v->∃p x,v=.ref p/\its[i]?=some x/\hb.IsTuple p #[x.2.1,x.2.2]/\(bd prog w).is x.1 x.2.1=true) (hsz:n<=sizeLine) :
 ∀(k i:Nat)(s:RB)(vs:List (b5×RE))(j:Int),n-i=k->i<=n->St i s->(∀b o,hb.get? b=some o->s.heap.get? b=some o)->vs.length<=i->s.heap.DictOf (bd prog w) S vs->
  (∀s',Moved (S::wr) G s s'->s'.heap.DictOf (bd prog w) S (Ps vs (its.drop i))->R (.ok (.ret .none)) s')->
  codeAny (model prog w) A (.builtin "dict.update.loop" ⟨[.ref S,.ref I,rawInt j,.none],[]⟩) R s:=by
 have hSw:S∉wr:=λh=>hSf (W.sub _ h);have hsub:∀b∈wr,b∈S::wr:=λb hb=>iY _ hb;intro k;induction k with
 |zero=>
  intro i s vs j hk hi hst K hxl hS hR;have hin:i=n:=by lia
  subst hin;refine nn gO ?_;rw[lV b_ _];show wpAny _ A.in1 (pyNext (.ref I) >>= _) _ _ s;refine aW (W.done s _ _ hst λs' hm=>?_);have hR':=hR s' (hm.mono hsub) (by rw[qF (by lia)];exact p5 hS λo e=>hm.heap S o hSw e);show wpAny _ A.in1 (Builtin.Dict.addKeywords S [] >>= λ_=>ret Value.none) _ _ s';exact aW (cZ (cZ hR'))
 |succ k ih=>
  intro i s vs j hk hi hst K hxl hS hR;have hlt:i<n:=by lia
  refine nn gO ?_;rw[lV b_ _];show wpAny _ A.in1 (pyNext (.ref I) >>= _) _ _ s;refine aW (W.item i s _ _ hlt hst λv s' hP hst' hm=>?_);obtain⟨p,x,rfl,hx,ht,CT⟩:=hval i v hP;have K':∀b o,hb.get? b=some o->s'.heap.get? b=some o:=λb o e=>hm.heap b o (λz=>by grind) (K b o e);obtain⟨ot,hot,hct,nt,hdt⟩:=ht;have hT:s'.TypeIs (.ref p) "tuple":=⟨ot,K' _ _ hot,hct⟩;have hS':=p5 hS λo e=>hm.heap S o hSw e;refine aW (pU ?_);refine aW ?_;refine wpAny_tryCatch ?_;unfold Builtin.Dict.pairItems;refine aW (tU hT ?_);rw[c5 (by decide)];refine aW (l6 (K' _ _ hot) hdt ?_);refine cZ ?_;show wpAny _ A.in1 (holding [x.2.1,x.2.2] (dictSet S x.2.1 x.2.2)) _ _ s';refine pU ?_;refine wpAny_dictSet_pairs (knd:=bd prog w) (hsz:=by lia) CT hS' λh' hd' hs'=>?_;have K2:∀b o,hb.get? b=some o->h'.get? b=some o:=λb o e=>(hs'.2 b (λz=>by grind)).trans (K' b o e);have hdrop:its.drop i=x::its.drop (i+1):=by
   have hil:i<its.length:=by lia
   rw[o5 hil];rw[ic hil]at hx;rw[ia hx]
  refine cZ ⟨tZ b_ _,ih (i+1) _ (stored vs x.1 x.2.2) (j+1) (by lia) hlt (W.frame _ s' _ _ hst' (m8 _ _) λb hb o e=>?_) K2 (by have:=stored_length_le vs x.1 x.2.2;lia) hd' λs'' hm'' hS''=>?_⟩
  .rw[hs'.2 b (λh:b=S=>hSf (by grind))];exact e
  .refine hR s'' (Moved.trans W.gtrans ((hm.mono hsub).then_heap (m8 _ _) λb o hb e=>?_) hm'') (by rw[hdrop];exact hS'');rw[hs'.2 b (λh:b=S=>hb (by grind))];exact e
end
section
def pp(hh:A.handled=none)(hl:s.heap.get? l=some { cls:=.type "list",data:=.seq items nl }) (hn:its.length=items.size) (hsz:items.size<=sizeLine)
 (hval:∀(i:Nat)(v:RE),items[i]?=some v->∃(p:Addr)(x:xC),v=.ref p/\its[i]?=some x/\s.heap.IsTuple p #[x.2.1,x.2.2]/\(bd prog w).is x.1 x.2.1=true)
 (h:∀(h':Heap)(tk:Nat),h'.DictOf (bd prog w) s.heap.objs.size (Ps [] its)->(∀b o,b<s.heap.objs.size->s.heap.get? b=some o->h'.get? b=some o)->Q (.ref s.heap.objs.size) {s with heap:=h',toks:=tk}) :
 wpAny (model prog w) A (call (.type "dict") [.ref l]) Q E s:=by
 refine callType_codes (Q₁:=λobj s₁=>obj=.ref s.heap.objs.size/\s₁={ s with heap:=s.heap.push { cls:=.type "dict",data:=.dict #[] } }) PySem.F.kt_called_dict (PySem.F.kt_typeCall_dict_1 _) PySem.F.entry_dict_init (kt_code_dict_new _ ⟨rfl,rfl⟩) ?_;rintro obj s₁ ⟨rfl,rfl⟩;have hD:(s.heap.push { cls:=.type "dict",data:=.dict #[] }).get? s.heap.objs.size=some { cls:=.type "dict",data:=.dict #[] }:=dO _ rfl;have hT:Shared.TypeIs { s with heap:=s.heap.push { cls:=.type "dict",data:=.dict #[] } } (.ref s.heap.objs.size) "dict":=⟨_,hD,rfl⟩;refine⟨hT,PySem.F.args_dict_init_2 _ _,?_⟩;unfold Builtin.«dict.__init__»;refine aW ?_;unfold Builtin.Dict.selfAndRest;refine aW (wpAny_notOrdered_dict hT ?_);show wpAny _ _ (pure (s.heap.objs.size,[Value.ref l])) _ _ _;refine cZ ?_;show wpAny _ _ (Builtin.Dict.updateFrom "dict.__init__" s.heap.objs.size (.ref l) [] .none) _ _ _;unfold Builtin.Dict.updateFrom;have hl1:(s.heap.push { cls:=.type "dict",data:=.dict #[] }).get? l=some { cls:=.type "list",data:=.seq items nl }:=cA _ hl;refine aW (tU ⟨_,hl1,rfl⟩ ?_);rw[c5 (by decide)];refine aW (kr (s:={ s with heap:=s.heap.push { cls:=.type "dict",data:=.dict #[] } }) hl1 rfl rfl rfl (am_miss_of_fast (by decide +kernel)) (by decide +kernel) (by simp[hh]) λh1 tk1 e1 hx1=>?_);rw[c5 (by decide)];refine aW (Rr ?_);have k1:∀b o,s.heap.get? b=some o->h1.get? b=some o:=λb o e=>hx1.keeps b o (cA _ e);have hl2:h1.get? l=some { cls:=.type "list",data:=.seq items nl }:=k1 _ _ hl;have hD1:h1.get? s.heap.objs.size=some { cls:=.type "dict",data:=.dict #[] }:=hx1.keeps _ _ hD;have hlt1:s.heap.objs.size<h1.objs.size:=dN hD1;have hll:l<s.heap.objs.size:=dN hl;refine aW (kn (s:=⟨h1,s.gens,s.drawn,tk1,s.os⟩) ⟨_,hl2,rfl,nl,rfl⟩ ?_);have hh3:A.in1.in1.handled=none:=by simp[hh]
 have hno:∀b,s.heap.objs.size<=b->s.heap.get? b=none:=λb hb=>by
  cases q:s.heap.get? b with
  |none=>rfl
  |some o=>exact absurd (dN q) (Nat.not_lt.mpr hb)
 have hneI:l≠h1.objs.size:=dU (yS hll hlt1);have k2:∀b o,h1.get? b=some o->(h1.push { cls:=.type "list_iterator",data:=.fields #[.ref l,.int 0 0] }).get? b=some o:=λb o e=>cA _ e;refine cZ ⟨tZ b_ _,nr (A:=A.in1) ((Walks.list hh3 h1.objs.size l hneI items).toS) s.heap.objs.size ?_ s.heap (hno _ (cC _)) ?_ its hn hval hsz (items.size-0) 0 _ [] 0 rfl (lY _) ⟨⟨_,dO _ rfl,rfl,rfl⟩,⟨_,k2 _ _ hl2,rfl,nl,rfl⟩⟩ (λb o e=>k2 _ _ (k1 b o e)) (cC _) ⟨_,#[],0,k2 _ _ hD1,⟨rfl,rfl,rfl⟩,rfl,λx hx=>by simp at hx,by constructor,vG⟩ ?_⟩
 .simp only[cB,fw,mH,not_or];exact⟨dU hlt1,qJ hll⟩
 .intro b hb;simp only[cB,fw,mH]at hb;subst hb;exact hno _ (vH hlt1)
 .intro s' hm hS';obtain⟨h',g',d',tk',os'⟩:=s';have eg:g'=s.gens:=hm.gens;have ed:d'=s.drawn:=hm.drawn;have eo:os'=s.os:=hm.os;subst eg;subst ed;subst eo;refine⟨rfl,h h' tk' hS' λb o hb e=>hm.heap b o ?_ (k2 _ _ (k1 _ _ e))⟩;simp only[cB,fw,mH,not_or];exact⟨dU hb,dU (yS hb hlt1)⟩
end
def vV(H:Hp):List V->List (b5×V)->Prop:=Paired λv kv=>∃p,v=.ref p/\H p=some (.tup [kV kv.1,kv.2])
section
theorem rZ(ok:HOk P w H h):∀{vs:List V}{us:List RE}{kvs:List (b5×V)},vV H vs kvs->Vals vs us->
 ∃its:List xC,its.length=us.length/\(∀(i:Nat)(v:RE),us[i]?=some v->∃(p:Addr)(x:xC),v=.ref p/\its[i]?=some x/\h.IsTuple p #[x.2.1,x.2.2]/\(bd P w).is x.1 x.2.1=true)/\
  ∀t vs,KV t vs->KV (jf t kvs) (Ps vs its)
 |_,_,_,.nil,.nil=>⟨[],rfl,λi v e=>by simp at e,λt xs r=>r⟩
 |_,_,_,.cons (a:=v) (b:=kv) q t,.cons (b:=u) r s=>by
  obtain⟨its,hl,hv,hk⟩:=rZ ok t s;obtain⟨p,rfl,hp⟩:=q;cases r;obtain⟨_,is,r2,ot,ho,hc,n,hd⟩:=(show ObjOk P w H h p (.tup [kV kv.1,kv.2])from ok p _ hp);obtain⟨u1,u2,rfl,ru1,ru2⟩:=xp r2;refine⟨(kv.1,u1,u2)::its,by simp[hl],λi v e=>?_,λt xs rt=>?_⟩
  .cases i with
   |zero=>simp at e;subst e;exact⟨p,(kv.1,u1,u2),rfl,rfl,⟨ot,ho,hc,n,hd⟩,nW ru1⟩
   |succ i=>exact hv i v (by grind)
  .exact hk _ _ (rt.put kv.1 ru2)
end
section
def zh(hc:X.calm=true):CallR X (.type "dict") (λxs H Q=>∃l vs kvs,xs=[.ref l]/\Rd H l (.lst vs)/\vV H vs kvs/\∀p,H p=none->Q (.ref p) (ck H p (.dK (jf [] kvs)))):=by
 intro ai s σ H xs us Q I r h;obtain⟨l,vs,kvs,rfl,hl,hp,q⟩:=h;obtain⟨u,rfl,ru⟩:=i4 r;obtain rfl:u=Value.ref l:=ru;obtain⟨hz,its,n,rv,hg⟩:=(show ObjOk X.prog X.w H s.heap l (.lst vs)from hl.ok I.bC);obtain⟨pi,pl,pv,pk⟩:=rZ I.bC hp rv;have hsz:its.toArray.size<=sizeLine:=by rw[cE,<- rv.length];exact hz
 refine pp (I.ok.hd hc) hg (its:=pi) (by rw[pl,cE]) hsz (λi v e=>pv i v (by simpa using e)) λh' tk hD hk=>?_;have hf:H s.heap.objs.size=none:=I.bC.fresh (cC _);refine⟨.ref s.heap.objs.size,_,I.laid (a:=s.heap.objs.size) (o:=.dK (jf [] kvs)) (t':=tk) (λb o e=>hk b o (dN e) e) (cC _) ?_,rfl,q _ hf⟩;refine⟨?_,Rb.mpr (kF (dU I.big)),_,pk [] [] .nil,hD⟩;have:=mP kvs [];have h2:=Paired.length hp;simp only[qL]at this;lia
end
end L2
namespace ST
open PySem PySem.SetTable
noncomputable def st(m:Nat)(h:Int):Probe:={j:=bits h%(m+1),more:=runEnd m (bits h%(m+1))-bits h%(m+1),i:=bits h%(m+1),perturb:=bits h,dummy:=none}
noncomputable def rs(m:Nat)(p:Nat×Nat):Probe:={j:=p.1,more:=runEnd m p.1-p.1,i:=p.1,perturb:=p.2,dummy:=none}
noncomputable def QS(m:Nat)(p:Probe):Probe:=if p.more>0 then {p with j:=p.j+1,more:=p.more-1}else {p with j:=(leap m p.i p.perturb).1,more:=runEnd m (leap m p.i p.perturb).1-(leap m p.i p.perturb).1,i:=(leap m p.i p.perturb).1,perturb:=(leap m p.i p.perturb).2}
def it(m:Nat):Nat->Probe->Probe
 |0,p=>p
 |n+1,p=>it m n (QS m p)
noncomputable def lp(m:Nat):Nat->Nat×Nat->Nat×Nat
 |0,p=>p
 |n+1,p=>lp m n (leap m p.1 p.2)
def ow(owner:Array (Option Nat))(j:Nat):Prop:=∃k,owner[j]?=some (some k)
end ST
namespace ST
open PySem PySem.W PyProof.Rows
noncomputable def Qx(p:Array Nat)(i:Nat):Nat:=p.getD i 0
end ST
namespace L2
open PySem PySem.Spec PySem.Calls PyProof.Rows ST
noncomputable abbrev iK(ns:List Int):List b5:=ns.map Sum.inl
noncomputable def byT(w:World):Bool:=w.params.followText "set-order"
noncomputable abbrev MN:=List Int×Addr
section
abbrev eT(prog:RD)(w:World)(x:MN):Int×RE:=((tK prog w).hash (iK x.1),Value.ref x.2)
end
noncomputable abbrev setNew(led:Bool):Obj:={ cls:=.type "set",dict:=none,data:=.set #[] 0 (.fresh 0 0 led) }
section
def ua(a:RE)(h:Q₁ (.ref s.heap.objs.size) {s with heap:=s.heap.push (setNew (!byT w))}) :
 codeAny (model prog w) A (.call (.builtin "set.__new__") ⟨[.type "set",a],[]⟩) (wants Q₁ E) s:=by
 refine codeAny_of_tree (show wpAny _ A.in1 (do checkBuiltinCall "set.__new__" ⟨[.type "set",a],[]⟩;again (.builtin "set.__new__" ⟨[.type "set",a],[]⟩)) _ _ s from ?_);refine aW (wpAny_of_eq (PySem.F.newCall_set_1 a) (cZ ⟨tZ PySem.F.plain_set_new _,nn PySem.F.entry_set_new ?_⟩));rw[lV PySem.F.plain_set_new _];unfold Builtin.«set.__new__» Builtin.Frozenset.newClass;have hsub:=sub_set_self;obtain⟨hp,g,d,tk,os⟩:=s;dsimp only;wp_walk;refine wpAny_askSetting (cZ ?_);dsimp only;simp only[newObj];refine aW (wpAny_alloc (cZ ?_));exact cZ h
end
end L2
namespace L2
open PySem PySem.Spec PyProof.Rows
noncomputable def F4(a:List Str)(x:Str):List Str:=if a.contains x then a else a++[x]
def pr(xs:List Str):List Str:=xs.foldl F4 []
def xD(xs:List Str)(x:Str):pr (xs++[x])=F4 (pr xs) x:=by unfold pr;rw[List.foldl_append];rfl
def AE(a:List Str)(x:Str):(F4 a x).length=if a.contains x then a.length else a.length+1:=by unfold F4;split<;>simp
def GB(a:List Str)(x k:Str):(F4 a x).contains k=(a.contains k || decide (k=x)):=by
 unfold F4;by_cases h:a.contains x=true
 .rw[c5 h];by_cases e:k=x
  .subst e;rw[h];rfl
  .simp[e]
 .rw[dS h,List.contains_append,List.contains_cons];by_cases e:k=x
  .subst e;simp
  .have:(k==x)=false:=by simpa using e
   simp[this,e]
def Do(xs:List Str):(pr xs).length<=xs.length:=by
 have:∀(ys a:List Str),(ys.foldl F4 a).length<=a.length+ys.length:=by
  intro ys;induction ys with
  |nil=>intro a;exact cC _
  |cons y r ih=>intro a;rw[List.foldl_cons,gK];refine ib (ih _) ?_;rw[AE];split<;>lia
 have:=this xs [];simpa[pr]using this
section
variable{prog:RD}{w:World}{A:RF}{R:Result->RB->Prop}{I:Addr}{fp wr:List Addr}{G:Array GenState->Array GenState->Prop}{n:Nat}{P:Nat->RE->Prop}{St:Nat->RB->Prop}
def nY(W:WalksS prog w A.in1 I fp wr G n P St)(S:Addr)(hSf:S∉fp)(xs:List Str)(hn:xs.length=n)(hval:∀i v,P i v->∃x t,xs[i]?=some x/\v=.str x t)(hb:n+1<scanBound) :
 ∀(k i:Nat)(s:RB),n-i=k->i<=n->St i s->s.heap.SetOf (strKind prog w) S (λk'=>(pr (xs.take i)).contains k') (pr (xs.take i)).length->
  (∀s',Moved (S::wr) G s s'->s'.heap.SetOf (strKind prog w) S (λk'=>(pr xs).contains k') (pr xs).length->R (.ok (.ret .none)) s')->
  codeAny (model prog w) A (.builtin "set.update.loop" ⟨[.ref S,.ref I],[]⟩) R s:=by
 have hSw:S∉wr:=λh=>hSf (W.sub _ h);have hsub:∀b∈wr,b∈S::wr:=λb hb=>iY _ hb;have move:∀{i:Nat}{s s':RB},Moved wr G s s'->s.heap.SetOf (strKind prog w) S (λk'=>(pr (xs.take i)).contains k') (pr (xs.take i)).length->s'.heap.SetOf (strKind prog w) S (λk'=>(pr (xs.take i)).contains k') (pr (xs.take i)).length:=λhm ⟨o,es,ep,t,ho,bj⟩=>⟨o,es,ep,t,hm.heap S _ hSw ho,bj⟩;intro k;induction k with
 |zero=>
  intro i s hk hi hst hS hR;have hin:i=n:=by lia
  subst hin;refine nn F.entry_set_update_loop ?_;rw[lV t0 _];show wpAny _ A.in1 (pyNext (.ref I) >>= _) _ _ s;refine aW (W.done s _ _ hst λs' hm=>?_);show wpAny _ A.in1 (ret Value.none) _ _ s';have hS2:=move hm hS;rw[<- hn,Ry]at hS2;exact cZ (hR s' (hm.mono hsub) hS2)
 |succ k ih=>
  intro i s hk hi hst hS hR;have hlt:i<n:=by lia
  refine nn F.entry_set_update_loop ?_;rw[lV t0 _];show wpAny _ A.in1 (pyNext (.ref I) >>= _) _ _ s;refine aW (W.item i s _ _ hlt hst λv s' hP hst' hm=>?_);obtain⟨x,t,hx,rfl⟩:=hval i v hP;have hS':=move hm hS;show wpAny _ A.in1 (holding [Value.str x t] (setAdd S (.str x t)) >>= _) _ _ s';refine aW (pU ?_);unfold setAdd;refine pU ?_;refine aW ((strKind prog w).pyHash (k:=x) (strKind_is _ _ _ _) ?_);have hroom:(pr (xs.take i)).length+1<scanBound:=by have:=Do (xs.take i);rw[kj]at this;lia
  refine wpAny_setAddHashed_of (knd:=strKind prog w) (s:={s' with toks:=s'.toks+1}) (strKind_is _ _ _ _) rfl hS' hroom λh' hsb hS2=>?_;have et:xs.take (i+1)=xs.take i++[x]:=by rw[List.take_add_one,hx];rfl
  have hSi:h'.SetOf (strKind prog w) S (λk'=>(pr (xs.take (i+1))).contains k') (pr (xs.take (i+1))).length:=SetOf_congr hS2 (λk'=>by rw[et,xD,GB]) (by rw[et,xD,AE]);refine cZ ⟨tZ t0 _,ih (i+1) _ (by lia) hlt (W.frame _ s' _ _ hst' (Nat.le_succ _) λb hb o e=>?_) hSi λs'' hm'' hS''=>?_⟩
  .rw[hsb.2 b (λh:b=S=>hSf (by rw[<- h];exact hb))];exact e
  .refine hR s'' (Moved.trans W.gtrans ((hm.mono hsub).then_heap (Nat.le_succ _) λb o hb e=>?_) hm'') hS'';rw[hsb.2 b (λh:b=S=>hb (by rw[h];exact qG))];exact e
end
section
variable{prog:RD}{w:World}{A:RF}{E:RE->RB->Prop}{s:RB}
def BP(hh:A.handled=none)(hl:s.heap.get? l=some { cls:=.type "list",data:=.seq items nl }) (hn:xs.length=items.size) (hz:items.size<=1000)
 (hval:∀(i:Nat)(v:RE),items[i]?=some v->∃x t,xs[i]?=some x/\v=.str x t)
 (h:∀(h':Heap)(tk:Nat),h'.SetOf (strKind prog w) s.heap.objs.size (λk'=>(pr xs).contains k') (pr xs).length->(∀b o,b<s.heap.objs.size->s.heap.get? b=some o->h'.get? b=some o)->Q (.ref s.heap.objs.size) {s with heap:=h',toks:=tk}) :
 wpAny (model prog w) A (call (.type "set") [.ref l]) Q E s:=by
 obtain⟨c,tl,hmro⟩:=PySem.F.called_set.mro;have hmade:=PySem.F.called_set.made;have hsub:=PySem.F.called_set.sub;have sb:items.size+1<scanBound:=by unfold scanBound;lia
 refine wpAny_call (codeAny_of_tree ?_);show wpAny _ _ (callAny (.type "set") _) _ _ _;refine cZ ⟨Code.quiet_builtin _ (by decide +kernel),nn PySem.F.entry_type_call ?_⟩;rw[Around.under_plain (weight_type_call_type "set" [.ref l] []) rfl];have h1:=PySem.F.called_set.notType;have h2:=PySem.F.called_set.canCreate;have hct:=PySem.F.typeCall_set_1 (.ref l)
 repeat (any_goals (first|assumption|wp_step))
 refine Rj (ua (.ref l) (E:=E) (Q₁:=λobj s₁=>obj=.ref s.heap.objs.size/\s₁={s with heap:=s.heap.push (setNew (!byT w))}) ⟨rfl,rfl⟩) λr s₁ hr=>?_;rcases r with e|fl
 .exact hr
 cases fl with
 |ret obj=>
  obtain⟨rfl,rfl⟩:=hr;have hS:(s.heap.push (setNew (!byT w))).get? s.heap.objs.size=some (setNew (!byT w)):=dO _ rfl;have hT:Shared.TypeIs {s with heap:=s.heap.push (setNew (!byT w))} (.ref s.heap.objs.size) "set":=⟨_,hS,rfl⟩;have hli:=PySem.F.called_set.init.lookup;have hbi:=PySem.F.called_set.init.bind (.ref s.heap.objs.size)
  repeat (any_goals (first|assumption|wp_step))
  refine Rj (codeAny_call_builtin (R:=wants (λr s₂=>r=.none/\∃h' tk,s₂={s with heap:=h',toks:=tk}/\h'.SetOf (strKind prog w) s.heap.objs.size (λk'=>(pr xs).contains k') (pr xs).length/\
   (∀b o,b<s.heap.objs.size->s.heap.get? b=some o->h'.get? b=some o)) E) PySem.F.called_set.init.plain PySem.F.entry_set_init (check_set_init_1 hT ?_)) λr₂ s₂ hr₂=>?_
  .have hol':(s.heap.push (setNew (!byT w))).get? l=some { cls:=.type "list",data:=.seq items nl }:=cA _ hl;have hsls:=PySem.F.sub_list_set;have hslf:=PySem.F.sub_list_frozenset;have hne:(Value.type "list"==Value.type "dict")=false:=by decide
   have hl1:(s.heap.push (setNew (!byT w))).IsList l items:=⟨_,hol',rfl,nl,rfl⟩;unfold Builtin.«set.__init__» noKeywords Builtin.Frozenset.updateFrom;generalize hPI:pyIter=PI
   wp_walk
   subst hPI;refine kn hl1 (aW (wpAny_runValue ?_));have hlS:l<s.heap.objs.size:=dN hl;have hh3:A.in1.in1.in1.handled=none:=by simp[hh]
   have hneI:l≠(s.heap.push (setNew (!byT w))).objs.size:=by rw[ng];exact dU (Rt hlS)
   refine nY ((Walks.list hh3 _ l hneI items).toS) s.heap.objs.size ?hSf xs hn hval sb (items.size-0) 0 _ rfl (lY _) ⟨⟨_,dO _ rfl,rfl,rfl⟩,(hl1.push _)⟩ ?hS0 ?hR
   case hSf=>rw[ng];simp only[cB,fw,mH,not_or];exact⟨dU (Nat.lt_succ_self _),qJ hlS⟩
   case hS0=>have hget:=cA (h:=s.heap.push (setNew (!byT w))) { cls:=.type "list_iterator",data:=.fields #[.ref l,.int 0 0] } hS;exact SetOf_congr ((setObjOf_fresh (knd:=strKind prog w) (!byT w)).setOf hget (by unfold scanBound;lia)) (λ_=>rfl) rfl
   case hR=>intro s' hm hS';obtain⟨h',g',d',tk',os'⟩:=s';have eg:g'=s.gens:=hm.gens;have ed:d'=s.drawn:=hm.drawn;have eo:os'=s.os:=hm.os;subst eg ed eo;refine cZ (cZ ⟨rfl,h',tk',rfl,hS',λb o hb e=>hm.heap b o ?_ (cA _ (cA _ e))⟩);simp only[cB,fw,mH,not_or];exact⟨dU hb,by rw[ng];exact dU (Rt hb)⟩
  .rcases r₂ with e|fl₂
   .exact hr₂
   cases fl₂ with
   |ret r=>
    obtain⟨rfl,h',tk,rfl,hS',hk'⟩:=hr₂
    repeat (any_goals (first|assumption|wp_step))
    exact h _ _ hS' hk'
   |_=>exact hr₂.elim
 |_=>exact hr.elim
end
section
variable{X:Cx}
def Dp(P:RD)(w:World)(h:Heap)(a:Addr)(xs:List Str):Prop:=h.SetOf (strKind P w) a (λk'=>(pr xs).contains k') (pr xs).length
theorem uM:∀{xs:List Str}{us:List RE},Vals (xs.map V.str) us->us.length=xs.length/\∀(i:Nat)(v:RE),us[i]?=some v->∃x t,xs[i]?=some x/\v=.str x t
 |[],[],_=>⟨rfl,λi v e=>by simp at e⟩
 |x::r,u::us,.cons q h=>by
  obtain⟨a,b⟩:=uM h;refine⟨by simp[a],λi v e=>?_⟩;cases i with
  |zero=>obtain⟨t,hu⟩:=q;simp only[List.getElem?_cons_zero,Option.some.injEq]at e;exact⟨x,t,rfl,by rw[<- e,hu]⟩
  |succ i=>exact b i v (by simpa using e)
def zi(hc:X.calm=true):CallR X (.type "set") (λvs H Q=>∃l xs,vs=[.ref l]/\Rd H l (.lst (xs.map V.str))/\xs.length<=1000/\∀p,H p=none->Q (.ref p) (ck H p (.ext λh=>Dp X.prog X.w h p xs))):=by intro ai s σ H vs us Q I r h;obtain⟨l,xs,rfl,hl,hz,q⟩:=h;obtain⟨u,rfl,ru⟩:=i4 r;obtain rfl:u=Value.ref l:=ru;obtain⟨_,us,n,rv,hg⟩:=(show ObjOk X.prog X.w H s.heap l (.lst (xs.map V.str))from hl.ok I.bC);obtain⟨g1,g2⟩:=uM rv;refine BP (I.ok.hd hc) hg (xs:=xs) (by rw[cE,g1]) (by rw[cE,g1];exact hz) (λi v e=>g2 i v (by simpa using e)) λh' tk hS hk=>?_;have hf:H s.heap.objs.size=none:=I.bC.fresh (cC _);refine⟨.ref s.heap.objs.size,_,I.laid (a:=s.heap.objs.size) (o:=.ext λh=>Dp X.prog X.w h s.heap.objs.size xs) (t':=tk) (λb o e=>hk b o (dN e) e) (cC _) ?_,rfl,q _ hf⟩;exact⟨hS,(let ⟨o,_,_,_,e,_⟩:=hS;⟨o,e⟩),λh1 h2 hs k=>let ⟨o,es,ep,t,e,r⟩:=hs;⟨o,es,ep,t,k o e,r⟩⟩
def zj:CallR X (.builtin "len") (λvs H Q=>∃p xs,vs=[.ref p]/\H p=some (.ext λh=>Dp X.prog X.w h p xs)/\xs.length<=1000/\Q (.int (pr xs).length) H):=by intro ai s σ H vs us Q I r h;obtain⟨p,xs,rfl,hp,hz,q⟩:=h;obtain⟨u,rfl,ru⟩:=i4 r;obtain rfl:u=Value.ref p:=ru;obtain⟨⟨o,es,ep,t,ho,hex,hd,_,_,_,hf,hn⟩,_,_⟩:=(show ObjOk X.prog X.w H s.heap p (.ext λh=>Dp X.prog X.w h p xs)from I.bC p _ hp);have hl:=Do xs;refine call_len_set ho hex hd hf (by rw[hn];lia) ⟨.int (pr xs).length,H,I.tok _,⟨_,by rw[hn]⟩,q⟩
end
end L2
namespace TS
open PySem PyProof.Rows
section
variable{rk:Keyed->Nat}
def QT(rk:Keyed->Nat)(l:List Keyed):Prop:=l.Pairwise λx y=>rk x<=rk y
end
noncomputable def Ch(rk:Keyed->Nat):List (Nat×Nat)->Nat->List Keyed->Prop
 |[],_,xs=>xs=[]
 |(u,n)::l,c,xs=>∃X Y,xs=X++Y/\u=c/\X.length=n/\0<n/\QT rk X/\Ch rk l (c+n) Y
end TS
namespace L2
open PySem PySem.Spec PySem.Calls PyProof.Rows ST
section
open Classical in
end
end L2
namespace L2
open PySem PySem.Spec PySem.Calls PyProof.Rows
section
theorem AF:∀{vs:List V}{its:List RE},vs.length=its.length->(∀(i:Nat) v u,vs[i]?=some v->its[i]?=some u->RelV v u)->Vals vs its
 |[],[],_,_=>.nil
 |[],_::_,e,_=>by cases e
 |_::_,[],e,_=>by cases e
 |v::vs,u::its,e,f=>.cons (f 0 v u rfl rfl) (AF (by simpa using e) λi w z a b=>f (i+1) w z (by simpa using a) (by simpa using b))
def GC(ta:TA):TE:=λσ H Q=>ta σ H λvs H1=>∃j:Int,vs=[.int j]/\0<=j/\j<=1000/\∀l,H1 l=none->Q (.ref l) (ck H1 l (.lst ((List.range j.toNat).map λk=>.int (k:Nat))))
def BQ(hc:X.calm=true)(hgl:Gl X "list") (hml:X.mg "list"=none) (hvl:bootBuiltins "list"=some (.type "list")) (hg:Gl X "range") (hm:X.mg "range"=none) (ha:PA X [a] ta) (hs:autoParam (starEach [a] X.env=[(false,eval a X.env)]) RQ)
 (hs2:autoParam (starEach [.Call (.Name "range" p2) [a] [] pos2] X.env=[(false,eval (.Call (.Name "range" p2) [a] [] pos2) X.env)]) RQ):PE X (.Call (.Name "list" p) [.Call (.Name "range" p2) [a] [] pos2] [] pos) (GC ta):=by
 intro ai s σ H Q I h;refine Call_ (kY I hgl hml hvl (jN ?_ hs2 rfl));rw[hs2];show wpAny _ _ (spliced ((false,eval (.Call (.Name "range" p2) [a] [] pos2) X.env)::[])) _ _ s;refine Calls.spliced_cons (Call_ (kY I hg hm boot_range (jN (dY (ha pos2 ai s σ H _ I h) λus s1 ⟨vs,H1,I1,r1,q1⟩=>?_) hs rfl)));obtain⟨j,e,j0,j1,q⟩:=q1;subst e;cases r1 with
 |cons r rr=>
  cases rr;obtain⟨t,rfl⟩:=r;refine call_range_1 (Calls.spliced_nil ?_);have I2:Inv X ai σ H1 { s1 with heap:=s1.heap.push { cls:=.type "range",data:=.fields #[.int 0 s1.toks,.int j t,.int 1 (s1.toks+1)] },toks:=s1.toks+1+1 }:=I1.kept λb o e=>cA _ e;have hr:IsRange ({ s1 with heap:=s1.heap.push { cls:=.type "range",data:=.fields #[.int 0 s1.toks,.int j t,.int 1 (s1.toks+1)] },toks:=s1.toks+1+1 }:RB).heap s1.heap.objs.size 0 j 1 s1.toks t (s1.toks+1):=dO _ rfl;generalize({ s1 with heap:=s1.heap.push { cls:=.type "range",data:=.fields #[.int 0 s1.toks,.int j t,.int 1 (s1.toks+1)] },toks:=s1.toks+1+1 }:RB)=s2 at I2 hr;have hn:Builtin.Range.rangeSize 0 j 1=(j.toNat:Nat):=by rw[rangeSize_one];split<;>lia
  refine call_list_range (I2.ok.hd hc) hr (small_one (by lia) (by lia) (by lia) (by lia)) hn (by lia) λh' tk acc c' kp e it=>?_;obtain⟨i1,i2⟩:=it;have rv:Vals ((List.range j.toNat).map λk=>.int (k:Nat)) acc.toList:=by
   refine AF (by rw[bH,vF,tP,i1]) λi v w ev ew=>?_;obtain⟨t',rfl⟩:=i2 i w (by rw[<- Array.getElem?_toList];exact ew);rw[iX]at ev;have hi:i<j.toNat:=by have:=(cD.mp ew).1;rw[tP,i1]at this;exact this
   rw[List.getElem?_range hi]at ev;cases ev;exact⟨t',by congr 1;lia⟩
  have e:h'.get? s2.heap.objs.size=some { cls:=.type "list",dict:=none,data:=.seq acc.toList.toArray c',slots:=#[] }:=by rw[Array.toArray_toList];exact e
  exact⟨.ref s2.heap.objs.size,_,I2.laid (t':=tk) kp (cC _) (show ObjOk X.prog X.w _ h' _ (.lst ((List.range j.toNat).map λk=>.int (k:Nat)))from⟨by rw[bH,vF,Ru];lia,acc.toList,c',rv,e⟩),rfl,q _ (I2.bC.fresh (cC _))⟩
end
end L2
namespace L2
open PySem PySem.Spec PyProof.Rows
open Sem (wp)
open Builtin
section
variable{prog:RD}{w:World}{A:RF}{E:RE->RB->Prop}{s:RB}
def MO(hj:IsTupIter s.heap j t n)(ht:IsTup s.heap t xs)(hx:xs[n]?=some x)
 (q:∀g,IsTupIter g j t (n+1)->Heap.SameBut j s.heap g->Q x {s with heap:=g}):wpAny (model prog w) A (Builtin.SmallTypes.nextOf (.ref j)) Q E s:=by
 obtain⟨u,hu,cu,du⟩:=id hj;obtain⟨ut,hut,_,m,dut⟩:=ht;unfold Builtin.SmallTypes.nextOf;refine aW (kK (name:=Str.ofString "__next__") hj.typeIs tQ (qE tQ hj.typeIs entry_tupleiter_next ?_ (args_tupleiter_next _)));show wpAny _ _ (field (.ref j) 0 >>= _) _ _ s;refine aW (kI hu du (x:=.ref t) rfl ?_);show wpAny _ _ (if(Value.ref t==Value.none)=true then _ else _) _ _ s;rw[dS (show ¬((Value.ref t==Value.none)=true)from qH)];show wpAny _ _ (field (.ref j) 1 >>= _) _ _ s;refine aW (kI hu du (x:=.int n 0) rfl ?_);show wpAny _ _ (seqItems? (.ref t) >>= _) _ _ s;refine aW (l6 hut dut ?_);simp only[o8,hx];refine aW (wpAny_setField hu du (by simp) (cZ ⟨x,rfl,cZ (q _ ⟨_,Heap.get?_update_self _ hu (Obj.isFreed_of_fields (Obj.data_mapFields du _)),(Obj.cls_mapFields ..).trans cu,by rw[Obj.data_mapFields du];simp[rawInt]⟩ (Heap.SameBut.update ..))⟩))
def MP(hh:A.handled=none)(hj:IsTupIter s.heap j t n)(ht:IsTup s.heap t xs)(hx:xs[n]?=none)
 (q:∀g e,Heap.ExtBut j s.heap g->(∃u,g.get? e=some u/\u.cls=.type "StopIteration")->E (.ref e) {s with heap:=g}):wpAny (model prog w) A (Builtin.SmallTypes.nextOf (.ref j)) Q E s:=by
 obtain⟨u,hu,cu,du⟩:=id hj;obtain⟨ut,hut,_,m,dut⟩:=ht;unfold Builtin.SmallTypes.nextOf;refine aW (kK (name:=Str.ofString "__next__") hj.typeIs tQ (qE tQ hj.typeIs entry_tupleiter_next ?_ (args_tupleiter_next _)));show wpAny _ _ (field (.ref j) 0 >>= _) _ _ s;refine aW (kI hu du (x:=.ref t) rfl ?_);show wpAny _ _ (if(Value.ref t==Value.none)=true then _ else _) _ _ s;rw[dS (show ¬((Value.ref t==Value.none)=true)from qH)];show wpAny _ _ (field (.ref j) 1 >>= _) _ _ s;refine aW (kI hu du (x:=.int n 0) rfl ?_);show wpAny _ _ (seqItems? (.ref t) >>= _) _ _ s;refine aW (l6 hut dut ?_);simp only[o8,hx];refine aW (Rr (aW (wpAny_setField hu du (by simp) ?_)));show wpAny _ _ (newExc (.type "StopIteration") [] >>= _) _ _ _;refine aW ?_;simp only[newExc,newTuple];refine aW (nk ?_ (by size_fits));refine aW (m:=firstArgMember _ _) (wpAny_of_eq (a:=Value.none) (by first|rfl|(simp only[firstArgMember];rfl)) ?_);refine nk ?_ (by size_fits);simp only[raiseNew];refine aW (wpAny_handled ?_);(first|rw[show A.in1.handled=none from hh]|rw[hh]);refine aW (cZ (wpAny_throw (q _ _ (((Heap.SameBut.update ..).extBut.push _).push _) ⟨_,dO _ rfl,rfl⟩)))
end
open Sem (wp)
open Builtin
def SIt(k:Bool)(h:Heap)(j t:Addr)(n:Nat):Prop:=∃o,h.get? j=some o/\o.cls=.type (if k then "tuple_iterator" else "list_iterator")/\o.data=.fields #[.ref t,.int n 0]
def SAt(k:Bool)(h:Heap)(t:Addr)(xs:Array RE):Prop:=∃o,h.get? t=some o/\o.cls=.type (if k then "tuple" else "list")/\∃n,o.data=.seq xs n
def SIt.at(x:SIt k h a t i)(e:∀o,h.get? a=some o->h'.get? a=some o):SIt k h' a t i:=let ⟨o,ho,r⟩:=x;⟨o,e o ho,r⟩
def SIt.extBut(x:SIt k h a t i)(hs:Heap.ExtBut b h h')(hab:a≠b):SIt k h' a t i:=x.at λo e=>hs a o hab e
def SAt.extBut(x:SAt k h a xs)(hs:Heap.ExtBut b h h')(hab:a≠b):SAt k h' a xs:=let ⟨o,ho,r⟩:=x;⟨o,hs a o hab ho,r⟩
section
variable{prog:RD}{w:World}{A:RF}{E:RE->RB->Prop}{s:RB}
def Dq(hj:SIt k s.heap j t n)(ht:SAt k s.heap t xs)(hx:xs[n]?=some x)
 (q:∀g,SIt k g j t (n+1)->Heap.SameBut j s.heap g->Q x {s with heap:=g}):wpAny (model prog w) A (Builtin.SmallTypes.nextOf (.ref j)) Q E s:=by
 cases k with
 |true=>exact MO hj ht hx q
 |false=>exact wpAny_nextOf_list_item hj ht hx q
def ID(hh:A.handled=none)(hj:SIt k s.heap j t n)(ht:SAt k s.heap t xs)(hx:xs[n]?=none)
 (q:∀g e,Heap.ExtBut j s.heap g->(∃u,g.get? e=some u/\u.cls=.type "StopIteration")->E (.ref e) {s with heap:=g}):wpAny (model prog w) A (Builtin.SmallTypes.nextOf (.ref j)) Q E s:=by
 cases k with
 |true=>exact MP hh hj ht hx q
 |false=>exact wpAny_nextOf_list_end hh hj ht hx q
def BR(N:ZipApart z P O i j a b)(hz:IsZip s.heap z P O .none)(hP:IsPair s.heap P (.ref i) (.ref j))(hO:IsPair s.heap O c d)
 (hi:SIt ka s.heap i a m) (hj:SIt kb s.heap j b n) (ha:SAt ka s.heap a xs) (hb:SAt kb s.heap b ys) (hx:xs[m]?=some x) (hy:ys[n]?=some y)
 (q:∀g,IsZip g z P O (rawInt s.heap.objs.size)->IsPair g O x y->SIt ka g i a (m+1)->SIt kb g j b (n+1)->IsPair g s.heap.objs.size x y->g.objs.size=s.heap.objs.size+1->
   (∀k o,k≠z->k≠O->k≠i->k≠j->s.heap.get? k=some o->g.get? k=some o)->Q (some (.ref s.heap.objs.size)) {s with heap:=g}):wpAny (model prog w) A (pyNext (.ref z)) Q E s:=by
 have hT:s.TypeIs (.ref z) "zip":=⟨_,hz,rfl⟩;unfold pyNext;refine aW (wpAny_attempt (kK (name:=Str.ofString "__next__") hT Rc (qE Rc hT F.entry_zip_next ?_ (F.args_zip_next_1 _))));show wpAny _ _ (field (.ref z) 2 >>= _) _ _ _;refine aW (kI hz rfl (x:=.bool false) rfl ?_);show wpAny _ _ (field (.ref z) 3 >>= _) _ _ _;refine aW (kI hz rfl (x:=.ref P) rfl ?_);refine aW (l6 hP rfl ?_);show wpAny _ _ (Builtin.SmallTypes.ownedTupleIsFree (.ref z) >>= _) _ _ _;refine aW ?_;unfold Builtin.SmallTypes.ownedTupleIsFree;refine aW (kI hz rfl (x:=.none) rfl (cZ ?_));simp only[vE];refine aW (Rr ?_);refine aW (kI hz rfl (x:=.ref O) rfl ?_);refine aW (o0 hz (by simp) λg1 z1 k1=>?_);replace z1:IsZip g1 z P O .ellipsis:=z1;refine aW ?_;simp only[Bz,List.zipIdx_nil,Re,List.forIn_nil];refine aW (aW (wpAny_onRaise ?_));show wpAny _ _ (Builtin.SmallTypes.nextOf (.ref i) >>= _) _ _ _;refine aW (Dq (hi.extBut k1.extBut N.i1z) (ha.extBut k1.extBut N.l1z) hx λg2 i2 k2=>cZ ?_);have O2:IsPair g2 O c d:=k2.extBut _ _ N.TOi1 (k1.extBut _ _ N.TOz hO);refine aW (l6 O2 rfl ?_);refine aW (KE O2 λg3 O3 k3=>?_);replace O3:IsPair g3 O x d:=O3;refine aW (wpAny_letGo (cZ ?_));refine aW (aW (wpAny_onRaise ?_));show wpAny _ _ (Builtin.SmallTypes.nextOf (.ref j) >>= _) _ _ _;refine aW (Dq (((hj.extBut k1.extBut N.i2z).extBut k2.extBut N.i12.symm).extBut k3.extBut N.TOi2.symm) (((hb.extBut k1.extBut N.l2z).extBut k2.extBut N.l2i1).extBut k3.extBut N.l2TO) hy λg4 j4 k4=>cZ ?_);have O4:IsPair g4 O x d:=k4.extBut _ _ N.TOi2 O3;refine aW (l6 O4 rfl ?_);refine aW (KE O4 λg5 O5 k5=>?_);replace O5:IsPair g5 O x y:=O5;refine aW (wpAny_letGo (cZ (cZ ?_)));refine aW (l6 O5 rfl ?_);refine aW (wpAny_newTuple ?_);have sz:g5.objs.size=s.heap.objs.size:=by rw[k5.1,k4.1,k3.1,k2.1,k1.1]
 have z5:IsZip g5 z P O .ellipsis:=k5.extBut _ _ N.TOz.symm (k4.extBut _ _ N.i2z.symm (k3.extBut _ _ N.TOz.symm (k2.extBut _ _ N.i1z.symm z1)));have kk:∀k o,k≠z->k≠O->k≠i->k≠j->s.heap.get? k=some o->g5.get? k=some o:=λk o n1 n2 n3 n4 e=>k5.extBut _ _ n2 (k4.extBut _ _ n4 (k3.extBut _ _ n2 (k2.extBut _ _ n3 (k1.extBut _ _ n1 e))));have i5:SIt ka g5 i a (m+1):=((i2.extBut k3.extBut N.TOi1.symm).extBut k4.extBut N.i12).extBut k5.extBut N.TOi1.symm;have j5:SIt kb g5 j b (n+1):=j4.extBut k5.extBut N.TOi2.symm;have zlt:z<g5.objs.size:=dN z5;show wpAny _ _ (Builtin.SmallTypes.ownedTupleHandOut (.ref z) (.ref g5.objs.size) >>= _) _ _ _;refine aW ?_;unfold Builtin.SmallTypes.ownedTupleHandOut;have z6:IsZip (g5.push { cls:=.type "tuple",data:=.seq #[x,y] }) z P O .ellipsis:=cA _ z5;refine aW (o0 z6 (by simp) λg7 z7 k7=>?_);replace z7:IsZip g7 z P O (rawInt g5.objs.size):=z7;refine o0 z7 (by simp) λg8 z8 k8=>?_;replace z8:IsZip g8 z P O (rawInt g5.objs.size):=z8;have up:∀k o,k≠z->g5.get? k=some o->g8.get? k=some o:=λk o n1 e=>k8.extBut _ _ n1 (k7.extBut _ _ n1 (cA _ e));have T8:IsPair g8 g5.objs.size x y:=k8.extBut _ _ (qJ zlt) (k7.extBut _ _ (qJ zlt) (dO _ rfl));have s8:g8.objs.size=g5.objs.size+1:=by rw[k8.1,k7.1,ng]
 rw[sz]at z8 T8 s8;refine cZ ⟨_,rfl,?_⟩;refine cZ ?_;show Q (some (.ref g5.objs.size)) _;rw[sz];exact q g8 z8 (up _ _ N.TOz O5) (SIt.at i5 λo e=>up _ o N.i1z e) (SIt.at j5 λo e=>up _ o N.i2z e) T8 s8 λk o n1 n2 n3 n4 e=>up k o n1 (kk k o n1 n2 n3 n4 e)
def Ds(hh:A.handled=none)(N:ZipApart z P O i j a b)(hz:IsZip s.heap z P O .none)(hP:IsPair s.heap P (.ref i) (.ref j))(hO:IsPair s.heap O c d)
 (hi:SIt ka s.heap i a m) (hj:SIt kb s.heap j b n) (ha:SAt ka s.heap a xs) (hb:SAt kb s.heap b ys) (hx:xs[m]?=none\/ys[n]?=none)
 (q:∀g,(∀k o,k≠z->k≠O->k≠i->k≠j->s.heap.get? k=some o->g.get? k=some o)->Q none {s with heap:=g}):wpAny (model prog w) A (pyNext (.ref z)) Q E s:=by
 have hT:s.TypeIs (.ref z) "zip":=⟨_,hz,rfl⟩;have fin:∀(g:Heap)(e:Addr),(∀k o,k≠z->k≠O->k≠i->k≠j->s.heap.get? k=some o->g.get? k=some o)->(∃u,g.get? e=some u/\u.cls=.type "StopIteration")->wpAny (model prog w) A (do if <- isInstance (.ref e) (.type "StopIteration")then pure none else throw (.ref e):Sem (Option RE)) Q E {s with heap:=g}:=λg e kp ⟨u,hu,cu⟩=>aW (wpAny_isInstance (T:="StopIteration") (b:=true) ⟨u,hu,cu⟩ isSubtype_stop (cZ (q g kp)));unfold pyNext;refine aW (wpAny_attempt (kK (name:=Str.ofString "__next__") hT Rc (qE Rc hT F.entry_zip_next ?_ (F.args_zip_next_1 _))));show wpAny _ _ (field (.ref z) 2 >>= _) _ _ _;refine aW (kI hz rfl (x:=.bool false) rfl ?_);show wpAny _ _ (field (.ref z) 3 >>= _) _ _ _;refine aW (kI hz rfl (x:=.ref P) rfl ?_);refine aW (l6 hP rfl ?_);show wpAny _ _ (Builtin.SmallTypes.ownedTupleIsFree (.ref z) >>= _) _ _ _;refine aW ?_;unfold Builtin.SmallTypes.ownedTupleIsFree;refine aW (kI hz rfl (x:=.none) rfl (cZ ?_));simp only[vE];refine aW (Rr ?_);refine aW (kI hz rfl (x:=.ref O) rfl ?_);refine aW (o0 hz (by simp) λg1 z1 k1=>?_);replace z1:IsZip g1 z P O .ellipsis:=z1;refine aW ?_;simp only[Bz,List.zipIdx_nil,Re,List.forIn_nil];refine aW (aW (wpAny_onRaise ?_));show wpAny _ _ (Builtin.SmallTypes.nextOf (.ref i) >>= _) _ _ _;cases ex:xs[m]? with
 |none=>
  refine aW (ID hh (hi.extBut k1.extBut N.i1z) (ha.extBut k1.extBut N.l1z) ex λg2 e k2 ⟨u,hu,cu⟩=>?_);have z2:IsZip g2 z P O .ellipsis:=k2 _ _ N.i1z.symm z1;have ez:e≠z:=λw=>by subst w;rw[z2]at hu;cases hu;simp at cu
  refine o0 z2 (by simp) λg3 _ k3=>?_;exact fin g3 e (λk o n1 _ n3 _ w=>k3.extBut _ _ n1 (k2 _ _ n3 (k1.extBut _ _ n1 w))) ⟨u,k3.extBut _ _ ez hu,cu⟩
 |some x=>
  have ey:ys[n]?=none:=hx.resolve_left (by rw[ex];simp);refine aW (Dq (hi.extBut k1.extBut N.i1z) (ha.extBut k1.extBut N.l1z) ex λg2 i2 k2=>cZ ?_);have O2:IsPair g2 O c d:=k2.extBut _ _ N.TOi1 (k1.extBut _ _ N.TOz hO);refine aW (l6 O2 rfl ?_);refine aW (KE O2 λg3 O3 k3=>?_);refine aW (wpAny_letGo (cZ ?_));refine aW (aW (wpAny_onRaise ?_));show wpAny _ _ (Builtin.SmallTypes.nextOf (.ref j) >>= _) _ _ _;refine aW (ID hh (((hj.extBut k1.extBut N.i2z).extBut k2.extBut N.i12.symm).extBut k3.extBut N.TOi2.symm) (((hb.extBut k1.extBut N.l2z).extBut k2.extBut N.l2i1).extBut k3.extBut N.l2TO) ey λg4 e k4 ⟨u,hu,cu⟩=>?_);have z4:IsZip g4 z P O .ellipsis:=k4 _ _ N.i2z.symm (k3.extBut _ _ N.TOz.symm (k2.extBut _ _ N.i1z.symm z1));have ez:e≠z:=λw=>by subst w;rw[z4]at hu;cases hu;simp at cu
  refine o0 z4 (by simp) λg5 _ k5=>?_;exact fin g5 e (λk o n1 n2 n3 n4 w=>k5.extBut _ _ n1 (k4 _ _ n4 (k3.extBut _ _ n2 (k2.extBut _ _ n3 (k1.extBut _ _ n1 w))))) ⟨u,k5.extBut _ _ ez hu,cu⟩
end
noncomputable abbrev MQ(k:Bool)(h:Heap)(a:Addr):Heap:=h.push { cls:=.type (if k then "tuple_iterator" else "list_iterator"),data:=.fields #[.ref a,.int 0 0] }
abbrev OO(ka kb:Bool)(h:Heap)(a b:Addr):Heap:=MQ kb (MQ ka h a) b
abbrev OP(ka kb:Bool)(h:Heap)(a b:Addr):Heap:=(OO ka kb h a b).push { cls:=.type "tuple",data:=.seq #[.ref h.objs.size,.ref (MQ ka h a).objs.size] }
abbrev OQ(ka kb:Bool)(h:Heap)(a b:Addr):Heap:=(OP ka kb h a b).push { cls:=.type "tuple",data:=.seq #[.none,.none] }
abbrev sz5(ka kb:Bool)(h:Heap)(a b:Addr):Heap:=(OQ ka kb h a b).push { cls:=.type "zip",data:=.fields #[.none,.bool false,.bool false,.ref (OO ka kb h a b).objs.size,.ref (OP ka kb h a b).objs.size] }
def Dt(ka kb:Bool)(a b:Addr)(xs ys:Array RE):Meets (Builtin.«zip.__new__» ⟨[.type "zip",.ref a,.ref b],[]⟩) (λ_ R s=>SAt ka s.heap a xs/\SAt kb s.heap b ys/\R (.ok (.ret (.ref (OQ ka kb s.heap a b).objs.size))) {s with heap:=sz5 ka kb s.heap a b}):=
 .of_wp λprog w A R s h=>by
  obtain⟨hp,g,d,tk,os⟩:=s;obtain⟨ha,hb,h⟩:=h;have hsub:=PySem.sub_zip;cases ka<;>cases kb
  .have h1:Heap.IsList (Shared.heap ⟨hp,g,d,tk,os⟩) a xs:=ha;have h2:Heap.IsList (Shared.heap ⟨hp.push { cls:=.type "list_iterator",data:=.fields #[.ref a,.int 0 0] },g,d,tk,os⟩) b ys:=Heap.IsList.push hb _
   wp_walk using kn h1,kn h2
   exact⟨_,rfl,h⟩
  .have h1:Heap.IsList (Shared.heap ⟨hp,g,d,tk,os⟩) a xs:=ha;have h2:IsTup (Shared.heap ⟨hp.push { cls:=.type "list_iterator",data:=.fields #[.ref a,.int 0 0] },g,d,tk,os⟩) b ys:=IsTup.push hb _
   wp_walk using kn h1,iter_tuple h2
   exact⟨_,rfl,h⟩
  .have h1:IsTup (Shared.heap ⟨hp,g,d,tk,os⟩) a xs:=ha;have h2:Heap.IsList (Shared.heap ⟨hp.push { cls:=.type "tuple_iterator",data:=.fields #[.ref a,.int 0 0] },g,d,tk,os⟩) b ys:=Heap.IsList.push hb _
   wp_walk using iter_tuple h1,kn h2
   exact⟨_,rfl,h⟩
  .have h1:IsTup (Shared.heap ⟨hp,g,d,tk,os⟩) a xs:=ha;have h2:IsTup (Shared.heap ⟨hp.push { cls:=.type "tuple_iterator",data:=.fields #[.ref a,.int 0 0] },g,d,tk,os⟩) b ys:=IsTup.push hb _
   wp_walk using iter_tuple h1,iter_tuple h2
   exact⟨_,rfl,h⟩
section
variable{prog:RD}{w:World}{A:RF}{E:RE->RB->Prop}{s:RB}
def BS(ha:SAt ka s.heap a xs)(hb:SAt kb s.heap b ys)
 (q:∀g,IsZip g (s.heap.objs.size+4) (s.heap.objs.size+2) (s.heap.objs.size+3) .none->IsPair g (s.heap.objs.size+2) (.ref s.heap.objs.size) (.ref (s.heap.objs.size+1))->IsPair g (s.heap.objs.size+3) .none .none->
   SIt ka g s.heap.objs.size a 0->SIt kb g (s.heap.objs.size+1) b 0->(∀c o,s.heap.get? c=some o->g.get? c=some o)->Q (.ref (s.heap.objs.size+4)) {s with heap:=g}):wpAny (model prog w) A (call (.type "zip") [.ref a,.ref b]) Q E s:=by
 refine callType_new F.called_zip (by decide) (F.typeCall_zip_2 _ _) (F.newCall_zip_2 _ _) (λobj=>F.args_object_init_3 obj _ _) F.entry_zip_new (Dt ka kb a b xs ys) ⟨ha,hb,?_⟩;have z1:(MQ ka s.heap a).objs.size=s.heap.objs.size+1:=ng ..;have z2:(OO ka kb s.heap a b).objs.size=s.heap.objs.size+2:=by rw[ng,z1]
 have z3:(OP ka kb s.heap a b).objs.size=s.heap.objs.size+3:=by rw[ng,z2]
 have z4:(OQ ka kb s.heap a b).objs.size=s.heap.objs.size+4:=by rw[ng,z3]
 have pu:∀{h:Heap}{c:Addr}{o:Obj}(x:Obj),h.get? c=some o->(h.push x).get? c=some o:=λx e=>cA x e;have g5:(sz5 ka kb s.heap a b).get? (OQ ka kb s.heap a b).objs.size=some _:=dO _ rfl;have g4:(sz5 ka kb s.heap a b).get? (OP ka kb s.heap a b).objs.size=some _:=pu _ (dO _ rfl);have g3:(sz5 ka kb s.heap a b).get? (OO ka kb s.heap a b).objs.size=some _:=pu _ (pu _ (dO _ rfl));have g2:(sz5 ka kb s.heap a b).get? (MQ ka s.heap a).objs.size=some _:=pu _ (pu _ (pu _ (dO _ rfl)));have g1:(sz5 ka kb s.heap a b).get? s.heap.objs.size=some _:=pu _ (pu _ (pu _ (pu _ (dO _ rfl))));show _/\_;rw[z2,z3,z4]at g5;rw[z1,z2]at g3;rw[z3]at g4;rw[z1]at g2;rw[z4];exact⟨⟨_,g5,rfl⟩,q _ g5 g3 g4 ⟨_,g1,rfl,rfl⟩ ⟨_,g2,rfl,rfl⟩ λc o x=>pu _ (pu _ (pu _ (pu _ (pu _ x))))⟩
end
noncomputable def r_(kts:List (Addr×List V))(a:Addr)(o:Obj)(ns:List Int):Hp:=λb=>match kts.lookup b with
 |some xs=>some (.tup xs)
 |none=>if b=a then some (.cQ o (.lst (ns.map V.int)))else none
section
def GD(e:kts.lookup b=some xs):r_ kts a o ns b=some (.tup xs):=by unfold r_;rw[e]
def GE(e:kts.lookup a=none):r_ kts a o ns a=some (.cQ o (.lst (ns.map V.int))):=by unfold r_;rw[e];exact c5 rfl
def GF(e:kts.lookup b=none)(n:b≠a):r_ kts a o ns b=none:=by unfold r_;rw[e];exact dS n
end
theorem nZ:∀{vs:List RE}{ns:List Int},IntsAre vs ns->Vals (ns.map V.int) vs
 |_,_,.nil=>.nil
 |_,_,.cons n t h=>.cons ⟨t,rfl⟩ (nZ h)
def BU{P:RD}{w:World}{K:RC}{mg mb:Str->Option RE}{CX:F3}{k:Nat}{fa a:Addr}{fd:FuncData}{x:Str}{sp:Sp}{s₁:RB}{vs:List RE}{ns:List Int}{kts:List (Addr×List V)}
 (KX:K.In s₁.heap) (hns:s₁.heap.Ns mainGlobals mg) (hb:s₁.heap.Ns builtinsNs mb) (hbb:∀x:Str,x≠"__name__"->mb x=bootBuiltins x) (hlim:s₁.heap.NoLimit) (hg:s₁.gens=#[])
 (ha:s₁.heap.get? a=some { cls:=.type "list",data:=.seq vs.toArray }) (hi:IntsAre vs ns) (hl:ns.length<=sizeLine) (hr:kh k callerA)
 (hK:∀o,K.lookup a=some o->o.cls=.type "list"->False)
 (hT:∀b xs,kts.lookup b=some xs->K.lookup b=none/\∃(o:Obj)(its:Array RE)(n:Nat),s₁.heap.get? b=some o/\o.cls=.type "tuple"/\o.data=.seq its n/\its.size<=sizeLine/\Vals xs its.toList)
 (hM:∀p∈K,∀b xs,xm p.2=some (b,xs)->kts.lookup b=some xs)
 (F:∀base:Heap,K.In base->base.Ns mainGlobals mg->bE P w K mg base CX k fa fd [x] sp) (hbind:∀(s:RB)(u:RE),BindsTo s fd ⟨[u],[]⟩ [(x,u)])
 (hsp:∀H:Hp,(∃o,H a=some (.cQ o (.lst (ns.map V.int))))->sp [.ref a] H (λv _=>v=.bl true) λ_ _ _=>False)
 (hCX:∀H e s',CX [] H s₁ (λ_ _ _=>False) e s'->False) :
 codeAny (model P w) callerA (.call (.ref fa) ⟨[.ref a],[]⟩) (λr s'=>r=.ok (.ret (.bool true))/\OldK s₁.heap s'.heap/\s'.os=s₁.os/\AllBare s'.gens) s₁:=by
 have rv:=nZ hi;have noK:K.lookup a=none:=by
  cases q:K.lookup a with
  |none=>rfl
  |some o=>have e:=KX a o q;rw[ha]at e;cases e;exact(hK _ q rfl).elim
 have noT:kts.lookup a=none:=by
  cases q:kts.lookup a with
  |none=>rfl
  |some xs=>obtain⟨_,o,its,n,e,c,_⟩:=hT a xs q;rw[ha]at e;cases e;exact absurd c (by simp)
 obtain⟨ob,eob⟩ : ∃ob:Obj,ob={ cls:=.type "list",data:=.seq vs.toArray }:=⟨_,rfl⟩;rw[<- eob]at ha;generalize eH:r_ kts a ob ns=H;have Ha:H a=some (.cQ ob (.lst (ns.map V.int))):=by rw[<- eH];exact GE noT
 have Ht:∀b xs,kts.lookup b=some xs->H b=some (.tup xs):=λb xs e=>by rw[<- eH];exact GD e
 have Hn:∀b,kts.lookup b=none->b≠a->H b=none:=λb e n=>by rw[<- eH];exact GF e n
 have freeK:∀b o,K.lookup b=some o->H b=none:=λb o e=>by
  refine Hn b ?_ λz=>by rw[z,noK]at e;cases e
  cases q:kts.lookup b with
  |none=>rfl
  |some xs=>rw[(hT b xs q).1]at e;cases e
 have freeD:∀(b:Addr)(o:Obj)(es:Array DictEntry)(ep:Nat),s₁.heap.get? b=some o->o.data=.dict es ep->H b=none:=λb o es ep e d=>by
  refine Hn b ?_ λz=>?_
  .cases q:kts.lookup b with
   |none=>rfl
   |some xs=>obtain⟨_,o',its,n,e',_,d',_⟩:=hT b xs q;rw[e]at e';cases e';rw[d]at d';cases d'
  .rw[z,ha]at e;cases e;rw[eob]at d;cases d
 have nsK:∀{b:Addr}{m:Str->Option RE},s₁.heap.Ns b m->(xk s₁.heap H).Ns b m:=λ{b m} ⟨o,es,ep,e,d,r⟩=>⟨o,es,ep,xl e (freeD b o es ep e d),d,r⟩;have hKb:K.In (xk s₁.heap H):=λb o e=>xl (KX b o e) (freeK b o e);have hMd:Mod K mg (xk s₁.heap H):=⟨hKb,nsK hns,⟨mb,nsK hb,hbb⟩,let ⟨mc,h1,h2⟩:=hlim;⟨mc,nsK h1,h2⟩⟩;have bC:HOk P w H s₁.heap:=λb u e=>by
  cases q:kts.lookup b with
  |some xs=>rw[Ht b xs q]at e;cases e;obtain⟨_,o,its,n,e1,c,d,z,r⟩:=hT b xs q;refine⟨by rw[r.length];simpa using z,its.toList,r,o,e1,c,n,by simpa using d⟩
  |none=>
   by_cases hba:b=a
   .rw[hba,Ha]at e;cases e;rw[hba];exact⟨ha,by rw[bH];exact hl,vs,_,rv,by rw[ha,eob]⟩
   .rw[Hn b q hba]at e;cases e
 have e0:Iy P w K mg (xk s₁.heap H) callerA [] s₁ H:=⟨rfl,hMd,λb o e=>Ga e,Nat.le_of_eq (BC _ _),trivial,λb hb=>absurd (show b∈([]:List Addr)from hb) (by simp),bC,.of_eq hg,λp hp b xs e=>Ht b xs (hM p hp b xs e)⟩;refine Rj ((F _ hKb (nsK hns)).run callerA [] s₁ H ⟨[.ref a],[]⟩ [.ref a] [.ref a] _ _ hr e0 (hbind s₁ (.ref a)) (.cons rfl .nil) (hsp H ⟨ob,Ha⟩)) λr s' h=>?_;cases r with
 |error e=>exact(hCX H e s' h).elim
 |ok fl=>
  cases fl with
  |next=>exact False.elim h
  |brk=>exact False.elim h
  |cont=>exact False.elim h
  |ret u=>
   obtain⟨v,H',os,bare,un,hok',r',q⟩:=h;have q':v=.bl true:=q;subst q';obtain rfl:u=Value.bool true:=r';refine⟨rfl,OldK.of_keep λb o e=>?_,os,bare⟩;by_cases hba:b=a
   .rw[hba]at e ⊢;have z2:=un.rC a ob _ Ha;obtain⟨e2,_⟩:=hok' a _ z2;rw[ha]at e;cases e;exact e2
   .refine un.keep b o e ?_ (by intro z;exact absurd (show b∈([]:List Addr)from z) (by simp)) (by simp);cases q:kts.lookup b with
    |none=>exact .inl (Hn b q hba)
    |some xs=>exact .inr ⟨xs,Ht b xs q⟩
noncomputable def Pt:V->RE
 |.str x=>.str x 0
 |.ref a=>.ref a
 |_=>.none
def sd(p:Addr×List V):Obj:={ cls:=.type "kt",data:=.seq (Value.ref p.1::p.2.map Pt).toArray }
def C0(K:RC)(g:Addr)(kts:List (Addr×List V)):RC:=K.filter (λp=>(kts.lookup p.1).isNone)++kts.map λp=>(g,sd p)
section
variable{K K':RC}{g:Addr}{kts:List (Addr×List V)}
theorem gy:∀{K:RC},(K.filter (λp=>(kts.lookup p.1).isNone)).lookup b=if(kts.lookup b).isNone then K.lookup b else none
 |[]=>by simp
 |(c,o)::r=>by
  rw[qQ];by_cases hbc:b=c
  .subst hbc;by_cases h:(kts.lookup b).isNone=true
   .rw[c5 h,c5 h,gM,gM];simp
   .rw[dS h,gy,dS h,dS h]
  .have hb':(b==c)=false:=by simpa using hbc
   have e2:List.lookup b ((c,o)::r)=List.lookup b r:=by rw[gM,hb']
   rw[e2];split
   .rw[gM,hb'];exact gy
   .exact gy
theorem nu:∀{l l':RC},(l++l').lookup b=(l.lookup b).or (l'.lookup b)
 |[],_=>by simp
 |(c,o)::r,l'=>by
  rw[List.cons_append,gM,gM];split
  .rfl
  .exact nu
theorem nv:∀{l:List (Addr×List V)},(l.map λp=>(g,sd p)).lookup b=some o->b=g
 |[],e=>by cases e
 |p::r,e=>by
  rw[b8,gM]at e;split at e
  .rename_i h;simpa using h
  .exact nv e
def Du(hg:(K.lookup g).isSome=true/\kts.lookup g=none)(e:(C0 K g kts).lookup b=some o):kts.lookup b=none/\K.lookup b=some o:=by
 unfold C0 at e;rw[nu,gy]at e;cases q:kts.lookup b with
 |some xs=>rw[q]at e;simp at e;have:=nv e;rw[this,hg.2]at q;cases q
 |none=>
  rw[q]at e;simp only[Option.isNone_none,vE]at e;cases ek:K.lookup b with
  |some o'=>rw[ek]at e;simp at e;exact⟨rfl,by rw[e]⟩
  |none=>rw[ek]at e;simp at e;have hm:=nv e;subst hm;have:=hg.1;rw[ek]at this;cases this
def Dv(n:kts.lookup b=none)(e:K.lookup b=some o):(C0 K g kts).lookup b=some o:=by unfold C0;rw[nu,gy,n,e];rfl
def BV(K:RC)(kts:List (Addr×List V)):Prop:=∀p∈kts,p.2.map (λv=>O1 (Pt v))=p.2/\∃(o:Obj)(its:Array RE)(n:Nat),K.lookup p.1=some o/\o.cls=.type "tuple"/\o.data=.seq its n/\its.size<=sizeLine/\Vals p.2 its.toList
def MR(K:RC):Bool:=K.all λp=>(xm p.2).isNone
theorem lf:∀{l:List (Addr×List V)},l.lookup b=some xs->(b,xs)∈l
 |[],e=>by cases e
 |(c,ys)::r,e=>by
  rw[gM]at e;split at e
  .rename_i h;cases e;obtain rfl:b=c:=by simpa using h
   exact qG
  .exact iY _ (lf e)
def uN(h:p.2.map (λv=>O1 (Pt v))=p.2):xm (sd p)=some p:=by unfold xm sd;simp only[FX,vE];rw[dQ];exact ie some (Prod.ext rfl h)
def BW(hn:MR K=true)(hk:BV K kts)(hd:(kts.map (·.1)).Nodup):∀p∈C0 K g kts,∀b xs,xm p.2=some (b,xs)->kts.lookup b=some xs:=λp hp b xs e=>by
 unfold C0 at hp;rcases gg.mp hp with hp|hp
 .have h1:=g6.mp hn p (tX.mp hp).1;rw[e]at h1;cases h1
 .obtain⟨q,hq,rfl⟩:=dP.mp hp;rw[uN (hk q hq).1]at e;cases e;clear hp hk hn
  revert hq hd
  generalize kts=ks;intro hd hq;induction ks with
  |nil=>cases hq
  |cons c r ih=>
   obtain⟨c1,c2⟩:=c;rw[b8,qK]at hd;rcases cB.mp hq with z|z
   .cases z;rw[gM];simp
   .rw[gM];have:(b==c1)=false:=by simp only[Rb,ne_eq];intro z';exact hd.1 (by rw[<- z'];exact dP.mpr ⟨_,z,rfl⟩)
    rw[this];exact ih hd.2 z
def cS(h:(a,xs)∈kts)(hk:BV K kts):∃p∈C0 K g kts,xm p.2=some (a,xs):=⟨(g,sd (a,xs)),by unfold C0;exact gg.mpr (.inr (dP.mpr ⟨_,h,rfl⟩)),uN (hk _ h).1⟩
structure nQ(K K':RC):Prop where
 look:∀b o,K.lookup b=some o->(∀its n,o.data≠.seq its n)->K'.lookup b=some o
def GG(hk:BV K kts):nQ K (C0 K g kts):=⟨λb o e d=>Dv (by
 cases q:kts.lookup b with
 |none=>rfl
 |some xs=>obtain⟨_,o',its,n,e',_,d',_⟩:=hk _ (lf q);have e'':K.lookup b=some o':=e';rw[e]at e'';cases e'';exact(d its n d').elim) e⟩
def nQ.code(S:nQ K K')(h:codeIn K cd q=true):codeIn K' cd q=true:=by
 unfold codeIn at h ⊢;cases cd with
 |ref c=>
  dsimp only at h ⊢;cases e:K.lookup c with
  |none=>rw[e]at h;cases h
  |some o=>
   obtain⟨o1,o2,o3,o4⟩:=o;cases o3 with
   |fields vs=>rw[S.look c _ e (λ_ _ z=>nomatch z)];rw[e]at h;exact h
   |_=>rw[e]at h;cases h
 |_=>cases h
def nQ.keep(S:nQ K K')(e:K.lookup f=some ⟨o1,o2,.func fd,o4⟩):keepIn K' (.ref f)=true:=by unfold keepIn;dsimp only;rw[S.look f _ e (λ_ _ z=>nomatch z)]
def nQ.ns(S:nQ K K')(h:nsIn K n x=some r):nsIn K' n x=some r:=by
 unfold nsIn at h ⊢;cases e:K.lookup n with
 |none=>rw[e]at h;cases h
 |some o=>
  obtain⟨o1,o2,o3,o4⟩:=o;cases o3 with
  |dict es ep=>rw[S.look n _ e (λ_ _ z=>nomatch z)];rw[e]at h;exact h
  |_=>rw[e]at h;cases h
def nQ.nsOk(S:nQ K K')(h:PySem.W.nsOkIn K n=true):PySem.W.nsOkIn K' n=true:=by
 unfold PySem.W.nsOkIn at h ⊢;cases e:K.lookup n with
 |none=>rw[e]at h;cases h
 |some o=>
  obtain⟨o1,o2,o3,o4⟩:=o;cases o3 with
  |dict es ep=>rw[S.look n _ e (λ_ _ z=>nomatch z)];rw[e]at h;exact h
  |_=>rw[e]at h;cases h
theorem nQ.tail(S:nQ K K'):∀{l:List RE},PySem.W.tailIn K bm l=true->PySem.W.tailIn K' bm l=true
 |[],h=>h
 |v::r,h=>by
  unfold PySem.W.tailIn at h ⊢;rw[nR]at h ⊢;refine h.imp id λh=>?_;cases v with
  |ref A=>
   dsimp only at h ⊢;cases e:K.lookup A with
   |none=>rw[e]at h;cases h
   |some o=>
    obtain⟨o1,o2,o3,o4⟩:=o;cases o3 with
    |cls cd=>rw[S.look A _ e (λ_ _ z=>nomatch z)];rw[e]at h;dsimp only at h ⊢;simp only[fq,tW]at h ⊢;exact⟨⟨S.nsOk h.1.1,S.ns h.1.2⟩,S.tail h.2⟩
    |_=>rw[e]at h;cases h
  |_=>cases h
def nQ.exc(S:nQ K K')(h:excIn K C bm i=true):excIn K' C bm i=true/\Dh K' C=Dh K C:=by
 unfold excIn at h ⊢;unfold Dh;cases e:K.lookup C with
 |none=>rw[e]at h;cases h
 |some o=>
  obtain⟨o1,o2,o3,o4⟩:=o;rw[e]at h;cases o3 with
  |cls cd=>
   rw[S.look C _ e (λ_ _ z=>nomatch z)];refine⟨?_,rfl⟩;split at h
   .rename_i dd cd' sl he;injection he with he;injection he with he1 he2 he3 he4;injection he3 with he3;subst he1 he2 he3 he4
    try dsimp only at h
    try dsimp only
    split at h
    .rename_i hm hs;simp only[fq,tW]at h ⊢;exact⟨⟨⟨h.1.1.1,S.tail h.1.1.2⟩,S.nsOk h.1.2⟩,S.ns h.2⟩
    .cases h
   .cases h
  |_=>split at h<;>first|cases h|(rename_i he;injection he with he;injection he with _ _ he _;cases he)
end
noncomputable def AG:RE->Bool
 |.type n=>n=="list"
 |_=>false
def Pu(K:RC):Bool:=K.all λp=>!AG p.2.cls
theorem Dw:∀{K:RC},Pu K=true->K.lookup a=some o->o.cls=.type "list"->False
 |[],_,e,_=>by cases e
 |(b,x)::r,h,e,c=>by
  unfold Pu at h;rw[List.all_cons,fq]at h;rw[gM]at e;split at e
  .cases e;rw[c]at h;have h1:=h.1;simp[AG]at h1
  .exact Dw (K:=r) h.2 e c
section
variable{l:PySem.W.OpenLaw}{K:Params->RC}{CX:World->F3}{sp:World->Sp}
def Dx{kts:List (Addr×List V)}(hn:l.most=some n)(hn2:n<=sizeLine)(hdf:d.params.defaults=[])(hr:kh k callerA)(hY:∀(w:World)(h:Heap),YP w h->(K w.params).In h)
 (hT:∀w:World,BV (K w.params) kts) (hd:decide (kts.map (·.1)).Nodup=true/\(kts.lookup mainGlobals).isNone=true)
 (hL:∀w:World,Pu (K w.params)=true/\MR (K w.params)=true/\((K w.params).lookup mainGlobals).isSome=true)
 (F:∀(w:World)(mg:Str->Option RE)(fa:Addr)(h:Heap),(K w.params).In h->h.Ns mainGlobals mg->mg d.name=some (.ref fa)->BV (K w.params) kts->
   ∃fd:FuncData,(∀(s:RB)(u:RE),BindsTo s fd ⟨[u],[]⟩ [(x,u)])/\∀base:Heap,bE l.prog w (C0 (K w.params) mainGlobals kts) mg base (CX w) k fa fd [x] (sp w))
 (hsp:∀(w:World)(H:Hp)(a:Addr)(ns:List Int),ns.length<=n->(∃o,H a=some (.cQ o (.lst (ns.map V.int))))->sp w [.ref a] H (λv _=>v=.bl true) λ_ _ _=>False)
 (hCX:∀(w:World)(H:Hp)(s:RB)(e:RE)(s':RB),CX w [] H s (λ_ _ _=>False) e s'->False) :
 PySem.W.WalkO q loose XP YP l.row.toRowW d [] (λf vs=>PySem.call f vs):=by
 refine Att.attach_call hn hdf λw s₀ s₁ mg mb fa o pm cd doc a vs ns G Y ho hd' hcd hmg hobj hints cK hg=>?_;have KX:=hY w _ Y;obtain⟨fd,hb,hF⟩:=F w mg fa _ KX G.T.g hmg (hT w);have g0:((K w.params).lookup mainGlobals).isSome=true/\kts.lookup mainGlobals=none:=⟨(hL w).2.2,Option.isNone_iff_eq_none.mp hd.2⟩;have lk:∀b o,(C0 (K w.params) mainGlobals kts).lookup b=some o->kts.lookup b=none/\(K w.params).lookup b=some o:=λb o e=>Du g0 e;refine BU (kts:=kts) (λb o e=>KX b o (lk b o e).2) G.T.g G.T.b G.T.builtins G.T.nolimit hg hobj hints (ib cK hn2) hr (λo e c=>Dw (hL w).1 (lk _ _ e).2 c) (λb xs e=>⟨?_,?_⟩)
  (BW (hL w).2.1 (hT w) (of_decide_eq_true hd.1)) (λbase _ _=>hF base) hb (λH hS=>hsp w H a ns cK hS) λH e s'=>hCX w H s₁ e s'
 .cases z:(C0 (K w.params) mainGlobals kts).lookup b with
  |none=>rfl
  |some o=>rw[(lk b o z).1]at e;cases e
 .obtain⟨_,o,its,n,e1,r⟩:=hT w _ (lf e);exact⟨o,its,n,KX _ _ e1,r⟩
end
end L2
namespace L2
open PySem PySem.Spec PySem.Calls PyProof.Rows
noncomputable abbrev K0:=Sum Int (List Int)
noncomputable def QU:K0->Int
 |.inl i=>hashInt i
 |.inr l=>reduceHash (Builtin.Tuple.tupleHashOf (l.map hashInt))
def QV(k:List K0):Int:=reduceHash (Builtin.Tuple.tupleHashOf (k.map QU))
abbrev NX:=List (List K0×Addr×RE)
def QW(a:Addr)(xs:NX)(h:Heap):Prop:=∃o es ep,h.get? a=some o/\o.ExactDict/\o.data=.dict es ep/\es.toList=xs.map (λx=>⟨QV x.1,.ref x.2.1,x.2.2⟩)/\(xs.map (·.1)).Nodup
noncomputable def NVs(H:Hp):List K0->List V->Prop
 |[],vs=>vs=[]
 |.inl i::ks,vs=>∃r,vs=.int i::r/\NVs H ks r
 |.inr l::ks,vs=>∃c r,vs=.ref c::r/\H c=some (.tup (l.map V.int))/\NVs H ks r
def KeyN(H:Hp)(k:List K0)(b:Addr):Prop:=∃vs,H b=some (.tup vs)/\NVs H k vs
def MS(H:Hp)(T:Addr->Prop)(v:V)(ks:List (List K0)):Prop:=∃a xs,v=.ref a/\H a=some (.ext (QW a xs))/\(∀b,T b↔b=a)/\(a==sysModules)=false/\xs.length<=sizeLine/\ks=xs.map (·.1)/\∀x∈xs,KeyN H x.1 x.2.1
section
variable{H H':Hp}
theorem NVs.mono(kt:∀b vs,H b=some (.tup vs)->H' b=some (.tup vs)):∀{k:List K0}{vs:List V},NVs H k vs->NVs H' k vs
 |[],_,h=>h
 |.inl i::ks,_,⟨r,e,h⟩=>⟨r,e,NVs.mono kt h⟩
 |.inr l::ks,_,⟨c,r,e,e2,h⟩=>⟨c,r,e,kt _ _ e2,NVs.mono kt h⟩
theorem KeyN.mono(kt:∀b vs,H b=some (.tup vs)->H' b=some (.tup vs))(h:KeyN H k b):KeyN H' k b:=let ⟨vs,e,q⟩:=h;⟨vs,kt _ _ e,q.mono kt⟩
def Dy(kT:∀b o,T b->H b=some o->H' b=some o)(kt:∀b vs,H b=some (.tup vs)->H' b=some (.tup vs))(h:MS H T v ks):MS H' T v ks:=by obtain⟨a,xs,e,e1,e2,e3,e4,e5,e6⟩:=h;exact⟨a,xs,e,kT a _ ((e2 a).mpr rfl) e1,e2,e3,e4,e5,λx hx=>(e6 x hx).mono kt⟩
end
end L2
namespace L3
open PySem PySem.Spec PyProof.Rows L2
abbrev DK:=Sum b5 (List b5)
inductive D where
 |ig|bl (b:Bool)|int (i:Int)|str (x:Str)|tup (ds:List D)|lst (ds:List D)|lS (ks:List DK) (ds:List D)
mutual
noncomputable def D.flat:D->Bool
 |.lst _=>false
 |.lS _ _=>false
 |.tup ds=>D.aC ds
 |_=>true
noncomputable def D.aC:List D->Bool
 |[]=>true
 |d::ds=>d.flat&&D.aC ds
end
mutual
noncomputable def D.dep:D->Nat
 |.lst ds=>D.gH ds+1
 |.tup ds=>D.gH ds+1
 |.lS _ ds=>D.gH ds+1000
 |_=>0
noncomputable def D.gH:List D->Nat
 |[]=>0
 |d::ds=>max d.dep (D.gH ds)
end
mutual
noncomputable def b6:D->D->Bool
 |.ig,e=>match e with|.ig=>true|_=>false
 |.bl a,e=>match e with|.bl b=>a==b|.int b=>(if a then 1 else 0)==b|_=>false
 |.int a,e=>match e with|.int b=>a==b|.bl b=>a==(if b then 1 else 0)|_=>false
 |.str a,e=>match e with|.str b=>a==b|_=>false
 |.tup as,e=>match e with|.tup bs=>eqDs as bs|_=>false
 |.lst as,e=>match e with|.lst bs=>eqDs as bs|_=>false
 |.lS ks as,e=>match e with|.lS ls bs=>decide (ks=ls)&&eqDs as bs|_=>false
noncomputable def eqDs:List D->List D->Bool
 |[],bs=>match bs with|[]=>true|_=>false
 |a::as,bs=>match bs with|b::r=>b6 a b&&eqDs as r|[]=>false
end
mutual
theorem da:∀d:D,b6 d d=true
 |.ig=>rfl
 |.bl a=>by simp[b6]
 |.int a=>by simp[b6]
 |.str a=>by simp[b6]
 |.tup as=>by simp only[b6];exact eqDs_refl as
 |.lst as=>by simp only[b6];exact eqDs_refl as
 |.lS ks as=>by simp only[b6,decide_true,Rx];exact eqDs_refl as
theorem eqDs_refl:∀ds:List D,eqDs ds ds=true
 |[]=>rfl
 |d::ds=>by simp only[eqDs,da d,eqDs_refl ds,Q_]
end
def DAt(H:Hp)(a:Addr)(ks:List DK)(vs:List V):Prop:=(∃kvs:List (b5×V),Rd H a (.dK kvs)/\ks=kvs.map (λp=>.inl p.1)/\vs=kvs.map Prod.snd)\/∃kvs:List (List b5×V),Rd H a (.dT kvs)/\ks=kvs.map (λp=>.inr p.1)/\vs=kvs.map Prod.snd
noncomputable def MT:HO->Prop
 |.lst _=>True
 |.dK _=>True
 |.dT _=>True
 |.ext _=>True
 |_=>False
def Mu(H:Hp)(a:Addr):Prop:=∃o,H a=some o/\MT o
theorem Mu.lst(h:H a=some (.lst vs)):Mu H a:=⟨_,h,True.intro⟩
def Mu.same(h:Mu H a)(s:∀o,H a=some o->H' a=some o):Mu H' a:=let ⟨o,e,m⟩:=h;⟨o,s o e,m⟩
def Mu.some(h:Mu H a):H a≠none:=by obtain⟨o,e,_⟩:=h;rw[e];simp
def Dz(h:Rd H a u):∃o,H a=some o:=h.elim (λe=>⟨_,e⟩) λ⟨_,e⟩=>⟨_,e⟩
def DA(h:Rd H a u)(s:∀o,H a=some o->H' a=some o):Rd H' a u:=h.imp (s _) λ⟨o,e⟩=>⟨o,s _ e⟩
def DAt.obj(h:DAt H a ks vs):∃o,H a=some o:=h.elim (λ⟨_,e,_⟩=>Dz e) λ⟨_,e,_⟩=>Dz e
def DAt.keep(h:DAt H a ks vs)(s:∀o,H a=some o->H' a=some o):DAt H' a ks vs:=h.imp (λ⟨kvs,e,r⟩=>⟨kvs,DA e s,r⟩) λ⟨kvs,e,r⟩=>⟨kvs,DA e s,r⟩
def DAt.inj(h:DAt H a ks vs)(g:DAt H a ls ws):ks=ls/\vs=ws:=by rcases h with⟨k1,e1|⟨o1,e1⟩,r1,r2⟩|⟨k1,e1|⟨o1,e1⟩,r1,r2⟩<;>rcases g with⟨k2,e2|⟨o2,e2⟩,q1,q2⟩|⟨k2,e2|⟨o2,e2⟩,q1,q2⟩<;>(rw[e1]at e2;cases e2;try exact⟨r1.trans q1.symm,r2.trans q2.symm⟩)
noncomputable def Pv:HO->Prop
 |.dK _=>False
 |.dT _=>False
 |.cQ _ (.dK _)=>False
 |.cQ _ (.dT _)=>False
 |_=>True
def DAt.no(h:DAt H a ks vs)(e:H a=some o)(n:Pv o):False:=by rcases h with⟨k,z|⟨o',z⟩,_⟩|⟨k,z|⟨o',z⟩,_⟩<;>(rw[e]at z;cases z;exact n)
mutual
noncomputable def Is(H:Hp)(m:Addr->Prop):D->V->Prop
 |.ig,v=>v=.ig
 |.bl b,v=>v=.bl b
 |.int i,v=>v=.int i
 |.str x,v=>v=.str x
 |.tup ds,v=>∃a vs,v=.ref a/\H a=some (.tup vs)/\IsAll H m ds vs
 |.lst ds,v=>∃a vs,v=.ref a/\((H a=some (.lst vs)/\m a)\/∃o,H a=some (.cQ o (.lst vs))/\m a)/\IsAll H m ds vs
 |.lS ks ds,v=>∃a vs,v=.ref a/\(DAt H a ks vs/\m a)/\IsAll H m ds vs
noncomputable def IsAll(H:Hp)(m:Addr->Prop):List D->List V->Prop
 |[],vs=>vs=[]
 |d::ds,vs=>∃v r,vs=v::r/\Is H m d v/\IsAll H m ds r
end
noncomputable def gP:HO->Prop
 |.tup _=>True
 |.cQ _ _=>True
 |_=>False
section
mutual
theorem Is.mono(kp:∀a o,H a=some o->(m a\/gP o)->H' a=some o)(mm:∀a o,H a=some o->m a->m' a):∀{d:D}{v:V},Is H m d v->Is H' m' d v
 |.ig,_,h=>h
 |.bl _,_,h=>h
 |.int _,_,h=>h
 |.str _,_,h=>h
 |.tup ds,_,h=>by obtain⟨a,vs,e,h1,h2⟩:=h;exact⟨a,vs,e,kp a _ h1 (.inr True.intro),IsAll.mono kp mm h2⟩
 |.lst ds,_,h=>by
  obtain⟨a,vs,e,h1,h2⟩:=h;refine⟨a,vs,e,?_,IsAll.mono kp mm h2⟩;rcases h1 with⟨h1,h3⟩|⟨o,h1,h3⟩
  .exact .inl ⟨kp a _ h1 (.inl h3),mm a _ h1 h3⟩
  .exact .inr ⟨o,kp a _ h1 (.inr True.intro),mm a _ h1 h3⟩
 |.lS ks ds,_,h=>by obtain⟨a,vs,e,h1,h2⟩:=h;obtain⟨o,eo⟩:=h1.1.obj;exact⟨a,vs,e,⟨h1.1.keep λo e=>kp a o e (.inl h1.2),mm a o eo h1.2⟩,IsAll.mono kp mm h2⟩
theorem IsAll.mono(kp:∀a o,H a=some o->(m a\/gP o)->H' a=some o)(mm:∀a o,H a=some o->m a->m' a):∀{ds:List D}{vs:List V},IsAll H m ds vs->IsAll H' m' ds vs
 |[],_,h=>h
 |d::ds,_,h=>by obtain⟨v,r,e,h1,h2⟩:=h;exact⟨v,r,e,Is.mono kp mm h1,IsAll.mono kp mm h2⟩
end
def Is.weak(mm:∀a,m a->m' a)(h:Is H m d v):Is H m' d v:=h.mono (λ_ _ e _=>e) λa _ _=>mm a
def IsAll.weak(mm:∀a,m a->m' a)(h:IsAll H m ds vs):IsAll H m' ds vs:=h.mono (λ_ _ e _=>e) λa _ _=>mm a
def Is.same(s:Same H H')(h:Is H m d v):Is H' m d v:=h.mono (λa o e _=>s a o e) λ_ _ _ z=>z
def IsAll.same(s:Same H H')(h:IsAll H m ds vs):IsAll H' m ds vs:=h.mono (λa o e _=>s a o e) λ_ _ _ z=>z
mutual
theorem Is.flat:∀{d:D}{v:V},d.flat=true->Is H m d v->Is H m' d v
 |.ig,_,_,h=>h
 |.bl _,_,_,h=>h
 |.int _,_,_,h=>h
 |.str _,_,_,h=>h
 |.tup ds,_,f,h=>by obtain⟨a,vs,e,h1,h2⟩:=h;exact⟨a,vs,e,h1,IsAll.flat (by simpa only[D.flat]using f) h2⟩
 |.lst ds,_,f,_=>by simp[D.flat]at f
 |.lS ks ds,_,f,_=>by simp[D.flat]at f
theorem IsAll.flat:∀{ds:List D}{vs:List V},D.aC ds=true->IsAll H m ds vs->IsAll H m' ds vs
 |[],_,_,h=>h
 |d::ds,_,f,h=>by obtain⟨v,r,e,h1,h2⟩:=h;simp only[D.aC,fq]at f;exact⟨v,r,e,Is.flat f.1 h1,IsAll.flat f.2 h2⟩
end
mutual
theorem Is.inj:∀{d e:D}{v:V},Is H m d v->Is H m' e v->d=e
 |.ig,e,_,h,g=>by cases e<;>first|rfl|(cases h;first|(obtain⟨_,_,z,_⟩:=g;cases z;done)|cases g)
 |.bl _,e,_,h,g=>by cases e<;>(cases h;first|(obtain⟨_,_,z,_⟩:=g;cases z;done)|(cases g;rfl)|cases g)
 |.int _,e,_,h,g=>by cases e<;>(cases h;first|(obtain⟨_,_,z,_⟩:=g;cases z;done)|(cases g;rfl)|cases g)
 |.str _,e,_,h,g=>by cases e<;>(cases h;first|(obtain⟨_,_,z,_⟩:=g;cases z;done)|(cases g;rfl)|cases g)
 |.tup ds,e,_,h,g=>by
  obtain⟨a,vs,rfl,h1,h2⟩:=h;cases e with
  |tup es=>obtain⟨b,ws,z,g1,g2⟩:=g;cases z;rw[h1]at g1;cases g1;rw[IsAll.inj h2 g2]
  |lst es=>obtain⟨b,ws,z,g1,g2⟩:=g;cases z;rcases g1 with⟨g1,_⟩|⟨o,g1,_⟩<;>(rw[h1]at g1;cases g1)
  |lS ls es=>obtain⟨b,ws,z,g1,g2⟩:=g;cases z;exact(g1.1.no h1 True.intro).elim
  |_=>cases g
 |.lst ds,e,_,h,g=>by
  obtain⟨a,vs,rfl,h1,h2⟩:=h;cases e with
  |tup es=>obtain⟨b,ws,z,g1,g2⟩:=g;cases z;rcases h1 with⟨h1,_⟩|⟨o,h1,_⟩<;>(rw[h1]at g1;cases g1)
  |lst es=>
   obtain⟨b,ws,z,g1,g2⟩:=g;cases z;have e:vs=ws:=by rcases h1 with⟨h1,_⟩|⟨o,h1,_⟩<;>rcases g1 with⟨g1,_⟩|⟨o',g1,_⟩<;>(rw[h1]at g1;cases g1;try rfl)
   subst e;rw[IsAll.inj h2 g2]
  |lS ls es=>obtain⟨b,ws,z,g1,g2⟩:=g;cases z;rcases h1 with⟨h1,_⟩|⟨o,h1,_⟩<;>exact(g1.1.no h1 True.intro).elim
  |_=>cases g
 |.lS ks ds,e,_,h,g=>by
  obtain⟨a,vs,rfl,h1,h2⟩:=h;cases e with
  |tup es=>obtain⟨b,ws,z,g1,g2⟩:=g;cases z;exact(h1.1.no g1 True.intro).elim
  |lst es=>obtain⟨b,ws,z,g1,g2⟩:=g;cases z;rcases g1 with⟨g1,_⟩|⟨o,g1,_⟩<;>exact(h1.1.no g1 True.intro).elim
  |lS ls es=>obtain⟨b,ws,z,g1,g2⟩:=g;cases z;obtain⟨e1,e2⟩:=h1.1.inj g1.1;subst e1 e2;rw[IsAll.inj h2 g2]
  |_=>cases g
theorem IsAll.inj:∀{ds es:List D}{vs:List V},IsAll H m ds vs->IsAll H m' es vs->ds=es
 |[],es,_,h,g=>by
  cases h;cases es with
  |nil=>rfl
  |cons e es=>obtain⟨_,_,z,_⟩:=g;cases z
 |d::ds,es,_,h,g=>by
  obtain⟨v,r,rfl,h1,h2⟩:=h;cases es with
  |nil=>cases g
  |cons e es=>obtain⟨w,q,z,g1,g2⟩:=g;cases z;rw[Is.inj h1 g1,IsAll.inj h2 g2]
end
theorem IsAll.length:∀{ds:List D}{vs:List V},IsAll H m ds vs->vs.length=ds.length
 |[],_,h=>by cases h;rfl
 |d::ds,_,h=>by obtain⟨v,r,rfl,_,h2⟩:=h;simp[IsAll.length h2]
theorem IsAll.append:∀{ds es:List D}{vs ws:List V},IsAll H m ds vs->IsAll H m es ws->IsAll H m (ds++es) (vs++ws)
 |[],_,_,_,h,g=>by cases h;exact g
 |d::ds,_,_,_,h,g=>by obtain⟨v,r,rfl,h1,h2⟩:=h;exact⟨v,r++_,rfl,h1,IsAll.append h2 g⟩
def IsAll.snoc(h:IsAll H m ds vs)(g:Is H m d v):IsAll H m (ds++[d]) (vs++[v]):=h.append ⟨v,[],rfl,g,rfl⟩
theorem IsAll.get:∀{ds:List D}{vs:List V}{i:Nat}{d:D},IsAll H m ds vs->ds[i]?=some d->∃v,vs[i]?=some v/\Is H m d v
 |[],_,_,_,_,e=>by simp at e
 |d::ds,_,0,_,h,e=>by obtain⟨v,r,rfl,h1,h2⟩:=h;simp at e;subst e;exact⟨v,rfl,h1⟩
 |d::ds,_,i+1,_,h,e=>by obtain⟨v,r,rfl,h1,h2⟩:=h;obtain⟨w,a,b⟩:=IsAll.get (i:=i) h2 (by simpa using e);exact⟨w,by simpa using a,b⟩
theorem IsAll.take:∀{ds:List D}{vs:List V}(n:Nat),IsAll H m ds vs->IsAll H m (ds.take n) (vs.take n)
 |_,_,0,_=>rfl
 |[],_,n+1,h=>by cases h;exact rfl
 |d::ds,_,n+1,h=>by obtain⟨v,r,rfl,h1,h2⟩:=h;exact⟨v,r.take n,rfl,h1,IsAll.take n h2⟩
theorem IsAll.drop:∀{ds:List D}{vs:List V}(n:Nat),IsAll H m ds vs->IsAll H m (ds.drop n) (vs.drop n)
 |_,_,0,h=>h
 |[],_,n+1,h=>by cases h;exact rfl
 |d::ds,_,n+1,h=>by obtain⟨v,r,rfl,h1,h2⟩:=h;exact IsAll.drop n h2
end
section
variable{s:RB}{m m':Addr->Prop}
def J4(ok:HOk P w H s.heap)(h:(H a=some (.lst vs)/\m a)\/∃o,H a=some (.cQ o (.lst vs))/\m a) :
 ∃its:List RE,Vals vs its/\s.heap.IsList a its.toArray:=by
 have key:ObjOk P w H s.heap a (.lst vs)->∃its:List RE,Vals vs its/\s.heap.IsList a its.toArray:=λ⟨_,its,n,r,e⟩=>⟨its,r,⟨_,e,rfl,n,rfl⟩⟩;rcases h with⟨h,_⟩|⟨o,h,_⟩
 .exact key (ok a _ h)
 .exact key (ok a _ h).2
def J5(ok:HOk P w H s.heap)(h:H a=some (.tup vs)):∃its:List RE,Vals vs its/\s.heap.IsTuple a its.toArray:=by obtain⟨_,its,r,e⟩:=ok a _ h;exact⟨its,r,e⟩
def BX(n:Nat)(e:Nat->Bool):(List.range n).all e=true↔∀j,j<n->e j=true:=by simp[g6,nh]
theorem sf:∀(ds es:List D),eqDs ds es=true↔ds.length=es.length/\∀(j:Nat)(d e:D),ds[j]?=some d->es[j]?=some e->b6 d e=true
 |[],[]=>by simp[eqDs]
 |[],e::es=>by simp[eqDs]
 |d::ds,[]=>by simp[eqDs]
 |d::ds,e::es=>by
  simp only[eqDs,fq,sf ds es,gK,Nat.add_right_cancel_iff];constructor
  .rintro⟨h1,h2,h3⟩;refine⟨h2,λj x y ex ey=>?_⟩;cases j with
   |zero=>simp at ex ey;subst ex;subst ey;exact h1
   |succ j=>exact h3 j x y (by simpa using ex) (by simpa using ey)
  .rintro⟨h2,h3⟩;exact⟨h3 0 d e rfl rfl,h2,λj x y ex ey=>h3 (j+1) x y (by simpa using ex) (by simpa using ey)⟩
theorem gQ:∀{ds:List D}{j:Nat}{d:D},ds[j]?=some d->d.dep<=D.gH ds
 |[],_,_,e=>by simp at e
 |d::ds,0,_,e=>by simp at e;subst e;simp only[D.gH];lia
 |d::ds,j+1,x,e=>by have:=gQ (ds:=ds) (j:=j) (d:=x) (by simpa using e);simp only[D.gH];lia
def vW(ok:HOk P w H s.heap){A:RF}{ds es:List D}(h1:IsAll H m ds vs)(h2:IsAll H m' es ws)(r1:Vals vs its)(r2:Vals ws its2)
 (rec:∀d∈ds,∀e∈es,∀(v w:V)(u u':RE),Is H m d v->Is H m' e w->RelV v u->RelV w u'->SeqAt.EqAt A.in1 s u u' (b6 d e)) :
 ∀j (z1:j<its.toArray.size) (z2:j<its2.toArray.size),SeqAt.EqAt A.in1 s its.toArray[j] its2.toArray[j] (match ds[j]?,es[j]? with|some d,some e=>b6 d e|_,_=>true):=by
 intro j z1 z2;have l1:=r1.length;have l2:=r2.length;have l3:=h1.length;have l4:=h2.length;have y1:j<its.length:=by simpa using z1
 have y2:j<its2.length:=by simpa using z2
 have k1:j<ds.length:=by lia
 have k2:j<es.length:=by lia
 obtain⟨v,ev,iv⟩:=h1.get (i:=j) (d:=ds[j]) (by simp[k1]);obtain⟨v',ev',iv'⟩:=h2.get (i:=j) (d:=es[j]) (by simp[k2]);obtain⟨u,eu,ru⟩:=r1.get ev;obtain⟨u',eu',ru'⟩:=r2.get ev'
 grind
theorem zk(hl:ds.length=es.length) :
 ((List.range ds.length).all λj=>match ds[j]?,es[j]? with|some d,some e=>b6 d e|_,_=>true)=eqDs ds es:=by
 rw[Bool.eq_iff_iff,BX,sf];constructor
 .intro h;refine⟨hl,λj d e ed ee=>?_⟩;have:=h j (cD.mp ed).1;rw[ed,ee]at this;exact this
 .rintro⟨_,h⟩ j hj;have e1:ds[j]?=some ds[j]:=by simp[hj]
  have hj':j<es.length:=by lia
  have e2:es[j]?=some es[j]:=by simp[hj']
  rw[e1,e2];exact h j _ _ e1 e2
theorem vX(hl:ds.length≠es.length):eqDs ds es=false:=by grind [eqDs,sf]
end
section
variable{s:RB}
abbrev p6(H:Hp)(s:RB)(m m':Addr->Prop)(A:RF)(n:Nat):Prop:=∀(d e:D)(v w:V)(u u':RE),d.dep<n->e.dep<1000->Is H m d v->Is H m' e w->RelV v u->RelV w u'->SeqAt.EqAt A.in1 s u u' (b6 d e)
section
def sj(ok:HOk P w H s.heap)(hn:(D.lst l1).dep<=n)(hE:(D.lst l2).dep<1000)(hu:A.units<cLine)(q1:IsAll H m l1 vs1)(q2:IsAll H m' l2 vs2)(y1:Vals vs1 its1)(y2:Vals vs2 its2)(p1:s.heap.IsList a1 its1.toArray)(p2:s.heap.IsList a2 its2.toArray)
 (rec:p6 H s m m' A n):SeqAt.RcAt A s (.ref a1) (.ref a2) (b6 (.lst l1) (.lst l2)):=by
 have e1:its1.toArray.size=l1.length:=by rw[cE,<- y1.length,q1.length]
 have e2:its2.toArray.size=l2.length:=by rw[cE,<- y2.length,q2.length]
 have hd:∀d∈l1,d.dep<n:=λd hd=>by obtain⟨j,hj⟩:=gm.mp hd;have:=gQ hj;simp only[D.dep]at hn;lia
 have he:∀e∈l2,e.dep<1000:=λd hd=>by obtain⟨j,hj⟩:=gm.mp hd;have:=gQ hj;simp only[D.dep]at hE;lia
 by_cases hl:l1.length=l2.length
 .have z:=SeqAt.RcAt.lists p1 p2 (by rw[e1,e2,hl]) hu (vW ok q1 q2 y1 y2 λd hm e hm2 v w u u' i1 i2 r1 r2=>rec d e v w u u' (hd d hm) (he e hm2) i1 i2 r1 r2);rw[e1,zk hl]at z;exact z
 .have z:=SeqAt.RcAt.lists_lengths p1 p2 (by rw[e1,e2];simpa using hl) hu;rw[show b6 (.lst l1) (.lst l2)=eqDs l1 l2 from rfl,vX hl];exact z
def vY(ok:HOk P w H s.heap)(hn:(D.lst l1).dep<=n)(hE:(D.lst l2).dep<1000)(hu:A.units<cLine)(q1:IsAll H m l1 vs1)(q2:IsAll H m' l2 vs2)(y1:Vals vs1 its1)(y2:Vals vs2 its2)(p1:s.heap.IsList a1 its1.toArray)(p2:s.heap.IsList a2 its2.toArray)
 (rec:p6 H s m m' A n):SeqAt.RcNeAt A s (.ref a1) (.ref a2) (!b6 (.lst l1) (.lst l2)):=by
 have e1:its1.toArray.size=l1.length:=by rw[cE,<- y1.length,q1.length]
 have e2:its2.toArray.size=l2.length:=by rw[cE,<- y2.length,q2.length]
 have hd:∀d∈l1,d.dep<n:=λd hd=>by obtain⟨j,hj⟩:=gm.mp hd;have:=gQ hj;simp only[D.dep]at hn;lia
 have he:∀e∈l2,e.dep<1000:=λd hd=>by obtain⟨j,hj⟩:=gm.mp hd;have:=gQ hj;simp only[D.dep]at hE;lia
 by_cases hl:l1.length=l2.length
 .have z:=SeqAt.RcNeAt.lists p1 p2 (by rw[e1,e2,hl]) hu (vW ok q1 q2 y1 y2 λd hm e hm2 v w u u' i1 i2 r1 r2=>rec d e v w u u' (hd d hm) (he e hm2) i1 i2 r1 r2);rw[e1,zk hl]at z;exact z
 .have z:=SeqAt.RcNeAt.lists_lengths p1 p2 (by rw[e1,e2];simpa using hl) hu;rw[show b6 (.lst l1) (.lst l2)=eqDs l1 l2 from rfl,vX hl];exact z
def AH:((List.range (min l1.length l2.length)).all (λj=>match l1[j]?,l2[j]? with|some d,some e=>b6 d e|_,_=>true)&&l1.length==l2.length)=eqDs l1 l2:=by grind [zk,vX]
def uO(ok:HOk P w H s.heap)(hn:(D.tup l1).dep<=n)(hE:(D.tup l2).dep<1000)(hu:A.units<cLine)(q1:IsAll H m l1 vs1)(q2:IsAll H m' l2 vs2)(y1:Vals vs1 its1)(y2:Vals vs2 its2)(p1:s.heap.IsTuple a1 its1.toArray)(p2:s.heap.IsTuple a2 its2.toArray)
 (rec:p6 H s m m' A n):SeqAt.RcAt A s (.ref a1) (.ref a2) (b6 (.tup l1) (.tup l2)):=by
 have e1:its1.toArray.size=l1.length:=by rw[cE,<- y1.length,q1.length]
 have e2:its2.toArray.size=l2.length:=by rw[cE,<- y2.length,q2.length]
 have hd:∀d∈l1,d.dep<n:=λd hd=>by obtain⟨j,hj⟩:=gm.mp hd;have:=gQ hj;simp only[D.dep]at hn;lia
 have he:∀e∈l2,e.dep<1000:=λd hd=>by obtain⟨j,hj⟩:=gm.mp hd;have:=gQ hj;simp only[D.dep]at hE;lia
 have z:=SeqAt.RcAt.tuples p1 p2 hu (vW ok q1 q2 y1 y2 λd hm e hm2 v w u u' i1 i2 r1 r2=>rec d e v w u u' (hd d hm) (he e hm2) i1 i2 r1 r2);rw[e1,e2,AH]at z;exact z
def xE(ok:HOk P w H s.heap)(hn:(D.tup l1).dep<=n)(hE:(D.tup l2).dep<1000)(hu:A.units<cLine)(q1:IsAll H m l1 vs1)(q2:IsAll H m' l2 vs2)(y1:Vals vs1 its1)(y2:Vals vs2 its2)(p1:s.heap.IsTuple a1 its1.toArray)(p2:s.heap.IsTuple a2 its2.toArray)
 (rec:p6 H s m m' A n):SeqAt.RcNeAt A s (.ref a1) (.ref a2) (!b6 (.tup l1) (.tup l2)):=by
 have e1:its1.toArray.size=l1.length:=by rw[cE,<- y1.length,q1.length]
 have e2:its2.toArray.size=l2.length:=by rw[cE,<- y2.length,q2.length]
 have hd:∀d∈l1,d.dep<n:=λd hd=>by obtain⟨j,hj⟩:=gm.mp hd;have:=gQ hj;simp only[D.dep]at hn;lia
 have he:∀e∈l2,e.dep<1000:=λd hd=>by obtain⟨j,hj⟩:=gm.mp hd;have:=gQ hj;simp only[D.dep]at hE;lia
 have z:=SeqAt.RcNeAt.tuples p1 p2 hu (vW ok q1 q2 y1 y2 λd hm e hm2 v w u u' i1 i2 r1 r2=>rec d e v w u u' (hd d hm) (he e hm2) i1 i2 r1 r2);rw[e1,e2,AH]at z;exact z
def xF(h:SeqAt.RcAt A s (.ref a1) (.ref a2) k)(hs:a1=a2->k=true):SeqAt.EqAt A s (.ref a1) (.ref a2) k:=by
 by_cases e:a1=a2
 .subst e;rw[hs rfl];exact SeqAt.EqAt.same _
 .exact SeqAt.EqAt.of_refs e h
end
def Is.shape(ok:HOk P w H s.heap)(hE:d.dep<1000)(h:Is H m d v)(r:RelV v u):(d=.ig/\u=.none)\/(∃b,d=.bl b/\u=.bool b)\/(∃i t,d=.int i/\u=.int i t)\/(∃x t,d=.str x/\u=.str x t)\/
 (∃l a vs its,d=.lst l/\v=.ref a/\u=.ref a/\IsAll H m l vs/\Vals vs its/\s.heap.IsList a its.toArray)\/∃l a vs its,d=.tup l/\v=.ref a/\u=.ref a/\IsAll H m l vs/\Vals vs its/\s.heap.IsTuple a its.toArray:=by
 cases d with
 |ig=>cases h;cases r;exact .inl ⟨rfl,rfl⟩
 |bl b=>cases h;cases r;exact .inr (.inl ⟨b,rfl,rfl⟩)
 |int i=>cases h;obtain⟨t,rfl⟩:=r;exact .inr (.inr (.inl ⟨i,t,rfl,rfl⟩))
 |str x=>cases h;obtain⟨t,rfl⟩:=r;exact .inr (.inr (.inr (.inl ⟨x,t,rfl,rfl⟩)))
 |lst l=>obtain⟨a,vs,rfl,g,q⟩:=h;cases r;obtain⟨its,y,p⟩:=J4 ok g;exact .inr (.inr (.inr (.inr (.inl ⟨l,a,vs,its,rfl,rfl,rfl,q,y,p⟩))))
 |tup l=>obtain⟨a,vs,rfl,g,q⟩:=h;cases r;obtain⟨its,y,p⟩:=J5 ok g;exact .inr (.inr (.inr (.inr (.inr ⟨l,a,vs,its,rfl,rfl,rfl,q,y,p⟩))))
 |lS k l=>exact absurd hE (by simp only[D.dep];lia)
def GH(ok:HOk P w H s.heap)(hu:A.units<cLine)(rec:p6 H s m m' A n)(hn:d.dep<=n)(hN:n<1000)(hE:e.dep<1000)(h1:Is H m d v)(h2:Is H m' e w')(r1:RelV v u)(r2:RelV w' u') :
 SeqAt.RcAt A s u u' (b6 d e):=by
 rcases h1.shape ok (by lia) r1 with⟨rfl,rfl⟩|⟨b1,rfl,rfl⟩|⟨i1,t1,rfl,rfl⟩|⟨x1,t1,rfl,rfl⟩|⟨l1,a1,vs1,its1,rfl,rfl,rfl,q1,y1,p1⟩|⟨l1,a1,vs1,its1,rfl,rfl,rfl,q1,y1,p1⟩<;>rcases h2.shape ok hE r2 with⟨rfl,rfl⟩|⟨b2,rfl,rfl⟩|⟨i2,t2,rfl,rfl⟩|⟨x2,t2,rfl,rfl⟩|⟨l2,a2,vs2,its2,rfl,rfl,rfl,q2,y2,p2⟩|⟨l2,a2,vs2,its2,rfl,rfl,rfl,q2,y2,p2⟩;exact .none_none;exact .none_bool b2;exact .none_int i2 t2;exact .none_str x2 t2;exact .none_list p2 hu;exact .none_tuple p2 hu;exact .bool_none b1;exact .bool_bool b1 b2;exact .bool_int b1 i2 t2;exact .bool_str b1 x2 t2;exact .bool_list b1 p2 hu;exact .bool_tuple b1 p2 hu;exact .int_none i1 t1;exact .int_bool i1 t1 b2;exact .int_int i1 t1 i2 t2;exact .int_str i1 t1 x2 t2;exact .int_list i1 t1 p2 hu;exact .int_tuple i1 t1 p2 hu;exact .str_none x1 t1;exact .str_bool x1 t1 b2;exact .str_int x1 t1 i2 t2;exact .str_str x1 t1 x2 t2;exact .str_list x1 t1 p2 hu;exact .str_tuple x1 t1 p2 hu;exact .list_none p1 hu;exact .list_bool b2 p1 hu;exact .list_int i2 t2 p1 hu;exact .list_str x2 t2 p1 hu;exact sj ok hn hE hu q1 q2 y1 y2 p1 p2 rec;exact .list_tuple p1 p2 hu;exact .tuple_none p1 hu;exact .tuple_bool b2 p1 hu;exact .tuple_int i2 t2 p1 hu;exact .tuple_str x2 t2 p1 hu;exact .tuple_list p1 p2 hu;exact uO ok hn hE hu q1 q2 y1 y2 p1 p2 rec
def GI(ok:HOk P w H s.heap)(hu:A.units<cLine)(rec:p6 H s m m' A n)(hn:d.dep<=n)(hN:n<1000)(hE:e.dep<1000)(h1:Is H m d v)(h2:Is H m' e w')(r1:RelV v u)(r2:RelV w' u') :
 SeqAt.RcNeAt A s u u' (!b6 d e):=by
 rcases h1.shape ok (by lia) r1 with⟨rfl,rfl⟩|⟨b1,rfl,rfl⟩|⟨i1,t1,rfl,rfl⟩|⟨x1,t1,rfl,rfl⟩|⟨l1,a1,vs1,its1,rfl,rfl,rfl,q1,y1,p1⟩|⟨l1,a1,vs1,its1,rfl,rfl,rfl,q1,y1,p1⟩<;>rcases h2.shape ok hE r2 with⟨rfl,rfl⟩|⟨b2,rfl,rfl⟩|⟨i2,t2,rfl,rfl⟩|⟨x2,t2,rfl,rfl⟩|⟨l2,a2,vs2,its2,rfl,rfl,rfl,q2,y2,p2⟩|⟨l2,a2,vs2,its2,rfl,rfl,rfl,q2,y2,p2⟩;exact .none_none;exact .none_bool b2;exact .none_int i2 t2;exact .none_str x2 t2;exact .none_list p2 hu;exact .none_tuple p2 hu;exact .bool_none b1;exact .bool_bool b1 b2;exact .bool_int b1 i2 t2;exact .bool_str b1 x2 t2;exact .bool_list b1 p2 hu;exact .bool_tuple b1 p2 hu;exact .int_none i1 t1;exact .int_bool i1 t1 b2;exact .int_int i1 t1 i2 t2;exact .int_str i1 t1 x2 t2;exact .int_list i1 t1 p2 hu;exact .int_tuple i1 t1 p2 hu;exact .str_none x1 t1;exact .str_bool x1 t1 b2;exact .str_int x1 t1 i2 t2;exact .str_str x1 t1 x2 t2;exact .str_list x1 t1 p2 hu;exact .str_tuple x1 t1 p2 hu;exact .list_none p1 hu;exact .list_bool b2 p1 hu;exact .list_int i2 t2 p1 hu;exact .list_str x2 t2 p1 hu;exact vY ok hn hE hu q1 q2 y1 y2 p1 p2 rec;exact .list_tuple p1 p2 hu;exact .tuple_none p1 hu;exact .tuple_bool b2 p1 hu;exact .tuple_int i2 t2 p1 hu;exact .tuple_str x2 t2 p1 hu;exact .tuple_list p1 p2 hu;exact xE ok hn hE hu q1 q2 y1 y2 p1 p2 rec
def AI(ok:HOk P w H s.heap)(hu:A.units<cLine)(rec:p6 H s m m' A n)(hn:d.dep<=n)(hN:n<1000)(hE:e.dep<1000)(h1:Is H m d v)(h2:Is H m' e w')(r1:RelV v u)(r2:RelV w' u') :
 SeqAt.EqAt A s u u' (b6 d e):=by
 rcases h1.shape ok (by lia) r1 with⟨rfl,rfl⟩|⟨b1,rfl,rfl⟩|⟨i1,t1,rfl,rfl⟩|⟨x1,t1,rfl,rfl⟩|⟨l1,a1,vs1,its1,rfl,rfl,rfl,q1,y1,p1⟩|⟨l1,a1,vs1,its1,rfl,rfl,rfl,q1,y1,p1⟩<;>rcases h2.shape ok hE r2 with⟨rfl,rfl⟩|⟨b2,rfl,rfl⟩|⟨i2,t2,rfl,rfl⟩|⟨x2,t2,rfl,rfl⟩|⟨l2,a2,vs2,its2,rfl,rfl,rfl,q2,y2,p2⟩|⟨l2,a2,vs2,its2,rfl,rfl,rfl,q2,y2,p2⟩;exact .same _;exact .none_bool b2;exact .none_int i2 t2;exact .none_str x2 t2;exact .none_list p2 hu;exact .none_tuple p2 hu;exact .bool_none b1;exact .bool_bool b1 b2;exact .bool_int b1 i2 t2;exact .bool_str b1 x2 t2;exact .bool_list b1 p2 hu;exact .bool_tuple b1 p2 hu;exact .int_none i1 t1;exact .int_bool i1 t1 b2;exact .int_int i1 t1 i2 t2;exact .int_str i1 t1 x2 t2;exact .int_list i1 t1 p2 hu;exact .int_tuple i1 t1 p2 hu;exact .str_none x1 t1;exact .str_bool x1 t1 b2;exact .str_int x1 t1 i2 t2;exact .str_str x1 t1 x2 t2;exact .str_list x1 t1 p2 hu;exact .str_tuple x1 t1 p2 hu;exact .list_none p1 hu;exact .list_bool b2 p1 hu;exact .list_int i2 t2 p1 hu;exact .list_str x2 t2 p1 hu;exact xF (sj ok hn hE hu q1 q2 y1 y2 p1 p2 rec) (λz=>by subst z;rw[Is.inj h1 h2];exact da _);exact .list_tuple p1 p2 hu;exact .tuple_none p1 hu;exact .tuple_bool b2 p1 hu;exact .tuple_int i2 t2 p1 hu;exact .tuple_str x2 t2 p1 hu;exact .tuple_list p1 p2 hu;exact xF (uO ok hn hE hu q1 q2 y1 y2 p1 p2 rec) (λz=>by subst z;rw[Is.inj h1 h2];exact da _)
theorem DB(ok:HOk P w H s.heap):∀(n:Nat)(A:RF){d e:D}{v w':V}{u u':RE},A.units+n<cLine->n<1000->d.dep<=n->e.dep<1000->Is H m d v->Is H m' e w'->RelV v u->RelV w' u'->SeqAt.EqAt A s u u' (b6 d e)
 |0,A,d,e,v,w',u,u',hu,hN,hn,hE,h1,h2,r1,r2=>AI ok (by lia) (λd e v w u u' hd=>absurd hd (by lia)) hn hN hE h1 h2 r1 r2
 |n+1,A,d,e,v,w',u,u',hu,hN,hn,hE,h1,h2,r1,r2=>AI ok (by lia) (λd e v w u u' hd he i1 i2 r1 r2=>DB ok n A.in1 (by show A.units+1+n<cLine;lia) (by lia) (by lia) he i1 i2 r1 r2) hn hN hE h1 h2 r1 r2
def DC(ok:HOk P w H s.heap)(hu:A.units+n<cLine)(hN:n<1000):p6 H s m m' A n:=λd e v w u u' hd he i1 i2 r1 r2=>DB ok (n-1) A.in1 (by show A.units+1+(n-1)<cLine;lia) (by lia) (by lia) he i1 i2 r1 r2
end
abbrev St:=L2.St
inductive Res(α:Type) where
 |stuck|ok (a:α)|exc (c:Str)
noncomputable def Res.bind{α β:Type}:Res α->(α->Res β)->Res β
 |.stuck,_=>.stuck
 |.exc c,_=>.exc c
 |.ok a,k=>k a
@[simp] theorem Res.je {α β:Type}(a:α)(k:α->Res β):(Res.ok a).bind k=k a:=rfl
inductive Kd where
 |no|tr (d:D)|ds (d:D)
inductive Sl where
 |val (d:D) (fr:Bool)|own (ds:List D) (fr:Bool)|vL (d:D)|F9 (d:D)|pin (d:D)|kJ (d:D)|fix (n:Nat) (k:Kd)|F_ (a:Addr)|F8 (ks:List (List K0))
noncomputable abbrev En:=List (Option Sl)
inductive R where
 |val (d:D) (fr:Bool) (al:List Nat)|new (ds:List D) (fr:Bool)|mG (d:D)
noncomputable def R.d:R->D
 |.val d _ _=>d
 |.new ds _=>.lst ds
 |.mG d=>d
noncomputable def R.fr:R->Bool
 |.val _ f _=>f
 |.new _ f=>f
 |.mG _=>true
noncomputable def R.al:R->List Nat
 |.val _ _ al=>al
 |.new _ _=>[]
 |.mG _=>[]
def lg(d:D)(fr:Bool)(al:List Nat):R:=if d.flat then .val d true []else .val d fr al
structure Gd where
 H₀:Hp
 Ma:Addr->Prop
 Z:Addr->Prop
 root:Option V
 Qj:Option V
noncomputable abbrev MU(H:Hp)(Ma:Addr->Prop):Gd:=⟨H,Ma,λ_=>False,none,none⟩
def MuZ(g:Gd)(H:Hp)(a:Addr):Prop:=Mu H a\/(g.Z a/\∃o u,H a=some (.cQ o u))
theorem MuZ.same(h:MuZ g H a)(s:∀o,H a=some o->H' a=some o):MuZ g H' a:=h.imp (λz=>z.same s) λ⟨z,o,u,e⟩=>⟨z,o,u,s _ e⟩
def msk(g:Gd)(M:Addr->Prop)(fr:Bool)(a:Addr):Prop:=M a/\(fr=true->g.H₀ a=none)
noncomputable abbrev Pr:=Nat->Addr->Prop
def vmsk(g:Gd)(M:Addr->Prop)(fr:Bool)(ρ:Pr)(al:List Nat)(a:Addr):Prop:=msk g M fr a\/∃i,i∈al/\ρ i a
mutual
noncomputable def IsSh(H:Hp)(m:Addr->Prop):D->V->Prop
 |.tup ds,v=>∃a vs,v=.ref a/\H a=some (.tup vs)/\IsShs H m ds vs
 |.lst _,v=>∃a vs,v=.ref a/\H a=some (.lst vs)/\m a
 |_,_=>True
noncomputable def IsShs(H:Hp)(m:Addr->Prop):List D->List V->Prop
 |[],_=>True
 |d::ds,vs=>∃v r,vs=v::r/\IsSh H m d v/\IsShs H m ds r
end
def Dst(H:Hp)(T:Addr->Prop)(v:V):Prop:=∃(a:Addr)(vs:List V),v=.ref a/\T a/\(H a=some (.lst vs)\/(∃kvs,H a=some (.dK kvs)/\vs=kvs.map Prod.snd)\/(H a=some (.dT [])/\vs=[]))/\V.ref a∉vs/\∀(i j:Nat)(b:Addr),vs[i]?=some (V.ref b)->vs[j]?=some (V.ref b)->i=j
def Dst.mono(kp:∀a o,T a->H a=some o->H' a=some o)(mm:∀a,T a->T' a)(h:Dst H T v):Dst H' T' v:=by obtain⟨a,vs,e,ta,h1,h2⟩:=h;exact⟨a,vs,e,mm a ta,h1.imp (kp a _ ta) (.imp (λ⟨kvs,q,z⟩=>⟨kvs,kp a _ ta q,z⟩) λ⟨q,z⟩=>⟨kp a _ ta q,z⟩),h2⟩
def KdOk(H:Hp)(T:Addr->Prop)(v:V):Kd->Prop
 |.no=>True
 |.tr d=>Is H T d v
 |.ds d=>Is H T d v/\Dst H T v
theorem KdOk.mono(kp:∀a o,H a=some o->(T a\/gP o)->H' a=some o)(h:KdOk H T v k):KdOk H' T v k:=by
 cases k with
 |no=>exact h
 |tr d=>exact Is.mono kp (λ_ _ _ z=>z) h
 |ds d=>exact⟨Is.mono kp (λ_ _ _ z=>z) h.1,h.2.mono (λa o z e=>kp a o e (.inl z)) λ_ z=>z⟩
noncomputable def Gd.rt(g:Gd)(n:Nat):Option V:=if n=0 then g.root else g.Qj
def xG(kp:∀a o,H a=some o->(T a\/gP o)->H' a=some o)(h:MS H T v ks):MS H' T v ks:=Dy (λb o z e=>kp b o e (.inl z)) (λb vs e=>kp b _ e (.inr True.intro)) h
def SlOk(g:Gd)(M T:Addr->Prop)(H:Hp)(v:V):Sl->Prop
 |.val d fr=>Is H (msk g M fr) d v
 |.own ds fr=>∃a vs,v=.ref a/\H a=some (.lst vs)/\(∀b,T b↔b=a)/\IsAll H (msk g M fr) ds vs
 |.vL d=>Is H T d v
 |.F9 d=>IsSh H T d v
 |.pin d=>Is H T d v/\g.root=some v
 |.kJ d=>Is H T d v/\Dst H T v
 |.fix n k=>g.rt n=some v/\KdOk H T v k
 |.F_ a=>v=.ref a
 |.F8 ks=>MS H T v ks
noncomputable def Sl.OZ:Sl->Bool
 |.val _ _=>false
 |.F_ _=>false
 |.fix _ .no=>false
 |_=>true
def i6(env:En)(j:Nat):Bool:=match env[j]? with
 |some (some sl)=>sl.OZ
 |_=>false
structure Rep(g:Gd) (M:Addr->Prop) (ρ:Pr) (env:En) (σ:St) (H:Hp):Prop where
 same:Same g.H₀ H
 mO:∀a,M a->H a≠none
 y0:∀a,M a->g.H₀ a=none\/g.Ma a
 fl:∀a,M a->g.H₀ a=none->MuZ g H a
 slot:∀(i:Nat)(sl:Sl),env[i]?=some (some sl)->∃v,σ[i]?=some (some v)/\SlOk g M (ρ i) H v sl
 bQ:∀(i:Nat)(a:Addr),ρ i a->¬M a/\g.H₀ a=none/\Mu H a
 apart:∀(i j:Nat)(a:Addr),ρ i a->ρ j a->i=j
 ow:∀(i:Nat)(a:Addr),ρ i a->i6 env i=true
 len:env.length=σ.length
 zz:∀a,g.Z a->H a≠none
def ROk(g:Gd)(M:Addr->Prop)(ρ:Pr)(H0 H:Hp)(v:V):R->Prop
 |.val d fr al=>Is H (vmsk g M fr ρ al) d v
 |.new ds fr=>∃a vs,v=.ref a/\H a=some (.lst vs)/\¬M a/\H0 a=none/\(∀i,¬ρ i a)/\IsAll H (msk g M fr) ds vs
 |.mG d=>∃T:Addr->Prop,(∀a,T a->¬M a/\H0 a=none/\Mu H a/\∀i,¬ρ i a)/\Is H T d v
structure Ext(M:Addr->Prop) (H:Hp) (M':Addr->Prop) (H':Hp):Prop where
 m:∀a,M a->M' a
 h:Same H H'
 n:∀a,M' a->M a\/H a=none
theorem Ext.refl(M:Addr->Prop)(H:Hp):Ext M H M H:=⟨λ_ z=>z,Same.refl H,λ_ z=>.inl z⟩
theorem Ext.trans{M M1 M2:Addr->Prop}(a:Ext M H M1 H1)(b:Ext M1 H1 M2 H2):Ext M H M2 H2:=⟨λx z=>b.m x (a.m x z),a.h.trans b.h,λx z=>(b.n x z).elim (a.n x) λw=>.inr (a.h.free w)⟩
section
mutual
theorem IsSh.mono(kp:∀a o,H a=some o->gP o->H' a=some o)(kl:∀a vs,m a->H a=some (.lst vs)->∃vs',H' a=some (.lst vs'))(mm:∀a,m a->m' a):∀{d:D}{v:V},IsSh H m d v->IsSh H' m' d v
 |.ig,_,h=>h
 |.bl _,_,h=>h
 |.int _,_,h=>h
 |.str _,_,h=>h
 |.tup ds,_,h=>by obtain⟨a,vs,e,h1,h2⟩:=h;exact⟨a,vs,e,kp a _ h1 True.intro,IsShs.mono kp kl mm h2⟩
 |.lst ds,_,h=>by obtain⟨a,vs,e,h1,h2⟩:=h;obtain⟨vs',h3⟩:=kl a vs h2 h1;exact⟨a,vs',e,h3,mm a h2⟩
 |.lS _ _,_,h=>h
theorem IsShs.mono(kp:∀a o,H a=some o->gP o->H' a=some o)(kl:∀a vs,m a->H a=some (.lst vs)->∃vs',H' a=some (.lst vs'))(mm:∀a,m a->m' a):∀{ds:List D}{vs:List V},IsShs H m ds vs->IsShs H' m' ds vs
 |[],_,h=>h
 |d::ds,_,h=>by obtain⟨v,r,e,h1,h2⟩:=h;exact⟨v,r,e,IsSh.mono kp kl mm h1,IsShs.mono kp kl mm h2⟩
end
def msk.mono(mm:∀a,M a->M' a)(h:msk g M fr a):msk g M' fr a:=⟨mm a h.1,h.2⟩
theorem vmsk.mono(mm:∀a,M a->M' a)(h:vmsk g M fr ρ al a):vmsk g M' fr ρ al a:=h.imp (msk.mono mm) id
def Is.ext(e:Ext M H M' H')(h:Is H (vmsk g M fr ρ al) d v):Is H' (vmsk g M' fr ρ al) d v:=h.mono (λa o q _=>e.h a o q) λ_ _ _ z=>z.mono e.m
def IsAll.ext(e:Ext M H M' H')(h:IsAll H (vmsk g M fr ρ al) ds vs):IsAll H' (vmsk g M' fr ρ al) ds vs:=h.mono (λa o q _=>e.h a o q) λ_ _ _ z=>z.mono e.m
theorem SlOk.weak(mm:∀a,M a->M' a)(h:SlOk g M T H v sl):SlOk g M' T H v sl:=by
 cases sl with
 |val d fr=>exact Is.weak (λb z=>msk.mono mm z) h
 |own ds fr=>obtain⟨b,vs,rfl,h1,h2,h4⟩:=h;exact⟨b,vs,rfl,h1,h2,IsAll.weak (λb z=>msk.mono mm z) h4⟩
 |vL d=>exact h
 |F9 d=>exact h
 |pin d=>exact h
 |kJ d=>exact h
 |fix n k=>exact h
 |F_ a=>exact h
 |F8 ks=>exact h
theorem SlOk.same(s:Same H H')(h:SlOk g M T H v sl):SlOk g M T H' v sl:=by
 cases sl with
 |val d fr=>exact Is.same s h
 |own ds fr=>obtain⟨b,vs,rfl,h1,h2,h4⟩:=h;exact⟨b,vs,rfl,s _ _ h1,h2,IsAll.same s h4⟩
 |vL d=>exact Is.same s h
 |F9 d=>exact IsSh.mono (λa o e _=>s a o e) (λa vs _ e=>⟨vs,s _ _ e⟩) (λ_ z=>z) h
 |pin d=>exact⟨Is.same s h.1,h.2⟩
 |kJ d=>exact⟨Is.same s h.1,h.2.mono (λa o _ e=>s a o e) λ_ z=>z⟩
 |fix n k=>exact⟨h.1,h.2.mono λa o e _=>s a o e⟩
 |F_ a=>exact h
 |F8 ks=>exact xG (λa o e _=>s a o e) h
def Rep.F0{T:Addr->Prop}(r:Rep g M ρ env σ H)(ht:∀a,T a->Mu H a/\g.H₀ a=none/\∀i,¬ρ i a):Rep g (λb=>M b\/T b) ρ env σ H where
 same:=r.same
 mO:=λb hb=>hb.elim (r.mO b) λe=>(ht b e).1.some
 y0:=λb hb=>hb.elim (r.y0 b) λe=>.inl (ht b e).2.1
 fl:=λb hb h0=>hb.elim (λz=>r.fl b z h0) λe=>.inl (ht b e).1
 slot:=λi sl e=>by obtain⟨v,ev,s⟩:=r.slot i sl e;exact⟨v,ev,SlOk.weak (λ_=>.inl) s⟩
 bQ:=λi a h=>⟨λz=>z.elim (r.bQ i a h).1 λz=>(ht a z).2.2 i h,(r.bQ i a h).2⟩
 apart:=r.apart
 ow:=r.ow
 len:=r.len
 zz:=r.zz
def Rep.more{a:Addr}(r:Rep g M ρ env σ H)(ha:H a=some (.lst ws))(h0:g.H₀ a=none)(no:∀i,¬ρ i a):Rep g (λb=>M b\/b=a) ρ env σ H:=r.F0 λb e=>by subst e;exact⟨Mu.lst ha,h0,no⟩
def Rep.grow(r:Rep g M ρ env σ H)(s:Same H H'):Rep g M ρ env σ H' where
 same:=r.same.trans s
 mO:=λa ha e=>by
  cases q:H a with
  |none=>exact r.mO a ha q
  |some o=>rw[s a o q]at e;cases e
 y0:=r.y0
 fl:=λa ha h0=>(r.fl a ha h0).same λo e=>s a o e
 slot:=λi sl e=>by obtain⟨v,ev,k⟩:=r.slot i sl e;exact⟨v,ev,SlOk.same s k⟩
 bQ:=λi a h=>let ⟨a1,a2,a3⟩:=r.bQ i a h;⟨a1,a2,a3.same λo e=>s a o e⟩
 apart:=r.apart
 ow:=r.ow
 len:=r.len
 zz:=λa z e=>by
  cases q:H a with
  |none=>exact r.zz a z q
  |some o=>rw[s a o q]at e;cases e
theorem Rep.free(r:Rep g M ρ env σ H)(h:H a=none):g.H₀ a=none/\¬M a/\∀i,¬ρ i a:=by refine⟨r.same.free h,λz=>r.mO a z h,λi o=>?_⟩;exact(r.bQ i a o).2.2.some h
def ca(h:H a=none):Same H (ck H a o):=λb u e=>by rw[aJ (aA e h)];exact e
theorem ROk.is(rep:Rep g M ρ env σ H)(x:Ext M0 H0 M H)(h0:Same g.H₀ H0)(h:ROk g M ρ H0 H v r):∃M',Ext M0 H0 M' H/\(∀a,M a->M' a)/\Rep g M' ρ env σ H/\Is H (vmsk g M' r.fr ρ r.al) r.d v:=by
 cases r with
 |val d fr al=>exact⟨M,x,λ_ z=>z,rep,h⟩
 |new ds fr=>obtain⟨a,vs,rfl,h1,h2,h3,h4,h5⟩:=h;have z0:g.H₀ a=none:=h0.free h3;exact⟨λb=>M b\/b=a,⟨λb z=>.inl (x.m b z),x.h,λb z=>z.elim (x.n b) λe=>.inr (e▸h3)⟩,λ_=>.inl,rep.more h1 z0 h4,a,vs,rfl,.inl ⟨h1,.inl ⟨.inr rfl,λ_=>z0⟩⟩,IsAll.weak (λb z=>.inl (msk.mono (λ_=>.inl) z)) h5⟩
 |mG d=>obtain⟨T,ht,is⟩:=h;exact⟨λb=>M b\/T b,⟨λb z=>.inl (x.m b z),x.h,λb z=>z.elim (x.n b) λe=>.inr (ht b e).2.1⟩,λ_=>.inl,rep.F0 λa z=>let ⟨a1,a2,a3,a4⟩:=ht a z;⟨a3,h0.free a2,a4⟩,Is.weak (λb z=>.inl ⟨.inr z,λ_=>h0.free (ht b z).2.1⟩) is⟩
theorem ROk.lg(h:Is H (vmsk g M fr ρ al) d v):ROk g M ρ H0 H v (lg d fr al):=by
 unfold L3.lg;split
 .exact Is.flat (by assumption) h
 .exact h
def ROk.back(s:Same H1 H0)(h:ROk g M ρ H0 H v r):ROk g M ρ H1 H v r:=by
 cases r with
 |val d fr al=>exact h
 |new ds fr=>obtain⟨a,vs,rfl,h1,h2,h3,h4,h5⟩:=h;exact⟨a,vs,rfl,h1,h2,s.free h3,h4,h5⟩
 |mG d=>obtain⟨T,ht,is⟩:=h;exact⟨T,λa z=>let ⟨a1,a2,a3⟩:=ht a z;⟨a1,s.free a2,a3⟩,is⟩
end
def GJ(mg:Str->Option RE)(E:XK)(g:Gd)(c:Str):Prop:=∀cls dx H',mg c=some cls->Same g.H₀ H'->E cls dx H'
section
variable(mg:Str->Option RE)(E:XK)(g:Gd)(M:Addr->Prop)(ρ:Pr)(env:En)(σ:St)(H:Hp)
def PostE(Q:VK):Res R->Prop
 |.stuck=>False
 |.exc c=>GJ mg E g c
 |.ok r=>∀v M' H',Ext M H M' H'->Rep g M' ρ env σ H'->ROk g M' ρ H H' v r->Q v H'
def bz(rs:List R):Bool:=rs.all R.fr
def bR(rs:List R):List Nat:=rs.flatMap R.al
def PostA(Q:List V->Hp->Prop):Res (List R)->Prop
 |.stuck=>False
 |.exc c=>GJ mg E g c
 |.ok rs=>∀vs M' H',Ext M H M' H'->Rep g M' ρ env σ H'->IsAll H' (vmsk g M' (bz rs) ρ (bR rs)) (rs.map R.d) vs->Q vs H'
noncomputable def PostT(Q:Bool->Hp->Prop):Res Bool->Prop
 |.stuck=>False
 |.exc c=>GJ mg E g c
 |.ok b=>∀M' H',Ext M H M' H'->Rep g M' ρ env σ H'->Q b H'
end
def Snd(mg:Str->Option RE)(E:XK)(t:TE)(f:En->Res R):Prop:=∀g M ρ env σ H Q,Rep g M ρ env σ H->PostE mg E g M ρ env σ H Q (f env)->t σ H Q
def SndA(mg:Str->Option RE)(E:XK)(t:TA)(f:En->Res (List R)):Prop:=∀g M ρ env σ H Q,Rep g M ρ env σ H->PostA mg E g M ρ env σ H Q (f env)->t σ H Q
def SndT(mg:Str->Option RE)(E:XK)(t:TT)(f:En->Res Bool):Prop:=∀g M ρ env σ H Q,Rep g M ρ env σ H->PostT mg E g M ρ env σ H Q (f env)->t σ H Q
def PD(X:Cx)(E:XK)(e:Expr)(f:En->Res R):Prop:=∃t,PE X e t/\Snd X.mg E t f
def AJ(X:Cx)(E:XK)(es:List Expr)(f:En->Res (List R)):Prop:=∃t,PA X es t/\SndA X.mg E t f
def BY(X:Cx)(E:XK)(e:Expr)(f:En->Res Bool):Prop:=∃t,PT X e t/\SndT X.mg E t f
def PWD(X:Cx)(E:XK)(e:Expr)(f:En->Res Bool):Prop:=∃t,PW X e t/\SndT X.mg E t f
theorem PWD.pt(h:PWD X E e f):BY X E e f:=let ⟨t,a,b⟩:=h;⟨t,a.pt,b⟩
section
def PostE.ext(e:Ext M H M' H')(p:PostE mg E g M ρ env σ H Q r):PostE mg E g M' ρ env σ H' Q r:=by
 cases r with
 |stuck=>exact p
 |exc c=>exact p
 |ok r=>exact λv M2 H2 e2 rep2 ro=>p v M2 H2 (e.trans e2) rep2 (ro.back e.h)
def PostA.ext(e:Ext M H M' H')(p:PostA mg E g M ρ env σ H Q r):PostA mg E g M' ρ env σ H' Q r:=by
 cases r with
 |stuck=>exact p
 |exc c=>exact p
 |ok r=>exact λv M2 H2 e2=>p v M2 H2 (e.trans e2)
def PostT.ext(e:Ext M H M' H')(p:PostT mg E g M ρ env σ H Q r):PostT mg E g M' ρ env σ H' Q r:=by
 cases r with
 |stuck=>exact p
 |exc c=>exact p
 |ok r=>exact λM2 H2 e2=>p M2 H2 (e.trans e2)
def PostE.val(p:PostE mg E g M ρ env σ H Q (.ok (lg d fr al)))(rep:Rep g M ρ env σ H)(h:Is H (vmsk g M fr ρ al) d v):Q v H:=p v M H (Ext.refl M H) rep (ROk.lg h)
theorem PostE.new(p:PostE mg E g M ρ env σ H Q (.ok (.new ds fr)))(rep:Rep g M ρ env σ H)(ha:H a=none)(h:IsAll H (msk g M fr) ds vs):Q (.ref a) (ck H a (.lst vs)):=by have s:Same H (ck H a (.lst vs)):=ca ha;obtain⟨h0,hm,ho⟩:=rep.free ha;exact p _ M _ ⟨λ_ z=>z,s,λ_ z=>.inl z⟩ (rep.grow s) ⟨a,vs,rfl,aY,hm,ha,ho,IsAll.same s h⟩
theorem PostE.tup(p:PostE mg E g M ρ env σ H Q (.ok (lg (.tup ds) fr al)))(rep:Rep g M ρ env σ H)(ha:H a=none)(h:IsAll H (vmsk g M fr ρ al) ds vs):Q (.ref a) (ck H a (.tup vs)):=by have s:Same H (ck H a (.tup vs)):=ca ha;exact p _ M _ ⟨λ_ z=>z,s,λ_ z=>.inl z⟩ (rep.grow s) (ROk.lg ⟨a,vs,rfl,aY,IsAll.same s h⟩)
def Snd.one{t:TE}{f:En->Res R}(h:Snd mg E t f)(rep:Rep g M ρ env σ H){α:Type}{K:R->Res α}{P:(M:Addr->Prop)->(H:Hp)->Res α->Prop}{Q:VK}
 (hp:P M H ((f env).bind K)) (hs:∀M H,P M H .stuck->False) (hx:∀M H c,P M H (.exc c)->GJ mg E g c) (he:∀M H M' H' r,Ext M H M' H'->P M H r->P M' H' r)
 (k:∀r v M' H',Ext M H M' H'->Rep g M' ρ env σ H'->Is H' (vmsk g M' r.fr ρ r.al) r.d v->P M' H' (K r)->Q v H'):t σ H Q:=by
 refine h g M ρ env σ H Q rep ?_;cases e:f env with
 |stuck=>rw[e]at hp;exact hs _ _ hp
 |exc c=>rw[e]at hp;exact hx _ _ c hp
 |ok r=>rw[e]at hp;intro v M1 H1 e1 rep1 ro;obtain⟨M2,e2,_,rep2,is⟩:=ro.is rep1 e1 rep.same;exact k r v M2 H1 e2 rep2 is (he _ _ _ _ _ e2 hp)
def Snd.gn{f:En->Res R}(h:Snd mg E t f)(rep:Rep g M ρ env σ H){K:R->Res R}(hp:PostE mg E g M ρ env σ H Q' ((f env).bind K))
 (k:∀r v M' H',Ext M H M' H'->Rep g M' ρ env σ H'->Is H' (vmsk g M' r.fr ρ r.al) r.d v->PostE mg E g M' ρ env σ H' Q' (K r)->Q v H'):t σ H Q:=
 h.one rep (P:=λM H r=>PostE mg E g M ρ env σ H Q' r) hp (λ_ _ z=>z) (λ_ _ _ z=>z) (λ_ _ _ _ _ e p=>p.ext e) k
def Snd.L6{f:En->Res R}(h:Snd mg E t f)(rep:Rep g M ρ env σ H){K:R->Res (List R)}{Q':List V->Hp->Prop}(hp:PostA mg E g M ρ env σ H Q' ((f env).bind K))
 (k:∀r v M' H',Ext M H M' H'->Rep g M' ρ env σ H'->Is H' (vmsk g M' r.fr ρ r.al) r.d v->PostA mg E g M' ρ env σ H' Q' (K r)->Q v H'):t σ H Q:=
 h.one rep (P:=λM H r=>PostA mg E g M ρ env σ H Q' r) hp (λ_ _ z=>z) (λ_ _ _ z=>z) (λ_ _ _ _ _ e p=>p.ext e) k
def Snd.As{f:En->Res R}(h:Snd mg E t f)(rep:Rep g M ρ env σ H){K:R->Res Bool}{Q':Bool->Hp->Prop}(hp:PostT mg E g M ρ env σ H Q' ((f env).bind K))
 (k:∀r v M' H',Ext M H M' H'->Rep g M' ρ env σ H'->Is H' (vmsk g M' r.fr ρ r.al) r.d v->PostT mg E g M' ρ env σ H' Q' (K r)->Q v H'):t σ H Q:=
 h.one rep (P:=λM H r=>PostT mg E g M ρ env σ H Q' r) hp (λ_ _ z=>z) (λ_ _ _ z=>z) (λ_ _ _ _ _ e p=>p.ext e) k
def Snd.Ao{fa fb:En->Res R}(ha:Snd mg E ta fa)(hb:Snd mg E tb fb)(rep:Rep g M ρ env σ H){K:R->R->Res R}{S:V->V->Hp->Prop}
 (hp:PostE mg E g M ρ env σ H Q' ((fa env).bind λra=>(fb env).bind λrb=>K ra rb))
 (k:∀ra rb x y M' H',Rep g M' ρ env σ H'->Is H' (vmsk g M' ra.fr ρ ra.al) ra.d x->Is H' (vmsk g M' rb.fr ρ rb.al) rb.d y->PostE mg E g M' ρ env σ H' Q' (K ra rb)->S x y H') :
 ta σ H λx H1=>tb σ H1 λy H2=>S x y H2:=
 ha.gn rep hp λra x M1 H1 e1 rep1 i1 p1=>hb.gn rep1 p1 λrb y M2 H2 e2 rep2 i2 p2=>k ra rb x y M2 H2 rep2 (i1.ext e2) i2 p2
end
noncomputable def lim:Nat:=1000000
def gJ(h:n<=lim):n<=sizeLine:=by rw[Ru];unfold lim at h;lia
def vZ(h:n<lim):n<sizeLine:=by rw[Ru];unfold lim at h;lia
def o_(ds:List D)(fr:Bool)(al:List Nat):R:=if D.aC ds then .new ds true else if al.isEmpty then .new ds fr else .val (.lst ds) fr al
section
def vmsk.nil(h:vmsk g M fr ρ [] a):msk g M fr a:=h.elim id λ⟨_,z,_⟩=>absurd z (by simp)
theorem PostE.lst(p:PostE mg E g M ρ env σ H Q (.ok (o_ ds fr al)))(rep:Rep g M ρ env σ H)(ha:H a=none)(h:IsAll H (vmsk g M fr ρ al) ds vs):Q (.ref a) (ck H a (.lst vs)):=by
 unfold o_ at p;by_cases hf:D.aC ds=true
 .rw[c5 hf]at p;exact p.new rep ha (IsAll.flat hf h)
 .rw[dS hf]at p;cases al with
  |nil=>exact PostE.new (p:=p) rep ha (IsAll.weak (λ_ z=>z.nil) h)
  |cons i al=>have p:PostE mg E g M ρ env σ H Q (.ok (.val (.lst ds) fr (i::al))):=p;have s:Same H (ck H a (.lst vs)):=ca ha;obtain⟨h0,hm,ho⟩:=rep.free ha;refine p _ (λb=>M b\/b=a) _ ⟨λ_=>.inl,s,λb z=>z.imp id λ(e:b=a)=>by grind⟩ ((rep.grow s).more aY h0 ho) ⟨a,vs,rfl,.inl ⟨aY,.inl ⟨.inr rfl,λ_=>h0⟩⟩,?_⟩;exact(IsAll.same s h).weak λb z=>z.mono λ_=>.inl
def Is.rd(h:Is H m (.lst ds) v):∃a vs,v=.ref a/\Rd H a (.lst vs)/\IsAll H m ds vs:=by obtain⟨a,vs,e,h1,h2⟩:=h;exact⟨a,vs,e,h1.imp (·.1) λ⟨o,z,_⟩=>⟨o,z⟩,h2⟩
end
section
def aj(i:Nat):En->Res R:=λenv=>match env[i]? with
 |some (some (.val d fr))=>.ok (lg d fr [])
 |some (some (.own ds fr))=>.ok (.val (.lst ds) fr [i])
 |some (some (.vL d))=>.ok (.val d true [i])
 |some (some (.pin d))=>.ok (.val d true [i])
 |some (some (.kJ d))=>.ok (.val d true [i])
 |some (some (.fix _ (.tr d)))=>.ok (.val d true [i])
 |some (some (.fix _ (.ds d)))=>.ok (.val d true [i])
 |_=>.stuck
def AK:Snd mg E (t7 i) (aj i):=by
 intro g M ρ env σ H Q rep p;unfold aj at p;cases e1:env[i]? with
 |none=>rw[e1]at p;exact p.elim
 |some o=>
  cases o with
  |none=>rw[e1]at p;exact p.elim
  |some sl=>
   obtain⟨v,ev,k⟩:=rep.slot i sl e1;rw[e1]at p;refine⟨v,ev,?_⟩;cases sl with
   |val d fr=>exact PostE.val p rep (Is.weak (λ_ z=>.inl z) k)
   |own ds fr=>obtain⟨a,vs,rfl,h1,h2,h4⟩:=k;exact p _ M H (Ext.refl M H) rep ⟨a,vs,rfl,.inl ⟨h1,.inr ⟨i,by simp,(h2 a).mpr rfl⟩⟩,IsAll.weak (λ_ z=>.inl z) h4⟩
   |vL d=>exact p _ M H (Ext.refl M H) rep (Is.weak (λa z=>.inr ⟨i,by simp,z⟩) k)
   |F9 d=>exact p.elim
   |pin d=>exact p _ M H (Ext.refl M H) rep (Is.weak (λa z=>.inr ⟨i,by simp,z⟩) k.1)
   |kJ d=>exact p _ M H (Ext.refl M H) rep (Is.weak (λa z=>.inr ⟨i,by simp,z⟩) k.1)
   |fix n q0=>
    cases q0 with
    |no=>exact p.elim
    |tr d=>exact p _ M H (Ext.refl M H) rep (Is.weak (λa z=>.inr ⟨i,by simp,z⟩) k.2)
    |ds d=>exact p _ M H (Ext.refl M H) rep (Is.weak (λa z=>.inr ⟨i,by simp,z⟩) k.2.1)
   |F_ a=>exact p.elim
   |F8 ks=>exact p.elim
def J6(h:PE X e (t7 i)):PD X E e (aj i):=⟨_,h,AK⟩
def vC(d:D):En->Res R:=λ_=>.ok (.val d true [])
def DD(h:∀H m,Is H m d v):Snd mg E (tC v) (vC d):=λg M ρ env σ H Q rep p=>p v M H (Ext.refl M H) rep (h H _)
def ag{i j pos}:PD X E (.Constant (.int i) j pos) (vC (.int i)):=⟨_,Jy,DD λ_ _=>rfl⟩
def mR{b j pos}:PD X E (.Constant (.bool b) j pos) (vC (.bl b)):=⟨_,Ml,DD λ_ _=>rfl⟩
def av{x j pos}:PD X E (.Constant (.str x) j pos) (vC (.str x)):=⟨_,Jz,DD λ_ _=>rfl⟩
def v2(op:R->R->Res R)(fa fb:En->Res R):En->Res R:=λenv=>(fa env).bind λra=>(fb env).bind λrb=>op ra rb
def n6(X:Cx)(E:XK)(f:RE->RE->Sem RE)(op:R->R->Res R):Prop:=∃r:R2,OpR X f r/\
 ∀g M ρ env σ H Q ra rb x y,Rep g M ρ env σ H->Is H (vmsk g M ra.fr ρ ra.al) ra.d x->Is H (vmsk g M rb.fr ρ rb.al) rb.d y->PostE X.mg E g M ρ env σ H Q (op ra rb)->r x y H Q
def aM(ho:n6 X E (binaryOp op) k)(ha:PD X E a fa)(hb:PD X E b fb):PD X E (.BinOp a op b pos) (v2 k fa fb):=by obtain⟨r,h1,h2⟩:=ho;obtain⟨ta,pa,sa⟩:=ha;obtain⟨tb,pb,sb⟩:=hb;exact⟨_,Mv h1 pa pb,λg M ρ env σ H Q rep p=>sa.Ao sb rep p λra rb x y M' H' rep' i1 i2 p'=>h2 g M' ρ env σ H' Q ra rb x y rep' i1 i2 p'⟩
def lh(ho:n6 X E (compareOp op) k)(ha:PD X E a fa)(hb:PD X E b fb)(hm:behindInMarks op b=false):PD X E (.Compare a [op] [b] pos) (v2 k fa fb):=by obtain⟨r,h1,h2⟩:=ho;obtain⟨ta,pa,sa⟩:=ha;obtain⟨tb,pb,sb⟩:=hb;exact⟨_,Aw h1 pa pb hm,λg M ρ env σ H Q rep p=>sa.Ao sb rep p λra rb x y M' H' rep' i1 i2 p'=>h2 g M' ρ env σ H' Q ra rb x y rep' i1 i2 p'⟩
def oI(C:Int->Int->Bool)(k:Int->Int->D)(a b:R):Res R:=match a.d,b.d with
 |.int i,.int j=>if C i j then .ok (.val (k i j) true [])else .stuck
 |_,_=>.stuck
def xH{f:RE->RE->Sem RE}{C:Int->Int->Prop}{kV:Int->Int->V}(c:Int->Int->Bool)(k:Int->Int->D)(ho:OpR X f (rI C kV))(hc:∀i j,c i j=true->C i j)(hk:∀H m i j,Is H m (k i j) (kV i j)):n6 X E f (oI c k):=by
 refine⟨_,ho,λg M ρ env σ H Q ra rb x y rep i1 i2 p=>?_⟩;unfold oI at p;cases e1:ra.d with
 |int i=>
  rw[e1]at p i1;cases e2:rb.d with
  |int j=>
   rw[e2]at p i2;cases i1;cases i2;by_cases h:c i j=true
   .simp only[h,vE]at p;exact⟨i,j,rfl,rfl,hc i j h,p _ M H (Ext.refl M H) rep (hk H _ i j)⟩
   .simp only[h]at p;exact p.elim
  |_=>rw[e2]at p;exact p.elim
 |_=>rw[e1]at p;exact p.elim
def sk{f:RE->RE->Sem RE}{kV:Int->Int->V}(k:Int->Int->D)(ho:OpR X f (Gk kV))(hk:∀H m i j,Is H m (k i j) (kV i j)):n6 X E f (oI (λ_ _=>true) k):=by refine xH (C:=λ_ _=>True) (kV:=kV) _ k (λai s σ H x y v u Q I rx ry h=>?_) (λ_ _ _=>True.intro) hk;obtain⟨i,j,a,b,_,q⟩:=h;exact ho ai s σ H x y v u Q I rx ry ⟨i,j,a,b,q⟩
def xI:R->R->Res R:=oI (λ_ _=>true) λi j=>.int (i-j)
noncomputable def DE(i j:Int):Bool:=(decide (-(2^64)<i)&&decide (i<2^64)) ||(decide (-(2^64)<j)&&decide (j<2^64))
def so:R->R->Res R:=oI DE λi j=>.int (i*j)
def GK:R->R->Res R:=oI (λ_ j=>decide (0<j)&&decide (j<1073741824)) λi j=>.int (i/j)
def ub:R->R->Res R:=oI (λ_ j=>decide (0<j)) λi j=>.int (i%j)
def pw:n6 X E (binaryOp .Sub) xI:=sk _ JM λ_ _ _ _=>rfl
def jR:n6 X E (binaryOp .Mult) so:=xH _ _ JN (λi j h=>by simp only[DE,nR,fq,gq]at h;exact h) λ_ _ _ _=>rfl
def DF:n6 X E (binaryOp .FloorDiv) GK:=xH _ _ Gn (λi j h=>by simp only[fq,gq]at h;exact h) λ_ _ _ _=>rfl
def li:n6 X E (binaryOp .Mod) ub:=xH _ _ JO (λi j h=>by simpa using h) λ_ _ _ _=>rfl
def MV:R->R->Res R:=oI (λ_ _=>true) λi j=>.bl (decide (i<j))
def C1:R->R->Res R:=oI (λ_ _=>true) λi j=>.bl (decide (i<=j))
def Pw:R->R->Res R:=oI (λ_ _=>true) λi j=>.bl (decide (j<i))
def DG:R->R->Res R:=oI (λ_ _=>true) λi j=>.bl (decide (j<=i))
def DH:n6 X E (compareOp .Lt) MV:=sk _ My λ_ _ _ _=>rfl
def uP:n6 X E (compareOp .LtE) C1:=sk _ Mz λ_ _ _ _=>rfl
def MW:n6 X E (compareOp .Gt) Pw:=sk _ MA λ_ _ _ _=>rfl
def sq:n6 X E (compareOp .GtE) DG:=sk _ MB λ_ _ _ _=>rfl
def Inv.QJ(I:L2.Inv X ai σ H s)(h:Rd H l (.lst xs)) :
 xs.length<=sizeLine/\∃(its:List RE)(n:Nat),Vals xs its/\xs.length=its.length/\s.heap.get? l=some { cls:=.type "list",data:=.seq its.toArray n }:=by
 obtain⟨z,its,n,r,e⟩:=(h.ok I.bC:ObjOk X.prog X.w H s.heap l (.lst xs));exact⟨z,its,n,r,r.length,e⟩
def MX:R2:=λx y H Q=>∃l b xs zs,x=.ref l/\y=.ref b/\Rd H l (.lst xs)/\Rd H b (.lst zs)/\xs.length+zs.length<=sizeLine/\∀p,H p=none->Q (.ref p) (ck H p (.lst (xs++zs)))
def op_catS:OpR X (binaryOp .Add) MX:=by
 intro ai s σ H x y v u Q I rx ry h;obtain⟨l,b,xs,zs,rfl,rfl,hH,hB,hz,q⟩:=h;cases rx;cases ry;obtain⟨z,its,n,r,hl,e⟩:=Inv.QJ I hH;obtain⟨z2,its2,n2,r2,hl2,e2⟩:=Inv.QJ I hB;refine PySem.P.add_list e e2 ?_ (by grind);have ea:its.toArray++its2.toArray=(its++its2).toArray:=by simp
 rw[ea];exact⟨.ref _,_,I.OF (t':=s.toks) (r.append r2) (by grind),rfl,q _ I.fresh⟩
def bn(a b:R):Res R:=match a.d,b.d with
 |.int i,.int j=>.ok (.val (.int (i+j)) true [])
 |.lst xs,.lst ys=>if xs.length+ys.length<=lim then .ok (o_ (xs++ys) (a.fr&&b.fr) (a.al++b.al))else .stuck
 |.tup xs,.tup ys=>if xs.length+ys.length<=lim/\xs≠[]then .ok (lg (.tup (xs++ys)) (a.fr&&b.fr) (a.al++b.al))else .stuck
 |.str x,.str y=>if x.length+y.length<=lim then .ok (.val (.str (x++y)) true [])else .stuck
 |_,_=>.stuck
section
def vmsk.l(h:vmsk g M f1 ρ l1 a):vmsk g M (f1&&f2) ρ (l1++l2) a:=h.imp (λz=>⟨z.1,λe=>z.2 (by grind)⟩) λ⟨i,hi,o⟩=>⟨i,by simp[hi],o⟩
def vmsk.r(h:vmsk g M f2 ρ l2 a):vmsk g M (f1&&f2) ρ (l1++l2) a:=h.imp (λz=>⟨z.1,λe=>z.2 (by grind)⟩) λ⟨i,hi,o⟩=>⟨i,by simp[hi],o⟩
end
def aR:n6 X E (binaryOp .Add) bn:=by
 refine⟨_,op_add.or (op_catS.or (op_catT.or zb)),λg M ρ env σ H Q ra rb x y rep i1 i2 p=>?_⟩;unfold bn at p;cases e1:ra.d with
 |int i=>
  rw[e1]at p i1;cases e2:rb.d with
  |int j=>rw[e2]at p i2;cases i1;cases i2;exact .inl ⟨i,j,rfl,rfl,p _ M H (Ext.refl M H) rep rfl⟩
  |_=>rw[e2]at p;exact p.elim
 |lst xs=>
  rw[e1]at p i1;cases e2:rb.d with
  |lst ys=>
   rw[e2]at p i2;obtain⟨a,vs,rfl,h1,h2⟩:=i1.rd;obtain⟨b,ws,rfl,h3,h4⟩:=i2.rd;by_cases hz:xs.length+ys.length<=lim
   .simp only[hz,vE]at p;refine .inr (.inl ⟨a,b,vs,ws,rfl,rfl,h1,h3,by rw[h2.length,h4.length];exact gJ hz,λq hq=>?_⟩);exact p.lst rep hq ((h2.weak λ_ z=>z.l).append (h4.weak λ_ z=>z.r))
   .simp only[hz,Rv]at p;exact p.elim
  |_=>rw[e2]at p;exact p.elim
 |tup xs=>
  rw[e1]at p i1;cases e2:rb.d with
  |tup ys=>
   rw[e2]at p i2;obtain⟨a,vs,rfl,h1,h2⟩:=i1;obtain⟨b,ws,rfl,h3,h4⟩:=i2;dsimp only at p;by_cases hz:xs.length+ys.length<=lim/\xs≠[]
   .rw[c5 hz]at p;have n1:vs≠[]:=λz=>hz.2 (by have:=h2.length;rw[z]at this;exact F1 this.symm);refine .inr (.inr (.inl ⟨a,b,vs,ws,rfl,rfl,SqT.of h1,SqT.of h3,n1,by rw[h2.length,h4.length];exact gJ hz.1,λz=>?_,λ_ q hq=>?_⟩))
    .have ey:ys=[]:=by have:=h4.length;rw[z]at this;exact F1 this.symm
     rw[ey,kH]at p;exact p.val rep (Is.weak (d:=.tup xs) (λ_ z=>z.l) ⟨a,vs,rfl,h1,h2⟩)
    .exact p.tup rep hq ((h2.weak λ_ z=>z.l).append (h4.weak λ_ z=>z.r))
   .rw[dS hz]at p;exact p.elim
  |_=>rw[e2]at p;exact p.elim
 |str xs=>
  rw[e1]at p i1;cases e2:rb.d with
  |str ys=>
   rw[e2]at p i2;cases i1;cases i2;by_cases hz:xs.length+ys.length<=lim
   .simp only[hz,vE]at p;exact .inr (.inr (.inr ⟨xs,ys,rfl,rfl,gJ hz,p _ M H (Ext.refl M H) rep rfl⟩))
   .simp only[hz,Rv]at p;exact p.elim
  |_=>rw[e2]at p;exact p.elim
 |_=>rw[e1]at p;exact p.elim
def gu(a b:R):Res R:=if a.d.dep<=50/\b.d.dep<=50 then .ok (.val (.bl (b6 a.d b.d)) true [])else .stuck
def DI(a b:R):Res R:=if a.d.dep<=50/\b.d.dep<=50 then .ok (.val (.bl (!b6 a.d b.d)) true [])else .stuck
def Px:R2:=λx y H Q=>∃d e m m',Is H m d x/\Is H m' e y/\(d.dep<=50/\e.dep<=50)/\Q (.bl (b6 d e)) H
def Py:R2:=λx y H Q=>∃d e m m',Is H m d x/\Is H m' e y/\(d.dep<=50/\e.dep<=50)/\Q (.bl (!b6 d e)) H
def J7(hu:X.A.units+64<cLine):OpR X (compareOp .Eq) Px:=by intro ai s σ H x y v u Q I rx ry h;obtain⟨d,e,m,m',h1,h2,hd,q⟩:=h;exact GH I.bC (by lia) (DC I.bC (A:=X.A) (n:=50) (by lia) (by lia)) hd.1 (by lia) (by lia) h1 h2 rx ry X.prog X.w X.xe _ ⟨.bl _,H,I,rfl,q⟩
def J8(hu:X.A.units+64<cLine):OpR X (compareOp .NotEq) Py:=by intro ai s σ H x y v u Q I rx ry h;obtain⟨d,e,m,m',h1,h2,hd,q⟩:=h;exact GI I.bC (by lia) (DC I.bC (A:=X.A) (n:=50) (by lia) (by lia)) hd.1 (by lia) (by lia) h1 h2 rx ry X.prog X.w X.xe _ ⟨.bl _,H,I,rfl,q⟩
def bh(hu:X.A.units+64<cLine):n6 X E (compareOp .Eq) gu:=by
 refine⟨_,J7 hu,λg M ρ env σ H Q ra rb x y rep i1 i2 p=>?_⟩;unfold gu at p;by_cases h:ra.d.dep<=50/\rb.d.dep<=50
 .rw[c5 h]at p;exact⟨_,_,_,_,i1,i2,h,p _ M H (Ext.refl M H) rep rfl⟩
 .rw[dS h]at p;exact p.elim
def sr(hu:X.A.units+64<cLine):n6 X E (compareOp .NotEq) DI:=by
 refine⟨_,J8 hu,λg M ρ env σ H Q ra rb x y rep i1 i2 p=>?_⟩;unfold DI at p;by_cases h:ra.d.dep<=50/\rb.d.dep<=50
 .rw[c5 h]at p;exact⟨_,_,_,_,i1,i2,h,p _ M H (Ext.refl M H) rep rfl⟩
 .rw[dS h]at p;exact p.elim
end
section
variable{X:Cx}
def J9(fa:En->Res R):En->Res R:=λenv=>(fa env).bind λra=>match ra.d with
 |.bl b=>.ok (.val (.bl (!b)) true [])
 |_=>.stuck
def BZ(fa fb:En->Res R):En->Res R:=λenv=>(fa env).bind λra=>match ra.d with
 |.bl true=>fb env
 |.bl false=>.ok (.val (.bl false) true [])
 |_=>.stuck
def Qy(fa fb:En->Res R):En->Res R:=λenv=>(fa env).bind λra=>match ra.d with
 |.bl true=>.ok (.val (.bl true) true [])
 |.bl false=>fb env
 |_=>.stuck
def J_(ha:PD X E a fa):PD X E (.UnaryOp .Not a pos) (J9 fa):=by
 obtain⟨ta,pa,sa⟩:=ha;refine⟨_,JF pa,λg M ρ env σ H Q rep p=>sa.gn rep p λr v M' H' e rep' i p'=>?_⟩;cases q:r.d with
 |bl b=>rw[q]at i;simp only[q]at p';cases i;exact⟨b,rfl,p' _ M' H' (Ext.refl _ _) rep' rfl⟩
 |_=>simp only[q]at p';exact p'.elim
def ss(ha:PD X E a fa):PD X E (.BoolOp op [a] pos) fa:=let ⟨t,pa,sa⟩:=ha;⟨t,JD pa,sa⟩
def v5{bj:List Expr}{fa fb:En->Res R}{pos:Pos}(ha:PD X E a fa)(hb:PD X E (.BoolOp .And (b::bj) pos) fb):PD X E (.BoolOp .And (a::b::bj) pos) (BZ fa fb):=by
 obtain⟨ta,pa,sa⟩:=ha;obtain⟨tb,pb,sb⟩:=hb;refine⟨_,JE pa pb,λg M ρ env σ H Q rep p=>sa.gn rep p λr v M' H' e rep' i p'=>?_⟩;cases q:r.d with
 |bl b=>
  rw[q]at i;simp only[q]at p';cases i;refine⟨b,rfl,?_⟩;cases b with
  |true=>exact vS (sb g M' ρ env σ H' Q rep' p')
  |false=>exact xy (p' _ M' H' (Ext.refl _ _) rep' rfl)
 |_=>simp only[q]at p';exact p'.elim
def MY{bj:List Expr}{fa fb:En->Res R}{pos:Pos}(ha:PD X E a fa)(hb:PD X E (.BoolOp .Or (b::bj) pos) fb):PD X E (.BoolOp .Or (a::b::bj) pos) (Qy fa fb):=by
 obtain⟨ta,pa,sa⟩:=ha;obtain⟨tb,pb,sb⟩:=hb;refine⟨_,Mp pa pb,λg M ρ env σ H Q rep p=>sa.gn rep p λr v M' H' e rep' i p'=>?_⟩;cases q:r.d with
 |bl b=>
  rw[q]at i;simp only[q]at p';cases i;refine⟨b,rfl,?_⟩;cases b with
  |true=>exact vS (p' _ M' H' (Ext.refl _ _) rep' rfl)
  |false=>exact xy (sb g M' ρ env σ H' Q rep' p')
 |_=>simp only[q]at p';exact p'.elim
def IE:D->Res Bool
 |.ig=>.ok false
 |.bl b=>.ok b
 |.int i=>.ok (i != 0)
 |.str y=>if y.length<=lim then .ok ((y.length:Int) != 0)else .stuck
 |.tup ds=>.ok (!ds.isEmpty)
 |.lst ds=>.ok (!ds.isEmpty)
 |.lS _ _=>.stuck
theorem Is.IE(h:Is H m d v)(e:IE d=.ok k):JS X.K v H k:=by
 cases d with
 |ig=>cases h;cases e;rfl
 |bl b=>cases h;cases e;rfl
 |int b=>cases h;cases e;rfl
 |str b=>
  cases h;unfold L3.IE at e;dsimp only at e;by_cases hl:b.length<=lim
  .rw[c5 hl]at e;cases e;exact⟨gJ hl,rfl⟩
  .rw[dS hl]at e;cases e
 |tup ds=>obtain⟨a,vs,rfl,h1,h2⟩:=h;cases e;refine .inr (.inl ⟨vs,SqT.of h1,?_⟩);have:=h2.length;cases ds<;>cases vs<;>simp_all
 |lst ds=>obtain⟨a,vs,rfl,h1,h2⟩:=h.rd;cases e;refine .inl ⟨vs,.inl h1,?_⟩;have:=h2.length;cases ds<;>cases vs<;>simp_all
 |lS ks ds=>cases e
def kQ(fa:En->Res R):En->Res Bool:=λenv=>(fa env).bind λra=>IE ra.d
def dW(ha:PD X E a fa)(he:autoParam (∀whole,isTrue a X.env whole=(do let v <- whole;standAt a.pos;holding [v] (truthy v))) RP):BY X E a (kQ fa):=by
 obtain⟨ta,pa,sa⟩:=ha;refine⟨_,C_ pa he,λg M ρ env σ H Q rep p=>sa.As rep p λr v M' H' e rep' i p'=>?_⟩;cases q:IE r.d with
 |stuck=>rw[q]at p';exact p'.elim
 |exc c=>
  exfalso;unfold IE at q
  grind
 |ok k=>rw[q]at p';exact⟨k,i.IE q,p' M' H' (Ext.refl _ _) rep'⟩
def vB(fa:En->Res R):En->Res Bool:=λenv=>(fa env).bind λra=>match ra.d with
 |.bl b=>.ok b
 |_=>.stuck
def az(ho:n6 X E (compareOp op) k)(ha:PD X E a fa)(hb:PD X E b fb)(hm:behindInMarks op b=false):BY X E (.Compare a [op] [b] pos) (vB (v2 k fa fb)):=by
 obtain⟨r,h1,h2⟩:=ho;obtain⟨ta,pa,sa⟩:=ha;obtain⟨tb,pb,sb⟩:=hb;have S:Snd X.mg E (Me r ta tb) (v2 k fa fb):=λg M ρ env σ H Q rep p=>sa.Ao sb rep p λra rb x y M' H' rep' i1 i2 p'=>h2 g M' ρ env σ H' Q ra rb x y rep' i1 i2 p';refine⟨_,Gp h1 pa pb hm,λg M ρ env σ H Q rep p=>S.As rep p λr v M' H' e rep' i p'=>?_⟩;cases q:r.d with
 |bl b=>rw[q]at i;simp only[q]at p';cases i;exact⟨b,rfl,p' M' H' (Ext.refl _ _) rep'⟩
 |_=>simp only[q]at p';exact p'.elim
def mI(fa:En->Res Bool):En->Res Bool:=λenv=>(fa env).bind λb=>.ok (!b)
def su(fa fb:En->Res Bool):En->Res Bool:=λenv=>(fa env).bind λb=>if b then fb env else .ok false
def xJ(fa fb:En->Res Bool):En->Res Bool:=λenv=>(fa env).bind λb=>if b then .ok true else fb env
section
def SndT.As{f:En->Res Bool}(h:SndT mg E t f)(rep:Rep g M ρ env σ H){K:Bool->Res Bool}{Q':Bool->Hp->Prop}{Q:Bool->Hp->Prop}(hp:PostT mg E g M ρ env σ H Q' ((f env).bind K))
 (k:∀b M' H',Ext M H M' H'->Rep g M' ρ env σ H'->PostT mg E g M' ρ env σ H' Q' (K b)->Q b H'):t σ H Q:=by
 refine h g M ρ env σ H Q rep ?_;cases e:f env with
 |stuck=>rw[e]at hp;exact hp
 |exc c=>rw[e]at hp;exact hp
 |ok b=>rw[e]at hp;exact λM1 H1 e1 rep1=>k b M1 H1 e1 rep1 (PostT.ext e1 hp)
def SndT.gn{f:En->Res Bool}(h:SndT mg E t f)(rep:Rep g M ρ env σ H){K:Bool->Res R}{Q:Bool->Hp->Prop}(hp:PostE mg E g M ρ env σ H Q' ((f env).bind K))
 (k:∀b M' H',Ext M H M' H'->Rep g M' ρ env σ H'->PostE mg E g M' ρ env σ H' Q' (K b)->Q b H'):t σ H Q:=by
 refine h g M ρ env σ H Q rep ?_;cases e:f env with
 |stuck=>rw[e]at hp;exact hp
 |exc c=>rw[e]at hp;exact hp
 |ok b=>rw[e]at hp;exact λM1 H1 e1 rep1=>k b M1 H1 e1 rep1 (PostE.ext e1 hp)
end
def c7(ha:BY X E a fa):BY X E (.UnaryOp .Not a pos) (mI fa):=by obtain⟨ta,pa,sa⟩:=ha;exact⟨_,JC pa,λg M ρ env σ H Q rep p=>sa.As rep p λb M' H' e rep' p'=>p' M' H' (Ext.refl _ _) rep'⟩
def jo(ha:BY X E a fa):PWD X E (.BoolOp .And [a] pos) fa:=let ⟨t,pa,sa⟩:=ha;⟨t,Gf pa,sa⟩
def d_(ha:BY X E a fa):PWD X E (.BoolOp .Or [a] pos) fa:=let ⟨t,pa,sa⟩:=ha;⟨t,JA pa,sa⟩
def l9{bj:List Expr}{fa fb:En->Res Bool}{pos:Pos}(ha:BY X E a fa)(hb:PWD X E (.BoolOp .And (b::bj) pos) fb):PWD X E (.BoolOp .And (a::b::bj) pos) (su fa fb):=by
 obtain⟨ta,pa,sa⟩:=ha;obtain⟨tb,pb,sb⟩:=hb;refine⟨_,JB pa pb,λg M ρ env σ H Q rep p=>sa.As rep p λb M' H' e rep' p'=>?_⟩;cases b with
 |true=>exact vS (sb g M' ρ env σ H' Q rep' p')
 |false=>exact xy (p' M' H' (Ext.refl _ _) rep')
def eI{bj:List Expr}{fa fb:En->Res Bool}{pos:Pos}(ha:BY X E a fa)(hb:PWD X E (.BoolOp .Or (b::bj) pos) fb):PWD X E (.BoolOp .Or (a::b::bj) pos) (xJ fa fb):=by
 obtain⟨ta,pa,sa⟩:=ha;obtain⟨tb,pb,sb⟩:=hb;refine⟨_,Mm pa pb,λg M ρ env σ H Q rep p=>sa.As rep p λb M' H' e rep' p'=>?_⟩;cases b with
 |true=>exact vS (p' M' H' (Ext.refl _ _) rep')
 |false=>exact xy (sb g M' ρ env σ H' Q rep' p')
def OR(fc:En->Res Bool)(fa fb:En->Res R):En->Res R:=λenv=>(fc env).bind λb=>if b then fa env else fb env
def IF(hc:BY X E c fc)(ha:PD X E a fa)(hb:PD X E b fb):PD X E (.IfExp c a b pos) (OR fc fa fb):=by
 obtain⟨tc,pc,sc⟩:=hc;obtain⟨ta,pa,sa⟩:=ha;obtain⟨tb,pb,sb⟩:=hb;refine⟨_,C4 pc pa pb,λg M ρ env σ H Q rep p=>sc.gn rep p λb M' H' e rep' p'=>?_⟩;cases b with
 |true=>exact vS (sa g M' ρ env σ H' Q rep' p')
 |false=>exact xy (sb g M' ρ env σ H' Q rep' p')
def uc(a b:R):Res R:=match a.d,b.d with
 |.lst xs,.int i=>match b0 xs i with
  |some d=>.ok (lg d a.fr a.al)
  |none=>.stuck
 |.tup xs,.int i=>match b0 xs i with
  |some d=>.ok (lg d a.fr a.al)
  |none=>.stuck
 |.str z,.int i=>if z.length<=lim then(match b0 z.cps.toList i with
  |some c=>.ok (.val (.str ⟨#[c]⟩) true [])
  |none=>.stuck)else .stuck
 |_,_=>.stuck
theorem IsAll.b0(h:IsAll H m ds vs)(e:L2.b0 ds i=some d):∃v,L2.b0 vs i=some v/\Is H m d v:=by
 unfold L2.b0 at e ⊢;rw[h.length];cases q:t8 ds.length i with
 |none=>rw[q]at e;cases e
 |some j=>rw[q]at e;exact h.get e
def IG:∃r:R2,IxR X r/\∀g M ρ env σ H Q ra rb x y,Rep g M ρ env σ H->Is H (vmsk g M ra.fr ρ ra.al) ra.d x->Is H (vmsk g M rb.fr ρ rb.al) rb.d y->PostE X.mg E g M ρ env σ H Q (uc ra rb)->r x y H Q:=by
 refine⟨_,JZ,λg M ρ env σ H Q ra rb x y rep i1 i2 p=>?_⟩;unfold uc at p;cases e1:ra.d with
 |lst xs=>
  rw[e1]at p i1;cases e2:rb.d with
  |int i=>
   rw[e2]at p i2;cases i2;obtain⟨a,vs,rfl,h1,h2⟩:=i1.rd;cases q:b0 xs i with
   |none=>simp only[q]at p;exact p.elim
   |some d=>simp only[q]at p;obtain⟨v,ev,iv⟩:=h2.b0 q;exact .inl ⟨a,vs,i,v,rfl,rfl,.inl h1,ev,p.val rep iv⟩
  |_=>rw[e2]at p;exact p.elim
 |tup xs=>
  rw[e1]at p i1;cases e2:rb.d with
  |int i=>
   rw[e2]at p i2;cases i2;obtain⟨a,vs,rfl,h1,h2⟩:=i1;cases q:b0 xs i with
   |none=>simp only[q]at p;exact p.elim
   |some d=>simp only[q]at p;obtain⟨v,ev,iv⟩:=h2.b0 q;exact .inr (.inl ⟨a,vs,i,v,rfl,rfl,SqT.of h1,ev,p.val rep iv⟩)
  |_=>rw[e2]at p;exact p.elim
 |str z=>
  rw[e1]at p i1;cases e2:rb.d with
  |int i=>
   rw[e2]at p i2;cases i1;cases i2;by_cases hz:z.length<=lim
   .simp only[hz,vE]at p;cases q:b0 z.cps.toList i with
    |none=>simp only[q]at p;exact p.elim
    |some c=>simp only[q]at p;exact .inr (.inr ⟨z,i,c,rfl,rfl,gJ hz,q,p _ M H (Ext.refl _ _) rep rfl⟩)
   .simp only[hz,Rv]at p;exact p.elim
  |_=>rw[e2]at p;exact p.elim
 |_=>rw[e1]at p;exact p.elim
def lj(ha:PD X E a fa)(hb:PD X E b fb)(hs:rD b):PD X E (.Subscript a b pos) (v2 uc fa fb):=by obtain⟨r,h1,h2⟩:=IG (X:=X) (E:=E);obtain⟨ta,pa,sa⟩:=ha;obtain⟨tb,pb,sb⟩:=hb;exact⟨_,De h1 pa pb hs,λg M ρ env σ H Q rep p=>sa.Ao sb rep p λra rb x y M' H' rep' i1 i2 p'=>h2 g M' ρ env σ H' Q ra rb x y rep' i1 i2 p'⟩
def aE(i:Nat)(fb:En->Res R):En->Res R:=λenv=>match env[i]? with
 |some (some (.own ds fr))=>(fb env).bind λrb=>match rb.d with
  |.int k=>match b0 ds k with
   |some d=>.ok (lg d fr [])
   |none=>.stuck
  |_=>.stuck
 |_=>v2 uc (aj i) fb env
def ap(ha:PE X a (t7 i))(hb:PD X E b fb)(hs:rD b):PD X E (.Subscript a b pos) (aE i fb):=by
 obtain⟨r,h1,h2⟩:=IG (X:=X) (E:=E);obtain⟨tb,pb,sb⟩:=hb;refine⟨_,De (ix_list.or h1) ha pb hs,λg M ρ env σ H Q rep p=>?_⟩;have gen:PostE X.mg E g M ρ env σ H Q (v2 uc (aj i) fb env)->Me (λx y H Q=>JX X.K x y H Q\/r x y H Q) (t7 i) tb σ H Q:=λp=>Snd.Ao AK sb rep p λra rb x y M' H' rep' i1 i2 p'=>.inr (h2 g M' ρ env σ H' Q ra rb x y rep' i1 i2 p');unfold aE at p;cases e1:env[i]? with
 |none=>rw[e1]at p;exact gen p
 |some o=>
  cases o with
  |none=>rw[e1]at p;exact gen p
  |some sl=>
   cases sl with
   |val d fr=>rw[e1]at p;exact gen p
   |vL d=>rw[e1]at p;exact gen p
   |F9 d=>rw[e1]at p;exact gen p
   |pin d=>rw[e1]at p;exact gen p
   |kJ d=>rw[e1]at p;exact gen p
   |fix n q0=>rw[e1]at p;exact gen p
   |F_ a=>rw[e1]at p;exact gen p
   |F8 ks=>rw[e1]at p;exact gen p
   |own ds fr=>
    rw[e1]at p;obtain⟨v,ev,a,vs,rfl,k1,k2,k4⟩:=rep.slot i _ e1;refine⟨_,ev,sb.gn rep p λrb y M' H' e rep' i2 p'=>?_⟩;cases q:rb.d with
    |int k=>
     rw[q]at i2;simp only[q]at p';cases i2;cases q2:b0 ds k with
     |none=>simp only[q2]at p';exact p'.elim
     |some d=>simp only[q2]at p';have k5:IsAll H' (vmsk g M' fr ρ []) ds vs:=(IsAll.weak (λ_ z=>.inl z) k4:IsAll H (vmsk g M fr ρ []) ds vs).ext e;obtain⟨w,ew,iw⟩:=k5.b0 q2;exact .inl ⟨a,vs,k,w,rfl,rfl,.inl (.inl (e.h _ _ k1)),ew,p'.val rep' iw⟩
    |_=>simp only[q]at p';exact p'.elim
end
section
def SndA.one{t:TA}{f:En->Res (List R)}(h:SndA mg E t f)(rep:Rep g M ρ env σ H){α:Type}{K:List R->Res α}{P:(M:Addr->Prop)->(H:Hp)->Res α->Prop}{Q:List V->Hp->Prop}
 (hp:P M H ((f env).bind K)) (hs:∀M H,P M H .stuck->False) (hx:∀M H c,P M H (.exc c)->GJ mg E g c) (he:∀M H M' H' r,Ext M H M' H'->P M H r->P M' H' r)
 (k:∀rs vs M' H',Ext M H M' H'->Rep g M' ρ env σ H'->IsAll H' (vmsk g M' (bz rs) ρ (bR rs)) (rs.map R.d) vs->P M' H' (K rs)->Q vs H'):t σ H Q:=by
 refine h g M ρ env σ H Q rep ?_;cases e:f env with
 |stuck=>rw[e]at hp;exact hs _ _ hp
 |exc c=>rw[e]at hp;exact hx _ _ c hp
 |ok r=>rw[e]at hp;exact λvs M1 H1 e1 rep1 is=>k r vs M1 H1 e1 rep1 is (he _ _ _ _ _ e1 hp)
def SndA.gn{f:En->Res (List R)}(h:SndA mg E t f)(rep:Rep g M ρ env σ H){K:List R->Res R}{Q:List V->Hp->Prop}(hp:PostE mg E g M ρ env σ H Q' ((f env).bind K))
 (k:∀rs vs M' H',Ext M H M' H'->Rep g M' ρ env σ H'->IsAll H' (vmsk g M' (bz rs) ρ (bR rs)) (rs.map R.d) vs->PostE mg E g M' ρ env σ H' Q' (K rs)->Q vs H'):t σ H Q:=
 h.one rep (P:=λM H r=>PostE mg E g M ρ env σ H Q' r) hp (λ_ _ z=>z) (λ_ _ _ z=>z) (λ_ _ _ _ _ e p=>p.ext e) k
def SndA.L6{f:En->Res (List R)}(h:SndA mg E t f)(rep:Rep g M ρ env σ H){K:List R->Res (List R)}{Q':List V->Hp->Prop}{Q:List V->Hp->Prop}(hp:PostA mg E g M ρ env σ H Q' ((f env).bind K))
 (k:∀rs vs M' H',Ext M H M' H'->Rep g M' ρ env σ H'->IsAll H' (vmsk g M' (bz rs) ρ (bR rs)) (rs.map R.d) vs->PostA mg E g M' ρ env σ H' Q' (K rs)->Q vs H'):t σ H Q:=
 h.one rep (P:=λM H r=>PostA mg E g M ρ env σ H Q' r) hp (λ_ _ z=>z) (λ_ _ _ z=>z) (λ_ _ _ _ _ e p=>p.ext e) k
def IsAll.args(h1:Is H (vmsk g M r.fr ρ r.al) r.d v)(h2:IsAll H (vmsk g M (bz rs) ρ (bR rs)) (rs.map R.d) vs) :
 IsAll H (vmsk g M (bz (r::rs)) ρ (bR (r::rs))) ((r::rs).map R.d) (v::vs):=by
 refine⟨v,vs,rfl,h1.weak λa z=>?_,h2.weak λa z=>?_⟩
 .exact(z.l:vmsk g M (r.fr&&bz rs) ρ (r.al++bR rs) a)
 .exact(z.r:vmsk g M (r.fr&&bz rs) ρ (r.al++bR rs) a)
end
section
noncomputable def ao:En->Res (List R):=λ_=>.ok []
def ac(f:En->Res R)(fs:En->Res (List R)):En->Res (List R):=λenv=>(f env).bind λr=>(fs env).bind λrs=>.ok (r::rs)
def af:AJ X E [] ao:=⟨_,gI,λg M ρ env σ H Q rep p=>p [] M H (Ext.refl _ _) rep rfl⟩
def aa(he:PD X E e f)(hr:AJ X E es fs)(hs:autoParam (starEach (e::es) X.env=(false,eval e X.env)::starEach es X.env) RQ):AJ X E (e::es) (ac f fs):=by obtain⟨t,p1,s1⟩:=he;obtain⟨u,p2,s2⟩:=hr;refine⟨_,d9 p1 p2 hs,λg M ρ env σ H Q rep p=>s1.L6 rep p λr v M1 H1 e1 rep1 i1 q1=>s2.L6 rep1 q1 λrs vs M2 H2 e2 rep2 i2 q2=>?_⟩;exact q2 (v::vs) M2 H2 (Ext.refl _ _) rep2 (IsAll.args (i1.ext e2) i2)
def bg(fs:En->Res (List R)):En->Res R:=λenv=>(fs env).bind λrs=>if rs.length<=lim then .ok (lg (.tup (rs.map R.d)) (bz rs) (bR rs))else .stuck
def aF(h:AJ X E es fs):PD X E (.Tuple es k pos) (bg fs):=by
 obtain⟨t,p1,s1⟩:=h;refine⟨_,JU p1,λg M ρ env σ H Q rep p=>s1.gn rep p λrs vs M1 H1 e1 rep1 i1 q1=>?_⟩;by_cases hl:rs.length<=lim
 .rw[c5 hl]at q1;exact⟨by rw[i1.length,bH];exact gJ hl,λa ha=>q1.tup rep1 ha i1⟩
 .rw[dS hl]at q1;exact q1.elim
def cH(fs:En->Res (List R)):En->Res R:=λenv=>(fs env).bind λrs=>if rs.length<=lim then .ok (o_ (rs.map R.d) (bz rs) (bR rs))else .stuck
def a_(h:AJ X E es fs):PD X E (.List es pos) (cH fs):=by
 obtain⟨t,p1,s1⟩:=h;refine⟨_,Da p1,λg M ρ env σ H Q rep p=>s1.gn rep p λrs vs M1 H1 e1 rep1 i1 q1=>?_⟩;by_cases hl:rs.length<=lim
 .rw[c5 hl]at q1;exact⟨by rw[i1.length,bH];exact gJ hl,λa ha=>q1.lst rep1 ha i1⟩
 .rw[dS hl]at q1;exact q1.elim
end
def nl(H0 H':Hp)(a:Addr):Prop:=H0 a=none/\Mu H' a
def RetOk(g:Gd)(H':Hp)(v:V):R->Prop
 |.val d fr _=>Is H' (λa=>nl g.H₀ H' a\/(fr=false/\g.Ma a)) d v
 |.new ds fr=>∃a vs,v=.ref a/\H' a=some (.lst vs)/\g.H₀ a=none/\IsAll H' (λb=>b≠a/\(nl g.H₀ H' b\/(fr=false/\g.Ma b))) ds vs
 |.mG d=>Is H' (nl g.H₀ H') d v
def MZ(mg:Str->Option RE)(E:XK)(g:Gd)(Q:VK):Res R->Prop
 |.stuck=>False
 |.exc c=>GJ mg E g c
 |.ok r=>∀v H',Same g.H₀ H'->RetOk g H' v r->Q v H'
def iZ(mg:Str->Option RE)(n:Nat)(F:List D->Res R):Sp:=λvs H Q E=>vs.length=n/\∃ds Ma,IsAll H Ma ds vs/\MZ mg E (MU H Ma) Q (F ds)
def F5(d:D)(fr:Bool)(rs:List R):R:=if d.flat then .val d true []else if fr then .mG d else .val d (bz rs) (bR rs)
def fA(rs:List R):R->R
 |.val d fr _=>F5 d fr rs
 |.new ds fr=>if D.aC ds then .new ds true else if fr then .mG (.lst ds)else if(bR rs).isEmpty then .new ds (bz rs)else .val (.lst ds) (bz rs) (bR rs)
 |.mG d=>F5 d true rs
section
def Rep.came(rep:Rep g M ρ env σ H)(s:Same H H')(p:Addr->Prop):Rep g (λa=>M a\/(nl H H' a/\p a)) ρ env σ H':=(rep.grow s).F0 λa z=>⟨z.1.2,rep.same.free z.1.1,(rep.free z.1.1).2.2⟩
def DJ(rs:List R)(rep:Rep g M ρ env σ H)(s:Same H H')(h:Is H' (λa=>nl H H' a\/(fr=false/\vmsk g M (bz rs) ρ (bR rs) a)) d v) :
 ∃M',Ext M H M' H'/\Rep g M' ρ env σ H'/\ROk g M' ρ H H' v (F5 d fr rs):=by
 unfold F5;by_cases hf:d.flat=true
 .rw[c5 hf];exact⟨M,⟨λ_ z=>z,s,λ_ z=>.inl z⟩,rep.grow s,Is.flat hf h⟩
 .rw[dS hf];cases fr with
  |true=>
   refine⟨M,⟨λ_ z=>z,s,λ_ z=>.inl z⟩,rep.grow s,nl H H',λa z=>?_,?_⟩
   .exact⟨λw=>rep.mO a w z.1,z.1,z.2,(rep.free z.1).2.2⟩
   .exact Is.weak (λa z=>z.elim id λw=>by cases w.1) h
  |false=>
   refine⟨_,⟨λ_=>.inl,s,λ_ z=>z.imp id (·.1.1)⟩,rep.came s λ_=>True,?_⟩;refine Is.weak (λa z=>?_) h;rcases z with z|⟨_,z⟩
   .exact .inl ⟨.inr ⟨z,True.intro⟩,λ_=>rep.same.free z.1⟩
   .exact z.mono λ_=>.inl
def RetOk.caller(rs:List R)(rep:Rep g M ρ env σ H)(s:Same H H')(h:RetOk (MU H (vmsk g M (bz rs) ρ (bR rs))) H' v r) :
 ∃M',Ext M H M' H'/\Rep g M' ρ env σ H'/\ROk g M' ρ H H' v (fA rs r):=by
 cases r with
 |val d fr al=>exact DJ rs rep s h
 |mG d=>exact DJ rs rep s (Is.weak (λa z=>.inl z) h)
 |new ds fr=>
  obtain⟨a,vs,rfl,h1,h2,h3⟩:=h;have h2:H a=none:=h2;obtain⟨f0,f1,f2⟩:=rep.free h2;have R1:Rep g (λb=>M b\/(nl H H' b/\b≠a)) ρ env σ H':=rep.came s λb=>b≠a;have nm:¬(M a\/(nl H H' a/\a≠a)):=λz=>z.elim f1 λz=>z.2 rfl;have X1:Ext M H (λb=>M b\/(nl H H' b/\b≠a)) H':=⟨λ_=>.inl,s,λ_ z=>z.imp id (·.1.1)⟩;unfold fA;dsimp only;by_cases hfl:D.aC ds=true
  .rw[c5 hfl];exact⟨_,X1,R1,a,vs,rfl,h1,nm,h2,f2,IsAll.flat hfl h3⟩
  .rw[dS hfl];cases fr with
   |true=>
    refine⟨M,⟨λ_ z=>z,s,λ_ z=>.inl z⟩,rep.grow s,nl H H',λa z=>?_,?_⟩
    .exact⟨λw=>rep.mO a w z.1,z.1,z.2,(rep.free z.1).2.2⟩
    .exact⟨a,vs,rfl,.inl ⟨h1,h2,Mu.lst h1⟩,IsAll.weak (λb z=>z.2.elim id λw=>by cases w.1) h3⟩
   |false=>
    simp only[Rk,Rv];by_cases hc:(bR rs).isEmpty=true
    .rw[c5 hc];refine⟨_,X1,R1,a,vs,rfl,h1,nm,h2,f2,?_⟩;refine IsAll.weak (λb z=>?_) h3;rcases z with⟨nb,z|⟨hf,z⟩⟩
     .exact⟨.inr ⟨z,nb⟩,λ_=>rep.same.free z.1⟩
     .have hl:bR rs=[]:=by simpa using hc
      have z:vmsk g M (bz rs) ρ (bR rs) b:=z;rw[hl]at z;exact⟨.inl z.nil.1,z.nil.2⟩
    .rw[dS hc];refine⟨λb=>(M b\/(nl H H' b/\b≠a))\/b=a,⟨λ_ z=>.inl (.inl z),s,λb z=>z.elim (X1.n b) λe=>.inr (e▸h2)⟩,R1.more h1 f0 f2,a,vs,rfl,.inl ⟨h1,.inl ⟨.inr rfl,λ_=>f0⟩⟩,?_⟩;refine IsAll.weak (λb z=>?_) h3;rcases z with⟨nb,z|⟨hf,z⟩⟩
     .exact .inl ⟨.inl (.inr ⟨z,nb⟩),λ_=>rep.same.free z.1⟩
     .exact vmsk.mono (λ_ w=>.inl (.inl w)) z
end
section
variable{X:Cx}{ps:List Str}
def aN(F:List D->Res R)(fs:En->Res (List R)):En->Res R:=λenv=>(fs env).bind λrs=>(F (rs.map R.d)).bind λr=>.ok (fA rs r)
def DL(hl:∀env rs,fs env=.ok rs->rs.length=ps.length)(s:SndA X.mg E t fs):Snd X.mg E (IC (iZ X.mg ps.length F) [] E t) (aN F fs):=by
 intro g M ρ env σ H Q rep p;refine s g M ρ env σ H _ rep ?_;unfold aN at p;cases e:fs env with
 |stuck=>rw[e]at p;exact p
 |exc c=>rw[e]at p;exact p
 |ok rs=>
  rw[e]at p;intro vs M1 H1 e1 rep1 is;have p1:PostE X.mg E g M1 ρ env σ H1 Q ((F (rs.map R.d)).bind λr=>.ok (fA rs r)):=PostE.ext e1 p;rw[kH];refine⟨by rw[is.length,bH];exact hl env rs e,rs.map R.d,_,is,?_⟩;cases q:F (rs.map R.d)with
  |stuck=>rw[q]at p1;exact p1
  |exc c=>rw[q]at p1;exact λcls dx H' h1 h2=>p1 cls dx H' h1 (rep1.same.trans h2)
  |ok r=>rw[q]at p1;intro v H2 s2 ro;obtain⟨M3,e3,rep3,ro3⟩:=RetOk.caller rs rep1 s2 ro;exact p1 v M3 H2 e3 rep3 ro3
def GL(G:bE X.prog X.w X.K X.mg X.base CX k f fd ps (iZ X.mg ps.length F))(hr:kh k X.A)(hg:Gl X x)(hm:X.mg x=some (.ref f))(hk:keepIn X.K (.ref f)=true)(hb:Binds X.K fd ps [])(hx:ph CX X E)
 (ha:AJ X E (e::es) fs) (hl:∀env rs,fs env=.ok rs->rs.length=ps.length) (hdb:autoParam (dB x) RN) (he:autoParam (sE X e es) RQ) (hpl:autoParam (bT X pos es) RQ) :
 PD X E (.Call (.Name x p) (e::es) [] pos) (aN F fs):=by
 obtain⟨t,p1,s1⟩:=ha;exact⟨_,Gr G hr hg hm hk hb .nil hx p1 hdb he hpl,DL hl s1⟩
def aq:∀env rs,ao env=.ok rs->rs.length=0:=λ_ _ e=>by cases e;rfl
def ae{f:En->Res R}{fs:En->Res (List R)}(h:∀env rs,fs env=.ok rs->rs.length=n):∀env rs,ac f fs env=.ok rs->rs.length=n+1:=λenv rs e=>by
 unfold ac at e;cases q:f env with
 |stuck=>rw[q]at e;cases e
 |exc c=>rw[q]at e;cases e
 |ok r=>
  rw[q]at e;cases q2:fs env with
  |stuck=>simp only[Res.je,q2]at e;cases e
  |exc c=>simp only[Res.je,q2]at e;cases e
  |ok rs'=>simp only[Res.je,q2]at e;cases e;simp[h env rs' q2]
def jp(X:Cx)(E:XK)(f:RE)(k:List R->Res R):Prop:=∃r,CallR X f r/\
 ∀g M ρ env σ H Q rs vs,Rep g M ρ env σ H->IsAll H (vmsk g M (bz rs) ρ (bR rs)) (rs.map R.d) vs->PostE X.mg E g M ρ env σ H Q (k rs)->r vs H Q
def gR(k:List R->Res R)(fs:En->Res (List R)):En->Res R:=λenv=>(fs env).bind k
def aQ{id:String}{k:List R->Res R}(hc:jp X E (.builtin id) k) (hg:Gl X x) (hm:X.mg x=none) (hv:bootBuiltins x=some (.builtin id)) (ha:AJ X E (e::es) fs) (hn:autoParam (x≠"__name__") RN) (hdb:autoParam (dB x) RN)
 (he:autoParam (starEach (e::es) X.env=(false,eval e X.env)::starEach es X.env) RQ) (hpl:autoParam (bT X pos es) RQ):PD X E (.Call (.Name x p) (e::es) [] pos) (gR k fs):=by
 obtain⟨r,h1,h2⟩:=hc;obtain⟨t,p1,s1⟩:=ha;exact⟨_,rT h1 hg hm hv p1 hn hdb he hpl,λg M ρ env σ H Q rep p=>s1.gn rep p λrs vs M1 H1 e1 rep1 i1 q1=>h2 g M1 ρ env σ H1 Q rs vs rep1 i1 q1⟩
def fY{k:List R->Res R}(hc:jp X E (.type T) k) (hg:Gl X x) (hm:X.mg x=none) (hv:bootBuiltins x=some (.type T)) (ha:AJ X E (e::es) fs) (hn:autoParam (x≠"__name__") RN) (hdb:autoParam (dB x) RN)
 (he:autoParam (starEach (e::es) X.env=(false,eval e X.env)::starEach es X.env) RQ) (hpl:autoParam (bT X pos es) RQ):PD X E (.Call (.Name x p) (e::es) [] pos) (gR k fs):=by
 obtain⟨r,h1,h2⟩:=hc;obtain⟨t,p1,s1⟩:=ha;exact⟨_,uH h1 hg hm hv p1 hn hdb he hpl,λg M ρ env σ H Q rep p=>s1.gn rep p λrs vs M1 H1 e1 rep1 i1 q1=>h2 g M1 ρ env σ H1 Q rs vs rep1 i1 q1⟩
def db:List R->Res R
 |[r]=>match r.d with
  |.lst ds=>.ok (.val (.int ds.length) true [])
  |.tup ds=>.ok (.val (.int ds.length) true [])
  |.str z=>if z.length<=lim then .ok (.val (.int z.length) true [])else .stuck
  |_=>.stuck
 |_=>.stuck
def bx:jp X E (.builtin "len") db:=by
 refine⟨_,call_len_seq.or vQ,λg M ρ env σ H Q rs vs rep i p=>?_⟩;rcases rs with _|⟨r,_|_⟩
 .exact p.elim
 rotate_left
 .exact p.elim
 obtain⟨v,w,rfl,i1,i2⟩:=i;cases i2;have i1:Is H (vmsk g M (bz [r]) ρ (bR [r])) r.d v:=i1;unfold db at p;dsimp only at p;cases q:r.d with
 |lst ds=>rw[q]at p i1;obtain⟨a,ws,rfl,h1,h2⟩:=i1.rd;exact .inl ⟨a,ws,rfl,.inl (.inl h1),by rw[h2.length];exact p _ M H (Ext.refl _ _) rep rfl⟩
 |tup ds=>rw[q]at p i1;obtain⟨a,ws,rfl,h1,h2⟩:=i1;exact .inl ⟨a,ws,rfl,.inr (SqT.of h1),by rw[h2.length];exact p _ M H (Ext.refl _ _) rep rfl⟩
 |str z=>
  rw[q]at p i1;cases i1;by_cases hz:z.length<=lim
  .simp only[hz,vE]at p;exact .inr ⟨z,rfl,gJ hz,p _ M H (Ext.refl _ _) rep rfl⟩
  .simp only[hz,Rv]at p;exact p.elim
 |_=>rw[q]at p;exact p.elim
def xK:List R->Res R
 |[r]=>match r.d with
  |.lst ds=>.ok (o_ ds r.fr r.al)
  |.tup ds=>.ok (o_ ds r.fr r.al)
  |_=>.stuck
 |_=>.stuck
def rE(h:vmsk g M (bz [r]) ρ (bR [r]) a):vmsk g M r.fr ρ r.al a:=by
 have e1:bz [r]=r.fr:=by simp[bz]
 have e2:bR [r]=r.al:=by simp[bR]
 rw[e1,e2]at h;exact h
def GM:jp X E (.type "list") xK:=by
 refine⟨_,vR,λg M ρ env σ H Q rs vs rep i p=>?_⟩;rcases rs with _|⟨r,_|_⟩
 .exact p.elim
 rotate_left
 .exact p.elim
 obtain⟨v,w,rfl,i1,i2⟩:=i;cases i2;have i1:Is H (vmsk g M (bz [r]) ρ (bR [r])) r.d v:=i1;replace i1:=i1.weak λ_ z=>rE z;unfold xK at p;dsimp only at p;cases q:r.d with
 |lst ds=>rw[q]at p i1;obtain⟨a,ws,rfl,h1,h2⟩:=i1.rd;exact⟨a,ws,rfl,.inl (.inl h1),λl hl=>p.lst rep hl h2⟩
 |tup ds=>rw[q]at p i1;obtain⟨a,ws,rfl,h1,h2⟩:=i1;exact⟨a,ws,rfl,.inr (SqT.of h1),λl hl=>p.lst rep hl h2⟩
 |_=>rw[q]at p;exact p.elim
end
inductive Fl where
 |nx (env:En)|rt (r:R)|bk (env:En)|ct (env:En)|rm (r:R) (env:En)
structure nU(M:Addr->Prop) (H:Hp) (M':Addr->Prop) (H':Hp):Prop where
 m:∀a,M a->M' a
 h:∀a o,H a=some o->(M a\/gP o)->H' a=some o
def nU.refl(M:Addr->Prop)(H:Hp):nU M H M H:=⟨λ_ z=>z,λ_ _ e _=>e⟩
def nU.trans{M M1 M2:Addr->Prop}(a:nU M H M1 H1)(b:nU M1 H1 M2 H2):nU M H M2 H2:=⟨λx z=>b.m x (a.m x z),λx o e z=>b.h x o (a.h x o e z) (z.imp (a.m x) id)⟩
def Ext.cQ(e:Ext M H M' H'):nU M H M' H':=⟨e.m,λa o q _=>e.h a o q⟩
section
variable(mg:Str->Option RE)(E:XK)(g:Gd)(M:Addr->Prop)(H:Hp)(D:Ends)
def PostS:Res Fl->Prop
 |.stuck=>False
 |.exc c=>GJ mg E g c
 |.ok (.nx env)=>∀σ M' ρ H',nU M H M' H'->Rep g M' ρ env σ H'->D.nx σ H'
 |.ok (.bk env)=>∀σ M' ρ H',nU M H M' H'->Rep g M' ρ env σ H'->D.bk σ H'
 |.ok (.ct env)=>∀σ M' ρ H',nU M H M' H'->Rep g M' ρ env σ H'->D.ct σ H'
 |.ok (.rt r)=>∀v M' H',nU M H M' H'->Same g.H₀ H'->((∀a,¬g.Z a)->RetOk g H' v r)->(r.d.flat=true->Is H' (λ_=>False) r.d v)->D.rt v H'
 |.ok (.rm r env)=>∀v σ M' ρ H0 H',nU M H M' H'->Rep g M' ρ env σ H'->Same g.H₀ H0->ROk g M' ρ H0 H' v r->D.rt v H'
end
def GN(mg:Str->Option RE)(E:XK)(t:TS)(f:En->Res Fl):Prop:=∀g M ρ env σ H D,Rep g M ρ env σ H->PostS mg E g M H D (f env)->t D σ H
def yW(X:Cx)(E:XK)(st:Stmt)(f:En->Res Fl):Prop:=∃t,PS X st t/\GN X.mg E t f
def xL(X:Cx)(E:XK)(st:List Stmt)(f:En->Res Fl):Prop:=∃t,Gc X st t/\GN X.mg E t f
section
variable{D:Ends}
def PostS.cQ(e:nU M H M' H')(p:PostS mg E g M H D r):PostS mg E g M' H' D r:=by
 cases r with
 |stuck=>exact p
 |exc c=>exact p
 |ok r=>cases r with
  |nx env=>exact λσ M2 ρ2 H2 e2=>p σ M2 ρ2 H2 (e.trans e2)
  |bk env=>exact λσ M2 ρ2 H2 e2=>p σ M2 ρ2 H2 (e.trans e2)
  |ct env=>exact λσ M2 ρ2 H2 e2=>p σ M2 ρ2 H2 (e.trans e2)
  |rt r=>exact λv M2 H2 e2=>p v M2 H2 (e.trans e2)
  |rm r env=>exact λv σ M2 ρ2 H0 H2 e2=>p v σ M2 ρ2 H0 H2 (e.trans e2)
def Snd.rB{f:En->Res R}(h:Snd mg E t f)(rep:Rep g M ρ env σ H){K:R->Res Fl}(hp:PostS mg E g M H D ((f env).bind K))
 (k:∀r v M' H',Ext M H M' H'->Rep g M' ρ env σ H'->ROk g M' ρ H H' v r->PostS mg E g M' H' D (K r)->Q v H'):t σ H Q:=by
 refine h g M ρ env σ H Q rep ?_;cases e:f env with
 |stuck=>rw[e]at hp;exact hp
 |exc c=>rw[e]at hp;exact hp
 |ok r=>rw[e]at hp;exact λv M1 H1 e1 rep1 ro=>k r v M1 H1 e1 rep1 ro (PostS.cQ e1.cQ hp)
def SndT.rB{f:En->Res Bool}(h:SndT mg E t f)(rep:Rep g M ρ env σ H){K:Bool->Res Fl}{Q:Bool->Hp->Prop}(hp:PostS mg E g M H D ((f env).bind K))
 (k:∀b M' H',nU M H M' H'->Rep g M' ρ env σ H'->PostS mg E g M' H' D (K b)->Q b H'):t σ H Q:=by
 refine h g M ρ env σ H Q rep ?_;cases e:f env with
 |stuck=>rw[e]at hp;exact hp
 |exc c=>rw[e]at hp;exact hp
 |ok r=>rw[e]at hp;exact λM1 H1 e1 rep1=>k r M1 H1 e1.cQ rep1 (PostS.cQ e1.cQ hp)
noncomputable def M7(ρ:Pr)(i:Nat):Pr:=λj a=>if j=i then False else ρ j a
def zl(h:j≠i):M7 ρ i j=ρ j:=by funext a;unfold M7;rw[dS h]
def sw(h:M7 ρ i j a):j≠i/\ρ j a:=by grind [M7]
noncomputable def v6(ρ:Pr)(i:Nat)(T:Addr->Prop):Pr:=λj a=>if j=i then T a else ρ j a
def gw(h:j≠i):v6 ρ i T j=ρ j:=by funext a;unfold v6;rw[dS h]
def i7:v6 ρ i T i=T:=by funext a;unfold v6;rw[c5 rfl]
def c_(env:En)(i:Nat):En:=match env[i]? with
 |some (some (.own ds fr))=>env.set i (some (.val (.lst ds) fr))
 |some (some (.vL d))=>env.set i (some (.val d true))
 |some (some (.F9 _))=>env.set i none
 |some (some (.F8 _))=>env.set i none
 |some (some (.pin d))=>env.set i (some (.val d true))
 |some (some (.kJ d))=>env.set i (some (.val d true))
 |some (some (.fix _ (.tr d)))=>env.set i (some (.val d true))
 |some (some (.fix _ (.ds d)))=>env.set i (some (.val d true))
 |_=>env
def cQ(env:En)(al:List Nat):En:=al.foldl c_ env
def v7(h:j≠i):(c_ env i)[j]?=env[j]?:=by unfold c_;split<;>first|rfl|exact gj (kF h)
def xM(i:Nat):(c_ env i).length=env.length:=by unfold c_;split<;>simp
theorem DM:∀(al:List Nat){env:En}{j:Nat},¬j∈al->(cQ env al)[j]?=env[j]?
 |[],_,_,_=>rfl
 |i::al,env,j,h=>by show(cQ (c_ env i) al)[j]?=_;rw[DM al λz=>h (by simp[z]),v7 λz=>h (by simp[z])]
theorem v8:∀(al:List Nat)(env:En),(cQ env al).length=env.length
 |[],_=>rfl
 |i::al,env=>by show(cQ (c_ env i) al).length=_;rw[v8 al,xM]
theorem Rep.c_(rep:Rep g M ρ env σ H)(i:Nat):Rep g (λa=>M a\/ρ i a) (M7 ρ i) (c_ env i) σ H where
 same:=rep.same
 mO:=λb hb=>hb.elim (rep.mO b) λz=>(rep.bQ i b z).2.2.some
 y0:=λb hb=>hb.elim (rep.y0 b) λz=>.inl (rep.bQ i b z).2.1
 fl:=λb hb h0=>hb.elim (λz=>rep.fl b z h0) λz=>.inl (rep.bQ i b z).2.2
 slot:=λj sl ej=>by
  by_cases hj:j=i
  .subst hj;cases e:env[j]? with
   |none=>
    have:L3.c_ env j=env:=by unfold L3.c_;rw[e]
    rw[this,e]at ej;cases ej
   |some o=>
    have hi:j<env.length:=(cD.mp e).1;cases o with
    |none=>
     have:L3.c_ env j=env:=by unfold L3.c_;rw[e]
     rw[this,e]at ej;cases ej
    |some s0=>
     obtain⟨v,ev,k⟩:=rep.slot j s0 e;cases s0 with
     |val d fr=>
      have:L3.c_ env j=env:=by unfold L3.c_;rw[e]
      rw[this,e]at ej;cases ej;exact⟨v,ev,Is.weak (λb z=>msk.mono (λ_=>.inl) z) k⟩
     |own ds fr=>
      have:L3.c_ env j=env.set j (some (.val (.lst ds) fr)):=by unfold L3.c_;rw[e]
      rw[this,dR hi]at ej;cases ej;obtain⟨a,vs,rfl,h1,h2,h4⟩:=k;have ha:=(h2 a).mpr rfl;exact⟨_,ev,a,vs,rfl,.inl ⟨h1,.inr ha,λ_=>(rep.bQ j a ha).2.1⟩,IsAll.weak (λb z=>msk.mono (λ_=>.inl) z) h4⟩
     |vL d=>
      have:L3.c_ env j=env.set j (some (.val d true)):=by unfold L3.c_;rw[e]
      rw[this,dR hi]at ej;cases ej;exact⟨v,ev,Is.weak (λb z=>⟨.inr z,λ_=>(rep.bQ j b z).2.1⟩) k⟩
     |F9 d=>
      have:L3.c_ env j=env.set j none:=by unfold L3.c_;rw[e]
      rw[this,dR hi]at ej;cases ej
     |pin d=>
      have:L3.c_ env j=env.set j (some (.val d true)):=by unfold L3.c_;rw[e]
      rw[this,dR hi]at ej;cases ej;exact⟨v,ev,Is.weak (λb z=>⟨.inr z,λ_=>(rep.bQ j b z).2.1⟩) k.1⟩
     |kJ d=>
      have:L3.c_ env j=env.set j (some (.val d true)):=by unfold L3.c_;rw[e]
      rw[this,dR hi]at ej;cases ej;exact⟨v,ev,Is.weak (λb z=>⟨.inr z,λ_=>(rep.bQ j b z).2.1⟩) k.1⟩
     |fix n q0=>
      cases q0 with
      |no=>
       have:L3.c_ env j=env:=by unfold L3.c_;rw[e]
       rw[this,e]at ej;cases ej;exact⟨v,ev,k.1,True.intro⟩
      |tr d=>
       have:L3.c_ env j=env.set j (some (.val d true)):=by unfold L3.c_;rw[e]
       rw[this,dR hi]at ej;cases ej;exact⟨v,ev,Is.weak (λb z=>⟨.inr z,λ_=>(rep.bQ j b z).2.1⟩) k.2⟩
      |ds d=>
       have:L3.c_ env j=env.set j (some (.val d true)):=by unfold L3.c_;rw[e]
       rw[this,dR hi]at ej;cases ej;exact⟨v,ev,Is.weak (λb z=>⟨.inr z,λ_=>(rep.bQ j b z).2.1⟩) k.2.1⟩
     |F8 ks=>
      have:L3.c_ env j=env.set j none:=by unfold L3.c_;rw[e]
      rw[this,dR hi]at ej;cases ej
     |F_ a=>
      have:L3.c_ env j=env:=by unfold L3.c_;rw[e]
      rw[this,e]at ej;cases ej;exact⟨v,ev,k⟩
  .rw[v7 hj]at ej;obtain⟨v,ev,k⟩:=rep.slot j sl ej;exact⟨v,ev,by rw[zl hj];exact SlOk.weak (λ_=>.inl) k⟩
 bQ:=λj a h=>by obtain⟨hj,h⟩:=sw h;exact⟨λz=>z.elim (rep.bQ j a h).1 λz=>hj (rep.apart j i a h z),(rep.bQ j a h).2⟩
 apart:=λj k a h1 h2=>rep.apart j k a (sw h1).2 (sw h2).2
 ow:=λj a h=>by obtain⟨hj,h⟩:=sw h;have:=rep.ow j a h;unfold i6 at this ⊢;rw[v7 hj];exact this
 len:=by rw[xM];exact rep.len
 zz:=rep.zz
theorem Rep.cQ:∀(al:List Nat){env:En}{M:Addr->Prop}{ρ:Pr},Rep g M ρ env σ H->∃(M':Addr->Prop)(ρ':Pr),(∀a,M a->M' a)/\Rep g M' ρ' (L3.cQ env al) σ H/\(∀i,i∈al->∀a,ρ i a->M' a)/\(∀j a,ρ' j a->ρ j a)/\(∀j,¬j∈al->ρ' j=ρ j)
 |[],env,M,ρ,rep=>⟨M,ρ,λ_ z=>z,rep,λ_ z=>absurd z (by simp),λ_ _ o=>o,λ_ _=>rfl⟩
 |i::al,env,M,ρ,rep=>by
  obtain⟨M2,ρ2,e2,rep2,o2,k2,l2⟩:=Rep.cQ al (rep.c_ i);refine⟨M2,ρ2,λa z=>e2 a (.inl z),rep2,λj hj a o=>?_,λj a o=>(sw (k2 j a o)).2,λj hj=>?_⟩
  .by_cases hji:j=i
   .exact e2 a (.inr (hji▸o))
   .exact o2 j ((cB.mp hj).resolve_left hji) a (by rw[zl hji];exact o)
  .rw[l2 j λz=>hj (by simp[z]),zl λz=>hj (by simp[z])]
def Is.frozen(rep:Rep g M ρ env σ H)(e:∀a,M a->M' a)(hm:∀i,i∈al->∀a,ρ i a->M' a)(h:Is H (vmsk g M fr ρ al) d v):Is H (msk g M' fr) d v:=h.weak λa z=>z.elim (msk.mono e) λ⟨i,hi,o⟩=>⟨hm i hi a o,λ_=>(rep.bQ i a o).2.1⟩
def Rep.put(rep:Rep g M ρ env σ H)(hi:i<env.length)(ok:SlOk g M T H v sl)(ht:∀a,T a->¬M a/\g.H₀ a=none/\Mu H a/\∀j,j≠i->¬ρ j a)(hO:autoParam (∀a,T a->sl.OZ=true) RK._auto_1) :
 Rep g M (v6 ρ i T) (env.set i (some sl)) (σ.set i (some v)) H:=by
 have hi2:i<σ.length:=by rw[<- rep.len];exact hi
 refine⟨rep.same,rep.mO,rep.y0,rep.fl,λj s ej=>?_,λj a h=>?_,λj k a h1 h2=>?_,λj a h=>?_,by rw[lT,lT];exact rep.len,rep.zz⟩
 .by_cases hj:j=i
  .subst hj;rw[dR hi]at ej;cases ej;exact⟨v,dR hi2,by rw[i7];exact ok⟩
  .rw[gj (kF hj)]at ej;obtain⟨w,ew,k⟩:=rep.slot j s ej;exact⟨w,by rw[gj (kF hj)];exact ew,by rw[gw hj];exact k⟩
 .by_cases hj:j=i
  .subst hj;rw[i7]at h;exact⟨(ht a h).1,(ht a h).2.1,(ht a h).2.2.1⟩
  .rw[gw hj]at h;exact rep.bQ j a h
 .by_cases hj:j=i
  .by_cases hk:k=i
   .rw[hj,hk]
   .subst hj;rw[i7]at h1;rw[gw hk]at h2;exact absurd h2 ((ht a h1).2.2.2 k hk)
  .by_cases hk:k=i
   .subst hk;rw[i7]at h2;rw[gw hj]at h1;exact absurd h1 ((ht a h2).2.2.2 j hj)
   .rw[gw hj]at h1;rw[gw hk]at h2;exact rep.apart j k a h1 h2
 .unfold i6;by_cases hj:j=i
  .subst hj;rw[i7]at h;rw[dR hi];exact hO a h
  .rw[gw hj]at h;rw[gj (kF hj)];exact rep.ow j a h
def put(env:En)(i:Nat):R->En
 |.new ds fr=>env.set i (some (.own ds fr))
 |.val d fr al=>(cQ env al).set i (some (.val d fr))
 |.mG d=>env.set i (some (.vL d))
def Rep.store(rep:Rep g M ρ env σ H)(h0:Same g.H₀ H0)(hi:i<env.length)(h:ROk g M ρ H0 H v r):∃M' ρ',nU M H M' H/\Rep g M' ρ' (L3.put env i r) (σ.set i (some v)) H:=by
 cases r with
 |new ds fr=>obtain⟨a,vs,rfl,h1,h2,h3,h4,h5⟩:=h;exact⟨M,_,nU.refl _ _,rep.put (sl:=.own ds fr) (T:=λb=>b=a) hi ⟨a,vs,rfl,h1,λ_=>Iff.rfl,h5⟩ λb e=>by subst e;exact⟨h2,h0.free h3,Mu.lst h1,λj _=>h4 j⟩⟩
 |val d fr al=>obtain⟨M1,ρ1,e1,rep1,o1,k1,_⟩:=Rep.cQ al rep;exact⟨M1,_,⟨e1,λ_ _ e _=>e⟩,rep1.put (sl:=.val d fr) (T:=λ_=>False) (by rw[v8];exact hi) (Is.frozen rep e1 o1 h) (λ_ z=>z.elim) λ_ z=>z.elim⟩
 |mG d=>obtain⟨T,ht,is⟩:=h;exact⟨M,_,nU.refl _ _,rep.put (sl:=.vL d) (T:=T) hi is λb z=>let ⟨a1,a2,a3,a4⟩:=ht b z;⟨a1,h0.free a2,a3,λj _=>a4 j⟩⟩
def Rep.LZ(hu:MT u')(rep:Rep g M ρ env σ H)(o:ρ i a)(hi:i<env.length)(ev:σ[i]?=some (some v))(ok:SlOk g M (ρ i) (ck H a u') v sl)(hO:autoParam (sl.OZ=true) RQ) :
 nU M H M (ck H a u')/\Rep g M ρ (env.set i (some sl)) σ (ck H a u'):=by
 obtain⟨nm,n0,uo,ha,hmu⟩:=rep.bQ i a o;have nfx:∀u,H a=some u->¬gP u:=λu e z=>by rw[ha]at e;cases e;cases uo<;>first|exact z|exact hmu
 have kp:∀b u,H b=some u->(M b\/gP u)->ck H a u' b=some u:=λb u q z=>by grind [aJ]
 have km:∀(fr:Bool) b u,H b=some u->(msk g M fr b\/gP u)->ck H a u' b=some u:=λfr b u q z=>kp b u q (z.imp (·.1) id);refine⟨⟨λ_ z=>z,kp⟩,λb u q=>?_,λb hb=>?_,rep.y0,λb hb h0=>?_,λj s ej=>?_,λj b h=>?_,rep.apart,λj b h=>?_,by rw[lT];exact rep.len,λc z e=>by
  by_cases hc:c=a
  .subst hc;rw[aY]at e;cases e
  .rw[aJ hc]at e;exact rep.zz c z e⟩
 .rw[aJ (λz=>by rw[z,n0]at q;cases q)];exact rep.same b u q
 .have nb:b≠a:=λz=>nm (by rw[<- z];exact hb);rw[aJ nb];exact rep.mO b hb
 .have nb:b≠a:=λz=>nm (by rw[<- z];exact hb);exact(rep.fl b hb h0).same λo e=>by rw[aJ nb];exact e
 .by_cases hj:j=i
  .grind
  .rw[gj (kF hj)]at ej;obtain⟨w,ew,k⟩:=rep.slot j s ej;refine⟨w,ew,?_⟩;have nj:∀b,ρ j b->b≠a:=λb hb e=>hj (rep.apart j i a (e▸hb) o);cases s with
   |val d fr=>exact Is.mono (km fr) (λ_ _ _ z=>z) k
   |own ds' fr'=>obtain⟨b,ws,rfl,h1,h2,h4⟩:=k;exact⟨b,ws,rfl,by rw[aJ (nj b ((h2 b).mpr rfl))];exact h1,h2,IsAll.mono (km fr') (λ_ _ _ z=>z) h4⟩
   |vL d=>
    refine Is.mono (λb u q z=>?_) (λ_ _ _ z=>z) k
    grind [aJ]
   |F9 d=>refine IsSh.mono (λb u q z=>kp b u q (.inr z)) (λb ws z q=>⟨ws,by rw[aJ (nj b z)];exact q⟩) (λ_ z=>z) k
   |pin d=>
    refine⟨Is.mono (λb u q z=>?_) (λ_ _ _ z=>z) k.1,k.2⟩
    grind [aJ]
   |kJ d=>
    refine⟨Is.mono (λb u q z=>?_) (λ_ _ _ z=>z) k.1,k.2.mono (λb u z q=>by rw[aJ (nj b z)];exact q) λ_ z=>z⟩
    grind [aJ]
   |fix n q0=>
    refine⟨k.1,k.2.mono λb u q z=>?_⟩
    grind [aJ]
   |F_ a=>exact k
   |F8 ks=>
    refine xG (λb u q z=>?_) k
    grind [aJ]
 .obtain⟨b1,b2,b3⟩:=rep.bQ j b h;refine⟨b1,b2,?_⟩;by_cases e:b=a
  .exact⟨u',by rw[e,aY],hu⟩
  .exact b3.same λo z=>by rw[aJ e];exact z
 .unfold i6;by_cases hj:j=i
  .subst hj;rw[dR hi];exact hO
  .rw[gj (kF hj)];exact rep.ow j b h
def Rep.write(rep:Rep g M ρ env σ H)(o:ρ i a)(hi:i<env.length)(ev:σ[i]?=some (some v))(ok:SlOk g M (ρ i) (ck H a (.lst vs')) v sl)(hO:autoParam (sl.OZ=true) RQ) :
 nU M H M (ck H a (.lst vs'))/\Rep g M ρ (env.set i (some sl)) σ (ck H a (.lst vs')):=rep.LZ (u':=.lst vs') True.intro o hi ev ok hO
end
section
noncomputable def bu:En->Res Fl:=λenv=>.ok (.nx env)
def aG(f k:En->Res Fl):En->Res Fl:=λenv=>(f env).bind λr=>match r with
 |.nx bp=>k bp
 |r=>.ok r
def ax:xL X E [] bu:=⟨_,Gg,λg M ρ env σ H D rep p=>p σ M ρ H (nU.refl _ _) rep⟩
def ak{st:Stmt}{f:En->Res Fl}(h:yW X E st f):xL X E [st] f:=let ⟨t,a,b⟩:=h;⟨t,Gh a,b⟩
def ah{st:Stmt}{bj:List Stmt}{f k:En->Res Fl}(h1:yW X E st f)(h2:xL X E bj k):xL X E (st::bj) (aG f k):=by
 obtain⟨t,a,b⟩:=h1;obtain⟨u,c,d⟩:=h2;refine⟨_,C5 a c,λg M ρ env σ H D rep p=>b g M ρ env σ H _ rep ?_⟩;unfold aG at p;cases q:f env with
 |stuck=>rw[q]at p;exact p
 |exc c=>rw[q]at p;exact p
 |ok r=>
  rw[q]at p;cases r with
  |nx bp=>exact λσ' M' ρ' H' e rep'=>d g M' ρ' bp σ' H' D rep' (PostS.cQ e p)
  |bk bp=>exact p
  |ct bp=>exact p
  |rt r=>exact p
  |rm r bp=>exact p
def eJ(c:En->Res Bool)(a b:En->Res Fl):En->Res Fl:=λenv=>(c env).bind λk=>if k then a env else b env
def aO(hc:BY X E c fc)(ha:xL X E a fa)(hb:xL X E b fb):yW X E (.If c a b pos) (eJ fc fa fb):=by
 obtain⟨tc,p1,s1⟩:=hc;obtain⟨ta,p2,s2⟩:=ha;obtain⟨tb,p3,s3⟩:=hb;refine⟨_,Ms p1 p2 p3,λg M ρ env σ H D rep p=>s1.rB rep p λb M' H' e rep' p'=>?_⟩;cases b with
 |true=>exact vS (s2 g M' ρ env σ H' D rep' p')
 |false=>exact xy (s3 g M' ρ env σ H' D rep' p')
def aX(f:En->Res R):En->Res Fl:=λenv=>(f env).bind λr=>.ok (.rt r)
def ROk.ret(rep:Rep g M ρ env σ H)(h0:Same g.H₀ H0)(h:ROk g M ρ H0 H v r)(hz:∀a,¬g.Z a):RetOk g H v r:=by
 have mu:∀a,M a->g.H₀ a=none->Mu H a:=λa h1 h2=>(rep.fl a h1 h2).elim id λz=>(hz a z.1).elim;have key:∀{fr:Bool}{a:Addr},msk g M fr a->nl g.H₀ H a\/(fr=false/\g.Ma a):=λ{fr a} z=>by
  cases fr with
  |true=>exact .inl ⟨z.2 rfl,mu a z.1 (z.2 rfl)⟩
  |false=>exact(rep.y0 a z.1).imp (λw=>⟨w,mu a z.1 w⟩) λw=>⟨rfl,w⟩
 cases r with
 |val d fr al=>exact Is.weak (λa z=>z.elim key λ⟨i,_,o⟩=>.inl (rep.bQ i a o).2) h
 |new ds fr=>obtain⟨a,vs,rfl,h1,h2,h3,h4,h5⟩:=h;exact⟨a,vs,rfl,h1,h0.free h3,IsAll.weak (λb z=>⟨λe=>h2 (e▸z.1),key z⟩) h5⟩
 |mG d=>obtain⟨T,ht,is⟩:=h;exact Is.weak (λa z=>let ⟨_,a2,a3,_⟩:=ht a z;⟨h0.free a2,a3⟩) is
def ROk.flatIs(h:ROk g M ρ H0 H v r)(hf:r.d.flat=true):Is H (λ_=>False) r.d v:=by
 cases r with
 |val d fr al=>exact Is.flat hf h
 |new ds fr=>simp[D.flat,R.d]at hf
 |mG d=>obtain⟨T,_,is⟩:=h;exact Is.flat hf is
def au(h:PD X E e f):yW X E (.Return (some e) pos) (aX f):=by obtain⟨t,p1,s1⟩:=h;exact⟨_,JG p1,λg M ρ env σ H D rep p=>s1.rB rep p λr v M' H' e rep' ro p'=>p' v M' H' (nU.refl _ _) rep'.same (λhz=>ro.ret rep' rep.same hz) λhf=>ro.flatIs hf⟩
def bS(i:Nat)(f:En->Res R):En->Res Fl:=λenv=>(f env).bind λr=>if i<env.length then .ok (.nx (put env i r))else .stuck
def AL(s:Snd mg E t f):GN mg E (Gj t (rQ i)) (bS i f):=by
 intro g M ρ env σ H D rep p;refine s.rB rep p λr v M' H' e rep' ro p'=>?_;by_cases hi:i<env.length
 .rw[c5 hi]at p';obtain⟨M2,ρ2,e2,rep2⟩:=rep'.store rep.same hi ro;exact p' _ M2 ρ2 H' e2 rep2
 .rw[dS hi]at p';exact p'.elim
def aS(hN:X.N.Nodup)(hi:X.N[i]?=some x)(hx:Jw X.env.scope x)(h:PD X E e f)(hs:autoParam (swapsWith e (some (.Name x pos')) pos.line X.env=pure false) RQ)
 (hf:autoParam (X.fn x=true\/X.env.scope.names.lookup x=some .local) RO):yW X E (.Assign [.Name x pos'] e pos) (bS i f):=by
 obtain⟨t,p1,s1⟩:=h;exact⟨_,C6 hN hi hx p1 hs hf,AL s1⟩
def jq(env:En)(i:Nat):Option (List D×Bool):=match env[i]? with
 |some (some (.own ds fr))=>some (ds,fr)
 |some (some (.vL (.lst ds)))=>some (ds,true)
 |_=>none
mutual
noncomputable def D.sz:D->Nat
 |.tup ds=>D.Mj ds+1
 |.lst ds=>D.Mj ds+1
 |.lS _ ds=>D.Mj ds+1
 |_=>0
noncomputable def D.Mj:List D->Nat
 |[]=>0
 |d::ds=>d.sz+D.Mj ds+1
end
section
mutual
theorem Is.avoid(ha:Is H m' e (.ref a)):∀{d:D}{v:V},d.sz<e.sz->Is H m d v->Is H (λb=>m b/\b≠a) d v
 |.ig,_,_,h=>h
 |.bl _,_,_,h=>h
 |.int _,_,_,h=>h
 |.str _,_,_,h=>h
 |.tup ds,_,hs,h=>by obtain⟨b,vs,rfl,h1,h2⟩:=h;simp only[D.sz]at hs;exact⟨b,vs,rfl,h1,IsAll.avoid ha (by lia) h2⟩
 |.lst ds,_,hs,h=>by
  have h':=h;obtain⟨b,vs,rfl,h1,h2⟩:=h;have nb:b≠a:=λz=>by subst z;have q:=Is.inj h' ha;rw[q]at hs;lia
  simp only[D.sz]at hs;refine⟨b,vs,rfl,?_,IsAll.avoid ha (by lia) h2⟩;rcases h1 with⟨h1,h3⟩|⟨o,h1,h3⟩
  .exact .inl ⟨h1,h3,nb⟩
  .exact .inr ⟨o,h1,h3,nb⟩
 |.lS ks ds,_,hs,h=>by
  have h':=h;obtain⟨b,kvs,rfl,h1,h2⟩:=h;have nb:b≠a:=λz=>by subst z;have q:=Is.inj h' ha;rw[q]at hs;lia
  simp only[D.sz]at hs;exact⟨b,kvs,rfl,⟨h1.1,h1.2,nb⟩,IsAll.avoid ha (by lia) h2⟩
theorem IsAll.avoid(ha:Is H m' e (.ref a)):∀{ds:List D}{vs:List V},D.Mj ds<e.sz->IsAll H m ds vs->IsAll H (λb=>m b/\b≠a) ds vs
 |[],_,_,h=>h
 |d::ds,_,hs,h=>by obtain⟨v,r,rfl,h1,h2⟩:=h;simp only[D.Mj]at hs;exact⟨v,r,rfl,Is.avoid ha (by lia) h1,IsAll.avoid ha (by lia) h2⟩
end
end
def Rep.vI(rep:Rep g M ρ env σ H)(e:jq env i=some (ds,fr)) :
 ∃(M':Addr->Prop)(ρ':Pr)(a:Addr)(vs:List V),(∀b,M b->M' b)/\Rep g M' ρ' (env.set i (some (.own ds fr))) σ H/\σ[i]?=some (some (.ref a))/\H a=some (.lst vs)/\(∀b,ρ' i b↔b=a)/\IsAll H (msk g M' fr) ds vs/\i<env.length/\(∀j b,ρ' j b->ρ j b)/\(∀j,j≠i->ρ' j=ρ j):=by
 unfold jq at e;cases q:env[i]? with
 |none=>rw[q]at e;cases e
 |some o=>
  have hi:i<env.length:=(cD.mp q).1;have hself:env.set i (env[i])=env:=yU hi;cases o with
  |none=>rw[q]at e;cases e
  |some sl=>
   obtain⟨v,ev,k⟩:=rep.slot i sl q;rw[q]at e;cases sl with
   |val d f=>cases e
   |F9 d=>cases e
   |pin d=>cases e
   |kJ d=>cases e
   |fix n q0=>cases e
   |F_ a=>cases e
   |F8 ks=>cases e
   |own ds' f'=>
    cases e;obtain⟨a,vs,rfl,h1,h2,h4⟩:=k;have eq:env.set i (some (.own ds fr))=env:=by
     have:env[i]=some (.own ds fr):=by have:=(cD.mp q).2;exact this
     rw[<- this];exact hself
    rw[eq];exact⟨M,ρ,a,vs,λ_ z=>z,rep,ev,h1,h2,h4,hi,λ_ _ z=>z,λ_ _=>rfl⟩
   |vL d=>
    cases d with
    |lst ds'=>
     cases e;have k':=k;obtain⟨a,vs,rfl,h1,h2⟩:=k;have pa:ρ i a:=by rcases h1 with⟨_,z⟩|⟨_,_,z⟩<;>exact z
     obtain⟨pm,p0,uo,pl,pmu⟩:=rep.bQ i a pa;have hl:H a=some (.lst vs):=by
      rcases h1 with⟨h1,_⟩|⟨o,h1,_⟩
      .exact h1
      .rw[h1]at pl;cases pl;exact pmu.elim
     have inner:IsAll H (λb=>ρ i b/\b≠a) ds vs:=IsAll.avoid k' (by simp only[D.sz];lia) h2
     let M':Addr->Prop:=λb=>M b\/(ρ i b/\b≠a)
     let ρ':Pr:=v6 ρ i λb=>b=a
     have rr:Rep g M' ρ' (env.set i (some (.own ds true))) (σ.set i (some (.ref a))) H:=by
      have r1:Rep g M' (λj b=>if j=i then b=a else ρ j b) (env.set i (some (.own ds true))) σ H:=by
       refine⟨rep.same,λb hb=>hb.elim (rep.mO b) λz=>?_,λb hb=>hb.elim (rep.y0 b) λz=>.inl (rep.bQ i b z.1).2.1,λb hb h0=>hb.elim (λz=>rep.fl b z h0) λz=>.inl (rep.bQ i b z.1).2.2,λj s ej=>?_,λj b h=>?_,λj k b w1 w2=>?_,λj b h=>?_,by rw[lT];exact rep.len,rep.zz⟩
       .exact(rep.bQ i b z.1).2.2.some
       .by_cases hj:j=i
        .subst hj;rw[dR hi]at ej;cases ej;exact⟨_,ev,a,vs,rfl,hl,λb=>by simp,IsAll.weak (λb z=>⟨.inr z,λ_=>(rep.bQ j b z.1).2.1⟩) inner⟩
        .rw[gj (kF hj)]at ej;obtain⟨v',ev',k2⟩:=rep.slot j s ej;have eT:(λb=>if j=i then b=a else ρ j b)=ρ j:=by funext b;rw[dS hj]
         exact⟨v',ev',by show SlOk g M' (λb=>if j=i then b=a else ρ j b) H v' s;rw[eT];exact SlOk.weak (λ_=>.inl) k2⟩
       .by_cases hj:j=i
        .rw[c5 hj]at h;subst h;exact⟨λz=>z.elim pm λz=>z.2 rfl,p0,Mu.lst hl⟩
        .rw[dS hj]at h;exact⟨λz=>z.elim (rep.bQ j b h).1 λz=>hj (rep.apart j i b h z.1),(rep.bQ j b h).2⟩
       .by_cases hj:j=i
        .by_cases hk:k=i
         .rw[hj,hk]
         .rw[c5 hj]at w1;rw[dS hk]at w2;subst w1;exact absurd (rep.apart k i b w2 pa) hk
        .by_cases hk:k=i
         .rw[c5 hk]at w2;rw[dS hj]at w1;subst w2;exact absurd (rep.apart j i b w1 pa) hj
         .rw[dS hj]at w1;rw[dS hk]at w2;exact rep.apart j k b w1 w2
       .unfold i6;by_cases hj:j=i
        .subst hj;rw[dR hi];rfl
        .rw[dS hj]at h;rw[gj (kF hj)];exact rep.ow j b h
      have hi2:i<σ.length:=by rw[<- rep.len];exact hi
      have es:σ.set i (some (.ref a))=σ:=by have:σ[i]=some (.ref a):=(cD.mp ev).2;rw[<- this];exact yU hi2
      rw[es];exact r1
     have hi2:i<σ.length:=by rw[<- rep.len];exact hi
     have es:σ.set i (some (.ref a))=σ:=by have:σ[i]=some (.ref a):=(cD.mp ev).2;rw[<- this];exact yU hi2
     rw[es]at rr;refine⟨M',ρ',a,vs,λ_=>.inl,rr,ev,hl,λb=>by show v6 ρ i (λb=>b=a) i b↔b=a;rw[i7],IsAll.weak (λb z=>⟨.inr z,λ_=>(rep.bQ i b z.1).2.1⟩) inner,hi,λj b z=>?_,λj hj=>gw hj⟩;by_cases hj:j=i
     .subst hj;have z:v6 ρ j (λb=>b=a) j b:=z;rw[i7]at z;rw[z];exact pa
     .have z:v6 ρ i (λb=>b=a) j b:=z;rw[gw hj]at z;exact z
    |_=>cases e
def xN(i:Nat)(f:En->Res R):En->Res Fl:=λenv=>match jq env i with
 |some (ds,fr)=>(f env).bind λr=>if ds.length<lim/\¬i∈r.al then .ok (.nx ((cQ env r.al).set i (some (.own (ds++[r.d]) (fr&&r.fr)))))else .stuck
 |none=>.stuck
def rF(ha:PE X a (t7 i))(h:PD X E e f)
 (hbase:autoParam (attributeBase a "append" X.env (eval a X.env)=eval a X.env) RQ)
 (hfew:autoParam (((backTo cpos (starEach [e] X.env)).all (λx=>!x.1)&&(backToKw cpos (keywordEach [] X.env)).all (λx=>x.1.isSome)
   && decide (([e]:List Expr).length+([]:List Keyword).length+(if([]:List Keyword).isEmpty then 0 else 1)<30))=true) RQ)
 (hline:autoParam ((apos.endLine==cpos.line)=true) RQ) (hs:autoParam (starEach [e] X.env=(false,eval e X.env)::starEach [] X.env) RQ) (hplain:autoParam (bT X cpos []) RQ)
 (hsw:autoParam (swapsWith (.Call (.Attribute a "append" apos) [e] [] cpos) none pos.line X.env=pure false) RQ) :
 yW X E (.Expr (.Call (.Attribute a "append" apos) [e] [] cpos) pos) (xN i f):=by
 obtain⟨t,p1,s1⟩:=h;refine⟨_,nV (rW m_ PySem.F.slot_list_append PySem.F.type_list_append pj ha (d9 p1 gI hs) hbase hfew hline hs hplain) hsw,λg M ρ env σ H D rep p=>?_⟩;unfold xN at p;cases e1:jq env i with
 |none=>rw[e1]at p;exact p.elim
 |some o=>
  obtain⟨ds,fr⟩:=o;rw[e1]at p;dsimp only at p;obtain⟨M0,ρ0,l,vs,m0,rep0,ev,k1,k2,k4,hi,_⟩:=rep.vI e1;refine⟨_,ev,.inl ⟨rfl,vs,SqL.of k1⟩,s1.rB rep p λr y M' H' e rep' ro p'=>?_⟩;by_cases hc:ds.length<lim/\¬i∈r.al
  .rw[c5 hc]at p';obtain⟨M1,x1,x1m,rep1,is1⟩:=ro.is rep' e rep.same;obtain⟨M2,ρ2,x2,rep2,o2,k5,k6⟩:=Rep.cQ r.al rep1;have is2:Is H' (msk g M2 r.fr) r.d y:=Is.frozen rep1 x2 o2 is1;have e2:jq (cQ env r.al) i=some (ds,fr):=by unfold jq;rw[DM _ hc.2];exact e1
   obtain⟨M3,ρ3,l3,vs3,m3,rep3,ev3,j1,j2,j4,hi3,_⟩:=rep2.vI e2;rw[ev]at ev3;cases ev3;have hl:H' l=some (.lst vs):=e.h _ _ k1;rw[hl]at j1;cases j1;have pl:ρ3 i l:=(j2 l).mpr rfl;obtain⟨nl3,_⟩:=rep3.bQ i l pl;have is4:IsAll H' (msk g M3 (fr&&r.fr)) (ds++[r.d]) (vs++[y]):=by refine IsAll.snoc (IsAll.weak (λb z=>⟨z.1,λq=>z.2 (by cases fr<;>simp_all)⟩) j4) (Is.weak (λb z=>⟨m3 b z.1,λq=>z.2 (by cases fr<;>simp_all)⟩) is2)
   have kp:∀b u,H' b=some u->(msk g M3 (fr&&r.fr) b\/gP u)->ck H' l (.lst (vs++[y])) b=some u:=λb u q z=>by
    rw[aJ]
    .exact q
    .rintro rfl;rcases z with z|z
     .exact nl3 z.1
     .rw[hl]at q;cases q;exact z
   obtain⟨f1,rep4⟩:=rep3.write (sl:=.own (ds++[r.d]) (fr&&r.fr)) (vs':=vs++[y]) pl (by rw[lT];exact hi3) ev ⟨l,vs++[y],rfl,aY,j2,IsAll.mono kp (λ_ _ _ z=>z) is4⟩;rw[List.set_set]at rep4;refine⟨l,vs,y,rfl,rfl,hl,by rw[k4.length];exact vZ hc.1,?_⟩;exact p' σ M3 ρ3 _ (nU.trans ⟨λa z=>m3 a (x2 a (x1m a z)),λ_ _ q _=>q⟩ f1) rep4
  .rw[dS hc]at p';exact p'.elim
end
def Ka(ix:List Nat)(t:TG)(asg:D->Bool->En->Option En):Prop:=∀(g:Gd)(M:Addr->Prop)(ρ:Pr)(env bp:En)(σ:St)(H:Hp)(d:D)(fr:Bool)(v:V)(Q:St->Hp->Prop),
 Rep g M ρ env σ H->Is H (msk g M fr) d v->asg d fr env=some bp->(∀(σ':St)(ρ':Pr),Rep g M ρ' bp σ' H->(∀j,¬j∈ix->σ'[j]?=σ[j]?)->(∀j a,ρ' j a->ρ j a)->Q σ' H)->t v σ H Q
def M8(ix:List Nat)(t:Md)(asg:List D->Bool->En->Option En):Prop:=∀(g:Gd)(M:Addr->Prop)(ρ:Pr)(env bp:En)(σ:St)(H:Hp)(ds:List D)(fr:Bool)(vs:List V)(Q:St->Hp->Prop),
 Rep g M ρ env σ H->IsAll H (msk g M fr) ds vs->asg ds fr env=some bp->(∀(σ':St)(ρ':Pr),Rep g M ρ' bp σ' H->(∀j,¬j∈ix->σ'[j]?=σ[j]?)->(∀j a,ρ' j a->ρ j a)->Q σ' H)->t vs σ H Q
def GO(X:Cx)(ix:List Nat)(tg:Expr)(asg:D->Bool->En->Option En):Prop:=∃t,PG X tg t/\Ka ix t asg
def GP(X:Cx)(ix:List Nat)(ts:List Expr)(asg:List D->Bool->En->Option En):Prop:=∃t,JH X ts t/\M8 ix t asg
section
def gN(i:Nat):D->Bool->En->Option En:=λd fr env=>if i<env.length then some (env.set i (some (.val d fr)))else none
def B0:Ka [i] (rQ i) (gN i):=by
 intro g M ρ env bp σ H d fr v Q rep is e k;unfold gN at e;by_cases hi:i<env.length
 .rw[c5 hi]at e;cases e;exact k _ _ (rep.put (sl:=.val d fr) (T:=λ_=>False) hi is (λ_ z=>z.elim) λ_ z=>z.elim) (λj hj=>gj λe=>hj (by simp[e])) λj a z=>by
   by_cases hj:j=i
   .subst hj;rw[i7]at z;exact z.elim
   .rw[gw hj]at z;exact z
 .rw[dS hi]at e;cases e
def aw(hN:X.N.Nodup)(hi:X.N[i]?=some x)(hx:Jw X.env.scope x)(hf:autoParam (X.fn x=true\/X.env.scope.names.lookup x=some .local) RO):GO X [i] (.Name x pos) (gN i):=⟨_,Au hN hi hx hf,B0⟩
noncomputable def bA:List D->Bool->En->Option En:=λds _ env=>match ds with
 |[]=>some env
 |_=>none
def ay(f:D->Bool->En->Option En)(fs:List D->Bool->En->Option En):List D->Bool->En->Option En:=λds fr env=>match ds with
 |d::r=>(f d fr env).bind λbp=>fs r fr bp
 |[]=>none
def bB:GP X [] [] bA:=⟨_,Gi,λg M ρ env bp σ H ds fr vs Q rep is e k=>by
 cases ds with
 |nil=>cases e;cases is;exact⟨rfl,k σ ρ rep (λ_ _=>rfl) λ_ _ z=>z⟩
 |cons d ds=>cases e⟩
def aD(h1:GO X ix e f)(h2:GP X jx es fs)
 (hs:∀t,PG X e t->∀u,JH X es u->JH X (e::es) (IA t u)):GP X (ix++jx) (e::es) (ay f fs):=by
 obtain⟨t,p1,s1⟩:=h1;obtain⟨u,p2,s2⟩:=h2;refine⟨_,hs t p1 u p2,λg M ρ env bp σ H ds fr vs Q rep is e k=>?_⟩;cases ds with
 |nil=>cases e
 |cons d ds=>
  obtain⟨v,r,rfl,i1,i2⟩:=is;unfold ay at e;dsimp only at e;cases q:f d fr env with
  |none=>rw[q]at e;cases e
  |some env1=>rw[q]at e;refine⟨v,r,rfl,s1 g M ρ env env1 σ H d fr v _ rep i1 q λσ1 ρ1 rep1 c1 d1=>?_⟩;exact s2 g M ρ1 env1 bp σ1 H ds fr r Q rep1 i2 e λσ2 ρ2 rep2 c2 d2=>k σ2 ρ2 rep2 (λj hj=>(c2 j λz=>hj (by simp[z])).trans (c1 j λz=>hj (by simp[z]))) λj a z=>d1 j a (d2 j a z)
def gT(n:Nat)(fs:List D->Bool->En->Option En):D->Bool->En->Option En:=λd fr env=>match d with
 |.tup ds=>if ds.length=n then fs ds fr env else none
 |_=>none
def bN(hc:X.calm=true)(h:GP X ix es fs)(hn:autoParam ((assignEach es X.env).length=n) RQ)(hst:autoParam ((assignEach es X.env).findIdx? (·.1)=none) RQ):GO X ix (.Tuple es k pos) (gT n fs):=by
 obtain⟨t,p1,s1⟩:=h;refine⟨_,JI hc p1 hn hst,λg M ρ env bp σ H d fr v Q rep is e kk=>?_⟩;unfold gT at e;cases d with
 |tup ds=>
  obtain⟨a,vs,rfl,h1,h2⟩:=is;dsimp only at e;by_cases hl:ds.length=n
  .rw[c5 hl]at e;exact⟨a,vs,rfl,SqT.of h1,h2.length.trans hl,s1 g M ρ env bp σ H ds fr vs Q rep h2 e kk⟩
  .rw[dS hl]at e;cases e
 |_=>cases e
def Kb(f:En->Res R)(asg:D->Bool->En->Option En):En->Res Fl:=λenv=>(f env).bind λr=>match asg r.d r.fr (cQ env r.al)with
 |some bp=>.ok (.nx bp)
 |none=>.stuck
def GQ(he:PD X E e f)(hg:GO X ix tg asg)(hs:autoParam (swapsWithSole [tg] e pos.line X.env=pure false) RQ)(hw:autoParam (swappedStores [tg] e X.env=pure none) RQ)
 (h1:autoParam ((assignEach [tg] X.env).map (·.2)=[assign tg X.env]) RQ):yW X E (.Assign [tg] e pos) (Kb f asg):=by
 obtain⟨t,p1,s1⟩:=he;obtain⟨u,p2,s2⟩:=hg;refine⟨_,JJ p1 p2 hs hw h1,λg M ρ env σ H D rep p=>s1.rB rep p λr v M' H' e rep' ro p'=>?_⟩;obtain⟨M1,x1,x1m,rep1,is1⟩:=ro.is rep' e rep.same;obtain⟨M2,ρ2,x2,rep2,o2,_,_⟩:=Rep.cQ r.al rep1;have is2:Is H' (msk g M2 r.fr) r.d v:=Is.frozen rep1 x2 o2 is1;cases q:asg r.d r.fr (cQ env r.al)with
 |none=>simp only[q]at p';exact p'.elim
 |some bp=>simp only[q]at p';exact s2 g M2 ρ2 _ bp σ H' r.d r.fr v _ rep2 is2 q λσ' ρ' rep3 _ _=>p' σ' M2 ρ' H' ⟨λa z=>x2 a (x1m a z),λ_ _ q _=>q⟩ rep3
end
structure Src where
 xs:List D
 fr:Bool
 al:List Nat
structure Walk(J:It) (m:Addr->Prop) (H:Hp) (xs:List D):Prop where
 go:∀H' i d,(∀a o,H a=some o->(m a\/gP o)->H' a=some o)->xs[i]?=some d->J.go i H'/\∀x H'',J.Mi i H' x H''->Same H' H''/\Is H'' m d x
 stop:∀H',(∀a o,H a=some o->(m a\/gP o)->H' a=some o)->J.stop xs.length H'
theorem Walk.weak(w:Walk J m H xs)(h:∀a,m a->m' a):Walk J m' H xs:=⟨λH' i d k e=>let ⟨a,b⟩:=w.go H' i d (λa o q z=>k a o q (z.imp (h a) id)) e;⟨a,λx H'' y=>let ⟨c,d⟩:=b x H'' y;⟨c,d.weak h⟩⟩,λH' k=>w.stop H' λa o q z=>k a o q (z.imp (h a) id)⟩
def PostI(mg:Str->Option RE)(E:XK)(g:Gd)(M:Addr->Prop)(ρ:Pr)(env:En)(σ:St)(H:Hp)(R:It->Hp->Prop):Res Src->Prop
 |.stuck=>False
 |.exc c=>GJ mg E g c
 |.ok s=>∀J M' H',Ext M H M' H'->Rep g M' ρ env σ H'->Walk J (vmsk g M' s.fr ρ s.al) H' s.xs->R J H'
def M9(mg:Str->Option RE)(E:XK)(wi:TI)(f:En->Res Src):Prop:=∀g M ρ env σ H R,Rep g M ρ env σ H->PostI mg E g M ρ env σ H R (f env)->wi σ H R
def GR(X:Cx)(E:XK)(tg iter:Expr)(f:En->Res Src):Prop:=∃wi,PI X tg iter wi/\M9 X.mg E wi f
section
variable{X:Cx}{E:XK}
def Pz(K:RC)(tl:TE):TI:=λσ H R=>tl σ H λx H1=>∃a,x=.ref a/\(((∃xs,SqL K H1 a xs)/\R (Pf K a) H1)\/((∃xs,SqT K H1 a xs)/\R (Pg K a) H1))
def Kc(hl:PE X l tl):PI X tg l (Pz X.K tl):=by
 intro ai s σ H R I h;refine dY (hl ai s σ H _ I h) λv s1 ⟨x,H1,I1,r1,q1⟩=>?_;obtain⟨a,e,q⟩:=q1;subst e;cases r1;rcases q with⟨⟨xs,hq⟩,q⟩|⟨⟨xs,hq⟩,q⟩
 .obtain⟨its,rv,p,hz⟩:=I1.list hq;refine kn p.isList ?_;refine⟨s1.heap.objs.size,[s1.heap.objs.size],_,_,H1,rfl,I1.kept (t':=s1.toks) λb o e=>cA _ e,BD a _,⟨_,dO _ rfl,rfl,rfl⟩,λb hb=>?_,q⟩;have e:b=s1.heap.objs.size:=by simpa using hb
  subst e;exact I1.uA (cC _) (I1.bC.fresh (cC _))
 .obtain⟨its,rv,p,hz⟩:=I1.tuple hq;refine wpAny_pyIter_tuple (show s1.heap.IsTuple a its.toArray from p) ?_;refine⟨s1.heap.objs.size,[s1.heap.objs.size],_,_,H1,rfl,I1.kept (t':=s1.toks) λb o e=>cA _ e,y3 a _,⟨_,dO _ rfl,rfl,rfl⟩,λb hb=>?_,q⟩;have e:b=s1.heap.objs.size:=by simpa using hb
  subst e;exact I1.uA (cC _) (I1.bC.fresh (cC _))
def B1{K:RC}{a:Addr}{m:Addr->Prop}(h:(H a=some (.lst vs)/\m a)\/∃o,H a=some (.cQ o (.lst vs))/\m a)(is:IsAll H m ds vs):Walk (Pf K a) m H ds:=by
 have st:∀H',(∀a o,H a=some o->(m a\/gP o)->H' a=some o)->SqL K H' a vs:=λH' k=>by
  rcases h with⟨h,hm⟩|⟨o,h,_⟩
  .exact .inl (.inl (k a _ h (.inl hm)))
  .exact .inl (.inr ⟨o,k a _ h (.inr True.intro)⟩)
 refine⟨λH' i d k e=>?_,λH' k=>⟨vs,st H' k,by rw[is.length];exact cC _⟩⟩;obtain⟨v,ev,iv⟩:=(is.mono k λ_ _ _ z=>z:IsAll H' m ds vs).get e;refine⟨⟨vs,v,st H' k,ev⟩,λx H'' y=>?_⟩;obtain⟨rfl,y⟩:=y;have:=y vs (st _ k);rw[ev]at this;cases this;exact⟨Same.refl _,iv⟩
def DN{K:RC}{a:Addr}{m:Addr->Prop}(h:H a=some (.tup vs))(is:IsAll H m ds vs):Walk (Pg K a) m H ds:=by have st:∀H',(∀a o,H a=some o->(m a\/gP o)->H' a=some o)->SqT K H' a vs:=λH' k=>SqT.of (k a _ h (.inr True.intro));refine⟨λH' i d k e=>?_,λH' k=>⟨vs,st H' k,by rw[is.length];exact cC _⟩⟩;obtain⟨v,ev,iv⟩:=(is.mono k λ_ _ _ z=>z:IsAll H' m ds vs).get e;refine⟨⟨vs,v,st H' k,ev⟩,λx H'' y=>?_⟩;obtain⟨rfl,y⟩:=y;have:=y vs (st _ k);rw[ev]at this;cases this;exact⟨Same.refl _,iv⟩
noncomputable def i8(lo:Int)(n:Nat):List D:=(List.range n).map λk=>.int (lo+(k:Nat))
def zn(lo:Int)(n:Nat):Walk (OL lo n) m H (i8 lo n):=by
 refine⟨λH' i d k e=>?_,λH' k=>by show n<=(i8 lo n).length;simp[i8]⟩;have hi:i<n:=by have:=(cD.mp e).1;simpa[i8]using this
 refine⟨hi,λx H'' y=>?_⟩;obtain⟨rfl,rfl⟩:=y;refine⟨Same.refl _,?_⟩;have:(i8 lo n)[i]?=some (.int (lo+(i:Nat))):=by simp[i8,hi]
 rw[this]at e;cases e;rfl
def fB(f:En->Res R):En->Res Src:=λenv=>(f env).bind λr=>match r.d with
 |.lst ds=>.ok ⟨ds,r.fr,r.al⟩
 |.tup ds=>.ok ⟨ds,r.fr,r.al⟩
 |_=>.stuck
def br(h:PD X E l f):GR X E tg l (fB f):=by
 obtain⟨t,p1,s1⟩:=h;refine⟨_,Kc p1,λg M ρ env σ H R rep p=>?_⟩;refine s1.one rep (P:=λM H r=>PostI X.mg E g M ρ env σ H R r) p (λ_ _ z=>z) (λ_ _ _ z=>z) (λM H M' H' r e p=>?_) λr v M1 H1 e1 rep1 is q=>?_
 .cases r with
  |stuck=>exact p
  |exc c=>exact p
  |ok s=>exact λJ M2 H2 e2=>p J M2 H2 (e.trans e2)
 .cases z:r.d with
  |lst ds=>rw[z]at is;simp only[z]at q;obtain⟨a,vs,rfl,h1,h2⟩:=is;exact⟨a,rfl,.inl ⟨⟨vs,.inl (h1.imp (·.1) λ⟨o,z,_⟩=>⟨o,z⟩)⟩,q _ M1 H1 (Ext.refl _ _) rep1 (B1 h1 h2)⟩⟩
  |tup ds=>rw[z]at is;simp only[z]at q;obtain⟨a,vs,rfl,h1,h2⟩:=is;exact⟨a,rfl,.inr ⟨⟨vs,SqT.of h1⟩,q _ M1 H1 (Ext.refl _ _) rep1 (DN h1 h2)⟩⟩
  |_=>simp only[z]at q;exact q.elim
noncomputable def cR(i:Int):Bool:=decide (-(2^62)<=i)&&decide (i<2^62)
def IH(fs:En->Res (List R)):En->Res Src:=λenv=>(fs env).bind λrs=>match rs.map R.d with
 |[.int j]=>if cR j then .ok ⟨i8 0 j.toNat,true,[]⟩else .stuck
 |_=>.stuck
def PostI.ext{mg:Str->Option RE}{M M':Addr->Prop}{R:It->Hp->Prop}(e:Ext M H M' H')(p:PostI mg E g M ρ env σ H R r):PostI mg E g M' ρ env σ H' R r:=by
 cases r with
 |stuck=>exact p
 |exc c=>exact p
 |ok s=>exact λJ M2 H2 e2=>p J M2 H2 (e.trans e2)
def fZ(hg:Gl X "range") (hm:X.mg "range"=none) (ha:AJ X E [a] fs) (hs:autoParam (starEach [a] X.env=[(false,eval a X.env)]) RQ):GR X E tg (.Call (.Name "range" p) [a] [] pos) (IH fs):=by
 obtain⟨t,p1,s1⟩:=ha;refine⟨_,BE hg hm p1 hs,λg M ρ env σ H Rq rep p=>s1.one rep (P:=λM H r=>PostI X.mg E g M ρ env σ H Rq r) p (λ_ _ z=>z) (λ_ _ _ z=>z) (λ_ _ _ _ _ e p=>p.ext e) λrs vs M1 H1 e1 rep1 is q=>?_⟩;generalize hd:rs.map R.d=ds at is q
 match ds,is,q with
 |[.int j],is,q=>
  obtain⟨v,w,rfl,i1,i2⟩:=is;cases i1;cases i2;dsimp only at q;by_cases hc:cR j=true
  .rw[c5 hc]at q;simp only[cR,fq,gq]at hc;exact⟨j,rfl,hc.1,hc.2,q _ M1 H1 (Ext.refl _ _) rep1 (zn 0 j.toNat)⟩
  .rw[dS hc]at q;exact q.elim
 |[],_,q=>exact q.elim
 |[.ig],_,q=>exact q.elim
 |[.bl _],_,q=>exact q.elim
 |[.str _],_,q=>exact q.elim
 |[.tup _],_,q=>exact q.elim
 |[.lst _],_,q=>exact q.elim
 |[.lS _ _],_,q=>exact q.elim
 |.int _::_::_,_,q=>exact q.elim
 |.ig::_::_,_,q=>exact q.elim
 |.bl _::_::_,_,q=>exact q.elim
 |.str _::_::_,_,q=>exact q.elim
 |.tup _::_::_,_,q=>exact q.elim
 |.lst _::_::_,_,q=>exact q.elim
 |.lS _ _::_::_,_,q=>exact q.elim
def cI(asg:D->Bool->En->Option En)(fr:Bool)(body:En->Res Fl):List D->En->Res Fl
 |[],env=>.ok (.nx env)
 |x::xs,env=>match asg x fr env with
  |none=>.stuck
  |some env1=>(body env1).bind λr=>match r with
   |.nx bp=>cI asg fr body xs bp
   |.ct bp=>cI asg fr body xs bp
   |.bk bp=>.ok (.nx bp)
   |.rt r=>.ok (.rt r)
   |.rm r e=>.ok (.rm r e)
def jg(src:En->Res Src)(asg:D->Bool->En->Option En)(body:En->Res Fl):En->Res Fl:=λenv=>(src env).bind λs=>cI asg s.fr body s.xs (cQ env s.al)
def M_(J:It)(u:TG)(tb:TS)(D:Ends)(σ:St)(H1:Hp):Prop:=∃W:Nat->Nat->St->Hp->Prop,(∃m,W 0 m σ H1)/\∀i m σ H,W i m σ H->(J.stop i H/\D.nx σ H)\/(J.go i H/\∃N:St->Hp->Prop,(∀σ' H',N σ' H'->∃m',m'<m/\W (i+1) m' σ' H')/\∀x H',J.Mi i H x H'->u x σ H' λσ2 H2=>tb {D with nx:=N,ct:=N,bk:=D.nx} σ2 H2)
def DO{asg:D->Bool->En->Option En}{fb:En->Res Fl}{g:Gd}{M2:Addr->Prop}{ρ2:Pr}{env2:En}{σ:St}{H1:Hp}{D:Ends}(s2:Ka ix u asg)(s3:GN X.mg E tb fb)(rep2:Rep g M2 ρ2 env2 σ H1)(wk2:Walk J (msk g M2 fr) H1 xs)(p2':PostS X.mg E g M2 H1 D (cI asg fr fb xs env2)):M_ J u tb D σ H1:=by
 refine⟨λi m σ' H'=>m=xs.length-i/\i<=xs.length/\∃M' ρ' bp,Rep g M' ρ' bp σ' H'/\nU M2 H1 M' H'/\PostS X.mg E g M' H' D (cI asg fr fb (xs.drop i) bp),⟨_,rfl,lY _,M2,ρ2,_,rep2,nU.refl _ _,p2'⟩,?_⟩;rintro i m σ' H' ⟨rfl,hle,M',ρ',bp,rep',f',p'⟩;have kp:∀a o,H1 a=some o->(msk g M2 fr a\/gP o)->H' a=some o:=λa o e z=>f'.h a o e (z.imp (·.1) id);by_cases hlt:i<xs.length
 .have ed:xs[i]?=some xs[i]:=by simp[hlt]
  obtain⟨go,yl⟩:=wk2.go H' i _ kp ed;have edrop:xs.drop i=xs[i]::xs.drop (i+1):=o5 hlt;rw[edrop]at p';unfold cI at p';refine .inr ⟨go,λσ'' H''=>∃M'' ρ'' env'',Rep g M'' ρ'' env'' σ'' H''/\nU M2 H1 M'' H''/\PostS X.mg E g M'' H'' D (cI asg fr fb (xs.drop (i+1)) env''),λσ'' H'' z=>⟨xs.length-(i+1),by lia,rfl,hlt,z⟩,λx H'' y=>?_⟩;obtain⟨sm,is⟩:=yl x H'' y;have rep'':=rep'.grow sm;have fx:nU M' H' M' H'':=⟨λ_ z=>z,λa o e _=>sm a o e⟩;have is':Is H'' (msk g M' fr) xs[i] x:=is.weak λa z=>msk.mono f'.m z;cases qa:asg xs[i] fr bp with
  |none=>simp only[qa]at p';exact p'.elim
  |some env1=>
   simp only[qa]at p';refine s2 g M' ρ' bp env1 σ' H'' _ fr x _ rep'' is' qa λσ1 ρ1 rep1' _ _=>?_;refine s3 g M' ρ1 env1 σ1 H'' _ rep1' ?_;have p'':=PostS.cQ fx p';cases qb:fb env1 with
   |stuck=>rw[qb]at p'';exact p''
   |exc c=>rw[qb]at p'';exact p''
   |ok r=>
    rw[qb]at p'';cases r with
    |nx e3=>exact λσ3 M3 ρ3 H3 f3 rep3=>⟨M3,ρ3,e3,rep3,(f'.trans fx).trans f3,PostS.cQ f3 p''⟩
    |ct e3=>exact λσ3 M3 ρ3 H3 f3 rep3=>⟨M3,ρ3,e3,rep3,(f'.trans fx).trans f3,PostS.cQ f3 p''⟩
    |bk e3=>exact p''
    |rt r=>exact p''
    |rm r e3=>exact p''
 .have e:i=xs.length:=by lia
  subst e;rw[List.drop_length]at p';exact .inl ⟨wk2.stop H' kp,p' σ' M' ρ' H' (nU.refl _ _) rep'⟩
def bZ(hp:PassesOwn (model X.prog X.w) X.A X.env X.xe)(hc:X.calm=true)
 (hi:GR X E tg iter src) (hg:GO X ix tg asg) (hb:xL X E body fb) (hs:autoParam (∀x,foldedSetIterable iter X.env x=pure x) RP):yW X E (.For tg iter body [] pos) (jg src asg fb):=by
 obtain⟨wi,p1,s1⟩:=hi;obtain⟨u,p2,s2⟩:=hg;obtain⟨tb,p3,s3⟩:=hb;refine⟨_,JK hp hc p1 p2 p3 hs,λg M ρ env σ H D rep p=>?_⟩;refine s1 g M ρ env σ H _ rep ?_;unfold jg at p;cases q:src env with
 |stuck=>rw[q]at p;exact p
 |exc c=>rw[q]at p;exact p
 |ok s=>rw[q]at p;intro J M1 H1 e1 rep1 wk;obtain⟨M2,ρ2,x2,rep2,o2,_,_⟩:=Rep.cQ s.al rep1;have wk2:Walk J (msk g M2 s.fr) H1 s.xs:=wk.weak λa z=>z.elim (msk.mono x2) λ⟨i,hi,o⟩=>⟨o2 i hi a o,λ_=>(rep1.bQ i a o).2.1⟩;have p2':PostS X.mg E g M2 H1 D (cI asg s.fr fb s.xs (cQ env s.al)):=PostS.cQ (e1.cQ.trans ⟨x2,λ_ _ q _=>q⟩) p;exact DO s2 s3 rep2 wk2 p2'
end
theorem jS:∀(names:List (Str×NameKind))(cs:List (Str×Addr)),(∀x∈names,x.2=.free->∃c,env.cells.lookup x.1=some c)->(∀y c,cs.lookup y=some c->env.cells.lookup y=some c)->
 ∃cl,(forIn names cs λ(x:Str×NameKind)(r:List (Str×Addr))=>(do
  if(x.2==.free)=true then
   let c <- cellOf env x.1
   pure (ForInStep.yield ((x.1,c)::r))
  else pure (ForInStep.yield r):Sem (ForInStep (List (Str×Addr)))))=pure cl/\(∀y c,cl.lookup y=some c->env.cells.lookup y=some c)/\(∀x∈names,x.2=.free->∃c,cl.lookup x.1=some c)/\(∀y c,cs.lookup y=some c->∃c',cl.lookup y=some c')
 |[],cs,_,h=>⟨cs,by simp,h,λ_ z=>absurd z (by simp),λy c e=>⟨c,e⟩⟩
 |(n,k)::r,cs,hf,h=>by
  by_cases hk:k=.free
  .subst hk;obtain⟨c,hc⟩:=hf (n,.free) (by simp) rfl;have hco:cellOf env n=pure c:=by simp[cellOf,hc]
   have h':∀y c',((n,c)::cs).lookup y=some c'->env.cells.lookup y=some c':=λy c' e=>by
    rw[gM]at e;cases hy:y==n with
    |true=>rw[hy]at e;cases e;rw[eq_of_beq hy];exact hc
    |false=>rw[hy]at e;exact h y c' e
   obtain⟨cl,e1,e2,e3,e4⟩:=jS r ((n,c)::cs) (λx hx=>hf x (by simp[hx])) h';have self:∃c',cl.lookup n=some c':=e4 n c (by simp[gM]);refine⟨cl,?_,e2,λx hx hxf=>?_,λy c' e=>?_⟩
   .rw[Re];simp only[FX,vE,hco,pure_bind];exact e1
   .rcases cB.mp hx with rfl|hx
    .exact self
    .exact e3 x hx hxf
   .by_cases hy:y=n
    .rw[hy];exact self
    .refine e4 y c' ?_;have hb:(y==n)=false:=by simpa using hy
     rw[gM,hb];exact e
  .obtain⟨cl,e1,e2,e3,e4⟩:=jS r cs (λx hx=>hf x (by simp[hx])) h;refine⟨cl,?_,e2,λx hx hxf=>?_,e4⟩
   .rw[Re];have hkb:(k==NameKind.free)=false:=by simpa using hk
    simp only[hkb,Rk,Rv,pure_bind];exact e1
   .rcases cB.mp hx with rfl|hx
    .exact absurd hxf hk
    .exact e3 x hx hxf
def ud(h:∀x∈scope.names,x.2=.free->∃c,env.cells.lookup x.1=some c) :
 ∃cl,closureFor scope env=pure cl/\(∀y c,cl.lookup y=some c->env.cells.lookup y=some c)/\(∀x∈scope.names,x.2=.free->∃c,cl.lookup x.1=some c):=by
 obtain⟨cl,e1,e2,e3,_⟩:=jS scope.names [] h (λ_ _ e=>by simp at e);refine⟨cl,?_,e2,e3⟩;unfold closureFor;refine Eq.trans ?_ (show((pure cl:Sem (List (Str×Addr))) >>= λcs=>pure cs)=pure cl by simp);rw[<- e1]
 all_goals first
  |rfl
  |(congr 1;congr 1;funext x r;obtain⟨n,k⟩:=x;first|rfl|(dsimp only;split<;>simp_all))
theorem p7{f:Str->NameKind->NameKind}:∀(names:List (Str×NameKind))(y:Str),(names.map λx=>(x.1,f x.1 x.2)).lookup y=(names.lookup y).map (f y)
 |[],y=>rfl
 |(n,k)::r,y=>by
  rw[b8,gM,gM];cases h:y==n with
  |true=>rw[eq_of_beq h];rfl
  |false=>exact p7 r y
def ll(scope:Scope)(env:Env)(y:Str):(relabel scope env).names.lookup y=(scope.names.lookup y).map λk=>if(k==.free&&env.scope.kind==.function&&env.kindOf y==some .cell)=true then .cell else k:=by
 have e:(relabel scope env).names=scope.names.map λx=>(x.1,(λn k=>if(k==NameKind.free&&env.scope.kind==.function&&env.kindOf n==some .cell)=true then NameKind.cell else k) x.1 x.2):=by unfold relabel;refine tS λx _=>?_;obtain⟨n,k⟩:=x;dsimp only;split<;>rfl
 rw[e];exact p7 (f:=λn k=>if(k==NameKind.free&&env.scope.kind==.function&&env.kindOf n==some .cell)=true then NameKind.cell else k) scope.names y
def v9(h:scope.names.lookup y=some .free):(relabel scope env).names.lookup y=some .cell\/(relabel scope env).names.lookup y=some .free:=by
 rw[ll,h];simp only[Option.map_some];split
 .exact .inl rfl
 .exact .inr rfl
noncomputable def dc(X:Cx)(scope:Scope)(N:List Str)(cl:List (Str×Addr))(C:Addr)(s:RB)(H:Hp)(ex:List Addr):Cx:={X with N:=N,s₀:=s,H₀:=H,env:=compEnvC scope cl C X.env,outer:=X.stack,ex:=ex,fn:=λ_=>false,pn:=[],xe:=λ_ _=>False}
section
def GS(I:L2.Inv X ai σ H s)(hkind:scope.kind=.function)(hcell:∀y∈scope.names,y.2≠.cell)(hcl:∀y c,cl.lookup y=some c->X.env.cells.lookup y=some c)(hhas:∀x∈scope.names,x.2=.free->∃c,cl.lookup x.1=some c)
 (hC:s.heap.objs.size<=C) (hex:∀b∈ex,kM X ai H b/\b<s.heap.objs.size):(dc X scope N cl C s H ex).Ok where
 mod:=I.ok.mod
 kind:=hkind
 glob:=I.ok.glob
 blt:=I.ok.blt
 above:=hC
 inj:=λx y c h1 h2=>I.ok.inj x y c (hcl x c h1) (hcl y c h2)
 has:=λy hy=>by
  have key:∀k,(relabel scope X.env).names.lookup y=some k->(k=.cell\/k=.free)->∃c,cl.lookup y=some c:=λk e hk=>by
   rw[ll]at e;cases q:scope.names.lookup y with
   |none=>rw[q]at e;cases e
   |some k0=>
    have hm:=lX q;have h0:=hcell _ hm;have hf:k0=.free:=by
     rw[q]at e;simp only[Option.map_some,Option.some.injEq]at e;split at e
     .rename_i z;simp only[fq,tW]at z;exact z.1.1
     .rcases hk with hk|hk
      .exact absurd (e.trans hk) h0
      .exact e.trans hk
    exact hhas _ hm hf
  rcases hy with hy|hy
  .exact key _ hy (.inl rfl)
  .exact key _ hy (.inr rfl)
 OY:=λ_ _ h=>by cases h
 hd:=I.ok.hd
 frames:=I.ok.frames
 Ql:=.inl rfl
 Q8:=λb hb=>⟨dU (fy (hex b hb).2 hC),λx c e=>(hex b hb).1.2.2.2.2.1 x c (hcl x c e)⟩
 bs:=λb o e=>I.bs b o e
 L4:=ib I.ok.L4 I.sz
 Iw:=λb o e hb=>by
  rcases(hex b hb).1.2.2.2.1 with z|z
  .exact I.ok.Iw b o e z
  .exact absurd (fy (dN e) (ib I.ok.L4 z)) (qM _)
 L_:=λb hb hfs=>by
  rcases cB.mp (I.t6 b hfs)with z|z
  .exact(hex b hb).1.2.1 z
  .exact(hex b hb).1.2.2.1 z
 uy:=I.stack
 OH:=I.xa
 kt:=I.kt
structure OC(X:Cx) (scope:Scope) (capN:List Str) (caps:List Nat):Prop where
 at':∀(k:Nat)(y:Str),capN[k]?=some y->∃j:Nat,caps[k]?=some j/\X.N[j]?=some y
 out:∀y∈capN,X.env.kindOf y=some .cell\/X.env.kindOf y=some .free
 y0:∀y∈capN,scope.names.lookup y=some .free
 len:caps.length=capN.length
noncomputable def px(σ:St)(caps:List Nat):St:=caps.map λj=>(σ[j]?).join
def DP(I:L2.Inv X ai σ H s)(hkind:scope.kind=.function)(hcell:∀y∈scope.names,y.2≠.cell)(hcl:∀y c,cl.lookup y=some c->X.env.cells.lookup y=some c)(hhas:∀x∈scope.names,x.2=.free->∃c,cl.lookup x.1=some c)
 (hC:s.heap.objs.size<=C) (hex:∀b∈ex,kM X ai H b/\b<s.heap.objs.size) (hc:OC X scope capN caps) (kp:∀b o,s.heap.get? b=some o->h4.get? b=some o) (ns:h4.Ns C m4) :
 L2.Inv (dc X scope (tN++capN) cl C s H ex) [] (List.replicate tN.length none++px σ caps) H {s with heap:=h4,toks:=tk} where
 ok:=GS I hkind hcell hcl hhas hC hex
 os:=rfl
 bare:=I.bare
 base:=Un.kept kp
 loc:=by
  refine⟨m4,ns,λi y v e1 e2 e3=>?_⟩;by_cases hlt:i<tN.length
  .rw[kq (by simpa using hlt),t4]at e2;rw[c5 hlt]at e2;cases e2
  .obtain⟨k,rfl⟩ : ∃k,i=tN.length+k:=⟨i-tN.length,by lia⟩;have e1:capN[k]?=some y:=by
    have e1:(tN++capN)[tN.length+k]?=some y:=e1
    rwa [h_ (by lia),nc]at e1
   have e2:(px σ caps)[k]?=some (some v):=by
    rwa [h_ (by simp),vJ,nc]at e2
   obtain⟨j,ej,eN⟩:=hc.at' k y e1;have e4:σ[j]?=some (some v):=by
    unfold px at e2;rw[iX,ej]at e2;have e2:(σ[j]?).join=some v:=by simpa using e2
    cases q:σ[j]? with
    |none=>rw[q]at e2;cases e2
    |some o=>rw[q]at e2;cases o with
     |none=>cases e2
     |some w=>cases e2;rfl
   have hm:=fj e1;obtain⟨m,hn,hl⟩:=I.loc;have hout:=hc.out y hm;obtain⟨u,r,l⟩:=hl j y v eN e4 (.inr hout);refine⟨u,r,.inr ⟨v9 (hc.y0 y hm),?_⟩⟩;obtain⟨c,hcl2⟩:=hhas (y,.free) (lX (hc.y0 y hm)) rfl;refine⟨c,hcl2,?_⟩;rcases l with⟨l,_⟩|⟨_,c',e5,z⟩
   .rcases hout with h|h<;>(rw[h]at l;cases l)
   .have:=hcl y c hcl2;rw[e5]at this;cases this;obtain⟨o,ho,hd⟩:=z;exact⟨o,kp _ o ho,hd⟩
 cell:=λy c e=>by obtain⟨v,o,ho,hd⟩:=I.cell y c (hcl y c e);exact⟨v,o,kp _ o ho,hd⟩
 free:=I.bC.fresh hC
 oW:=λy c e=>I.oW y c (hcl y c e)
 pin:=λp hp=>absurd (show p∈([]:List (Addr×Obj))from hp) (by simp)
 bC:=I.bC.kept kp
 len:=by simp[dc,px,hc.len]
def B2(I:L2.Inv X ai σ H s)(hX:X'=dc X scope N cl C s H ex)(hC:s.heap.objs.size<=C)(hex:∀b∈ex,kM X ai H b/\b<s.heap.objs.size)
 (I':L2.Inv X' pl σ' H' s'):L2.Inv X ai σ H' s'/\kM X ai H' C:=by
 subst hX;refine⟨I.OE (ch:=ex) I'.os I'.base I'.bC I'.bare λb hb=>?_,I.uA hC I'.free⟩;obtain⟨_,h2,h3,h4,h5,h6⟩:=(hex b hb).1;exact⟨h4,h2,h5,h6⟩
def AM(I:L2.Inv X ai σ H s)(hf:kM X ai H C)(sb:Heap.SameBut C s.heap h'):L2.Inv X ai σ H {s with heap:=h'}:=I.turned (t':=s.toks) (it:=C) (λb o hb e=>(sb.2 b hb).trans e) hf.1 hf.2.1 hf.2.2.2.1 hf.2.2.2.2.1 hf.2.2.2.2.2
end
section
def Na(X:Cx)(ifs:List Expr)(tt:TT):Prop:=∀(ai:List (Addr×Obj))(s:RB)(σ:St)(H:Hp)(Q:Bool->Hp->Prop),L2.Inv X ai σ H s->tt σ H Q->
 wpAny (model X.prog X.w) X.A (forIn ifs true λc r=>if r=true then do let ok <- isTrue c X.env (eval c X.env);pure (ForInStep.yield ok)else pure (ForInStep.yield r)) (TP X ai σ Q) X.xe s
def AN:Na X [] (λ_ H Q=>Q true H):=λ_ _ σ H Q I q=>wpAny_tests_nil ⟨H,I,q⟩
def GT(h:PT X c tt):Na X [c] tt:=λai s σ H Q I q=>wpAny_tests_one (h ai s σ H Q I q)
def B3(hX:X'=dc X scope (tN++capN) cl C s3 H3 fp)(T:Turn X.prog X.w X.K tg J fp it tn)(hcalm:X.calm=true)
 (I4:L2.Inv X' [] (List.replicate tN.length none++σc) H3 s4) (cK:X'.N.length=tN.length+σc.length) (st4:tn 0 s4.heap) (hf:∀b∈fp,kM X' [] H3 b)
 (hg:PG X' tg gt) (ht:Na X' ifs tt) (he:PE X' elt te)
   (W:Nat->Nat->List V->Hp->Prop) (Fin:List V->Hp->Prop) (w0:∃m,W 0 m [] H3)
   (turn:∀i m acc H,W i m acc H->H Dl=some (.lst acc)/\((J.stop i H/\Fin acc H)\/(J.go i H/\∀xv H' o,J.Mi i H xv H'->o.length=tN.length->gt xv (o++σc) H' λσ2 H1=>(∀j:Nat,tN.length<=j->σ2[j]?=(o++σc)[j]?)/\tt σ2 H1 λb H2=>if b=true then
     te σ2 H2 λy H5=>H5 Dl=some (.lst acc)/\acc.length<sizeLine/\∃m',m'<m/\W (i+1) m' (acc++[y]) (ck H5 Dl (.lst (acc++[y])))else ∃m',m'<m/\W (i+1) m' acc H2)))
   (R:Result->RB->Prop) (hR:∀σ' H' acc s',L2.Inv X' [] σ' H' s'->H' Dl=some (.lst acc)->Fin acc H'->R (.ok .next) s') :
   codeAny (model X.prog X.w) X.A (.compLoop (.ListComp elt [⟨tg,iter,ifs,0⟩] scope pos) 0 (.ref it) (.ref Dl) (compEnvC scope cl C X.env)) R s4:=by
  obtain⟨m0,w0⟩:=w0;have eA:X'.A=X.A:=by rw[hX];rfl
  have eP:X'.prog=X.prog:=by rw[hX];rfl
  have eW:X'.w=X.w:=by rw[hX];rfl
  have eK:X'.K=X.K:=by rw[hX];rfl
  have eE:X'.env=compEnvC scope cl C X.env:=by rw[hX];rfl
  have eX:X'.xe=λ_ _=>False:=by rw[hX];rfl
  have eC:X'.calm=true:=by rw[hX];exact hcalm
  have stat:∀{H':Hp},(∀b∈fp,H' b=none)->∀b∈fp,kM X' [] H' b:=λhn b hb=>⟨hn b hb,(hf b hb).2⟩;refine codeAny_loop rfl (λn s=>∃i o acc H,L2.Inv X' [] (o++σc) H s/\o.length=tN.length/\tn i s.heap/\(∀b∈fp,H b=none)/\W i n acc H) ?_ m0 ⟨0,List.replicate tN.length none,[],H3,I4,by simp,st4,λb hb=>(hf b hb).1,w0⟩;rintro n s5 ⟨i,o,acc,H5,I5,lo,st5,fr5,w5⟩;show wpAny _ X.A ((compTurn (.ListComp elt [⟨tg,iter,ifs,0⟩] scope pos) 0 (.ref it) (.ref Dl) (compEnvC scope cl C X.env)).onRaise (λx=>do noteFrame x (compEnvC scope cl C X.env);theTreesLotGoes x)) _ _ s5;refine wpAny_noted ?_;rw[compTurn_list];obtain⟨hD,alt⟩:=turn i n acc H5 w5;rcases alt with⟨stop,fin⟩|⟨go,step⟩
  .refine aW (wpAny_standAt (aW (ni (eA▸T.done X' eP eW eK eC i [] s5 _ H5 _ I5 (stat fr5) st5 stop) (λr s6 ⟨hr,I6⟩=>?_) λ_ _ z=>z)));subst hr;exact cZ (hR _ H5 acc s6 I6 hD fin)
  .refine aW (wpAny_standAt (aW (ni (eA▸T.item X' eP eW eK eC i [] s5 _ H5 _ I5 (stat fr5) st5 go) (λr s6 ⟨u,hr,h6⟩=>?_) λ_ _ z=>z)));subst hr;refine aW (ni h6 (λ_ s7 ⟨xv,H7,I7,r7,y7,st7,fr7⟩=>?_) λ_ _ z=>z);have I7':=I7.pinned (stat fr7) (T.obj _ _ st7);have hg':=hg _ s7 _ H7 xv u _ I7' r7 (step xv H7 o y7 lo);rw[eP,eW,eA,eE,eX]at hg';refine aW (ni hg' (λ_ s8 ⟨σ8,H8,I8,shp,q8⟩=>?_) λ_ _ z=>z.elim);obtain⟨o2,lo2,eσ⟩ : ∃o2:St,o2.length=tN.length/\σ8=o2++σc:=by
    have l8:σ8.length=tN.length+σc.length:=I8.len.trans cK;refine⟨σ8.take tN.length,by rw[kj];lia,?_⟩;have ed:σ8.drop tN.length=σc:=by
     apply List.ext_getElem?
     intro j;rw[List.getElem?_drop,shp (tN.length+j) (by lia),h_ (by lia),lo,nc]
    rw[<- ed,List.take_append_drop]
   subst eσ;have ht':=ht _ s8 _ H8 _ I8 q8;rw[eP,eW,eA,eE,eX]at ht';refine aW (ni ht' (λok s9 ⟨H9,I9,q9⟩=>?_) λ_ _ z=>z.elim);have again:∀{s':RB}{H':Hp},L2.Inv X' ([]++rR fp s7.heap) (o2++σc) H' s'->L2.Inv X' [] (o2++σc) H' s'/\tn (i+1) s'.heap/\∀b∈fp,H' b=none:=λ{s' H'} J'=>by refine⟨J'.o6,T.keep _ _ _ st7 λb hb ob e=>(J'.pin (b,ob) (gk _ (gk _ (jQ hb e)))).1,λb hb=>?_⟩;obtain⟨ob,e,d⟩:=T.obj _ _ st7 b hb;exact(J'.pin (b,ob) (gk _ (gk _ (jQ hb e)))).2.1
   cases ok with
   |false=>obtain⟨m',hm,w9⟩:=(show ∃m',m'<n/\W (i+1) m' acc H9 from by simpa using q9);obtain⟨a1,a2,a3⟩:=again I9;exact cZ ⟨rfl,m',hm,i+1,o2,acc,H9,a1,lo2,a2,a3,w9⟩
   |true=>
    have q9:te (o2++σc) H9 λy H5=>H5 Dl=some (.lst acc)/\acc.length<sizeLine/\∃m',m'<n/\W (i+1) m' (acc++[y]) (ck H5 Dl (.lst (acc++[y]))):=by simpa using q9
    have he':=he _ s9 _ H9 _ I9 q9;rw[eP,eW,eA,eE,eX]at he';refine aW (aW (ni he' (λv s10 ⟨y,H10,I10,ry,eD,hl,m',hm,w10⟩=>?_) λ_ _ z=>z.elim));have hm':=pj (X:=X') _ s10 _ H10 (.ref Dl) [y] (.ref Dl) [v] (λw H'=>w=.ig/\H'=ck H10 Dl (.lst (acc++[y]))) I10 rfl (.cons ry .nil) ⟨Dl,acc,y,rfl,rfl,eD,hl,rfl,rfl⟩;rw[eP,eW,eA,eX]at hm';refine aW (ni hm' (λ_ s11 ⟨w,H11,I11,_,_,eH⟩=>?_) λ_ _ z=>z.elim);subst eH;obtain⟨a1,a2,a3⟩:=again I11;exact cZ (cZ ⟨rfl,m',hm,i+1,o2,acc++[y],_,a1,lo2,a2,a3,w10⟩)
end
structure bq(X:Cx) (scope:Scope) (tN:List Str) (capN:List Str) (caps:List Nat):Prop where
 kind:scope.kind=.function
 Jq:∀y∈scope.names,y.2≠.cell
 names:∀y∈scope.names,y.2=.local->scope.names.lookup y.1=some .local
 own:∀x∈tN,scope.names.lookup x=some .local
 free:∀y∈scope.names,y.2=.free->X.env.kindOf y.1=some .cell\/X.env.kindOf y.1=some .free
 cap:OC X scope capN caps
 nd:(tN++capN).Nodup
section
def jr(X:Cx)(scope:Scope)(tg:Expr)(tN:List Str)(capN:List Str)(caps:List Nat)(elt:Expr)(ifs:List Expr)(σ:St)(Fin:Addr->List V->Hp->Prop)(J:It)(H2:Hp):Prop:=
 ∀(Dl:Addr),H2 Dl=none->∀(cl:List (Str×Addr))(C:Addr)(s3:RB)(fp:List Addr),∃(gt:TG)(tt:TT)(te:TE)(W:Nat->Nat->List V->Hp->Prop),
  PG (dc X scope (tN++capN) cl C s3 (ck H2 Dl (.lst [])) fp) tg gt/\Na (dc X scope (tN++capN) cl C s3 (ck H2 Dl (.lst [])) fp) ifs tt/\PE (dc X scope (tN++capN) cl C s3 (ck H2 Dl (.lst [])) fp) elt te/\(∃m,W 0 m [] (ck H2 Dl (.lst [])))/\
  ∀i m acc H,W i m acc H->H Dl=some (.lst acc)/\((J.stop i H/\Fin Dl acc H)\/(J.go i H/\∀xv H' (o:St),J.Mi i H xv H'->o.length=tN.length->gt xv (o++px σ caps) H' λσ2 H1=>(∀j:Nat,tN.length<=j->σ2[j]?=(o++px σ caps)[j]?)/\tt σ2 H1 λb H2=>if b=true then
   te σ2 H2 λy H5=>H5 Dl=some (.lst acc)/\acc.length<sizeLine/\∃m',m'<m/\W (i+1) m' (acc++[y]) (ck H5 Dl (.lst (acc++[y])))else ∃m',m'<m/\W (i+1) m' acc H2))
def uQ{use:Option (RE->Sem Unit)}{Qv:RE->RB->Prop}{Fin:Addr->List V->Hp->Prop}(hc:X.calm=true)(S:bq X scope tN capN caps)(I:L2.Inv X ai σ H s)(hi:PI X tg iter wi)
 (h:wi σ H (jr X scope tg tN capN caps elt ifs σ Fin))
 (hu:∀(Dl C:Addr)(acc:List V)(H':Hp)(s':RB),L2.Inv X ai σ H' s'->kM X ai H' C->H' Dl=some (.lst acc)->Fin Dl acc H'->(∃m,s'.heap.Ns C m)->compPost (model X.prog X.w) X.A X.xe use Qv (.ref Dl) C (.ok .next) s')
 (hs:autoParam (∀x,foldedSetIterable iter X.env x=pure x) RP) :
 wX X (comprehension (.ListComp elt [⟨tg,iter,ifs,0⟩] scope pos) scope X.env (firstIterPos [⟨tg,iter,ifs,0⟩] pos) (newList []) false (eval iter X.env) use) Qv X.xe s:=by
 obtain⟨cl,ecl,hcl,hhas⟩:=ud (scope:=scope) (env:=X.env) λy hy hf=>I.ok.has y.1 (S.free y hy hf);refine wpAny_comprehension_free rfl hs ecl S.kind S.names (dY (hi ai s σ H _ I h) λv s1 h1=>dY h1 λitv s2 h2=>?_);obtain⟨it,fp,tn,J,H2,rfl,I2,T,st2,f2,goal⟩:=h2;refine nk (wpAny_newFunctionEnv S.Jq (by intro y hy;simp at hy) (λh₁ hns₁ hsb₁=>?_) S.kind);dsimp only at hns₁ hsb₁ ⊢;have hD:H2 s2.heap.objs.size=none:=I2.bC.fresh (cC _);have I3:L2.Inv X ai σ (ck H2 s2.heap.objs.size (.lst [])) { s2 with heap:=s2.heap.push { cls:=.type "list",dict:=none,data:=.seq ([]:List RE).toArray } }:=I2.laid (t':=s2.toks) (λb u e=>cA _ e) (cC _) ⟨lY _,[],0,.nil,dO _ rfl⟩;generalize hs3:({ s2 with heap:=s2.heap.push { cls:=.type "list",dict:=none,data:=.seq ([]:List RE).toArray } }:RB)=s3 at I3;have e3:s2.heap.push { cls:=.type "list",dict:=none,data:=.seq ([]:List RE).toArray }=s3.heap:=by rw[<- hs3]
 rw[e3]at hns₁ hsb₁ ⊢;have kp:∀b o,s3.heap.get? b=some o->h₁.get? b=some o:=λb o e=>hsb₁.extBut b o (dU (dN e)) (cA _ e);have k23:∀b o,s2.heap.get? b=some o->s3.heap.get? b=some o:=λb o e=>by rw[<- e3];exact cA _ e
 have hex:∀b∈fp,kM X ai (ck H2 s2.heap.objs.size (.lst [])) b/\b<s3.heap.objs.size:=λb hb=>by obtain⟨o,ho,_⟩:=T.obj 0 _ st2 b hb;have hlt:b<s2.heap.objs.size:=dN ho;refine⟨⟨?_,(f2 b hb).2⟩,dN (k23 b o ho)⟩;rw[aJ (dU hlt)];exact(f2 b hb).1
 have es:({s2 with heap:=h₁,toks:=s2.toks+([]:List (Str×RE)).length}:RB)={s3 with heap:=h₁,toks:=s2.toks+([]:List (Str×RE)).length}:=by rw[<- hs3]
 have I4:L2.Inv (dc X scope (tN++capN) cl s3.heap.objs.size s3 (ck H2 s2.heap.objs.size (.lst [])) fp) [] (List.replicate tN.length none++px σ caps) (ck H2 s2.heap.objs.size (.lst [])) {s3 with heap:=h₁,toks:=s2.toks+([]:List (Str×RE)).length}:=DP I3 S.kind S.Jq hcl hhas (cC _) hex S.cap kp hns₁;obtain⟨gt,tt,te,W,hg,ht,he,w0,turn⟩:=goal s2.heap.objs.size hD cl s3.heap.objs.size s3 fp;have st4:tn 0 h₁:=T.keep 0 _ _ st2 λb hb o e=>kp b o (k23 b o e);have f4:∀b∈fp,kM (dc X scope (tN++capN) cl s3.heap.objs.size s3 (ck H2 s2.heap.objs.size (.lst [])) fp) [] (ck H2 s2.heap.objs.size (.lst [])) b:=λb hb=>by
  obtain⟨f,hlt⟩:=hex b hb;refine⟨f.1,dU hlt,λhfs=>?_,.inl hb,λy c e=>f.2.2.2.2.1 y c (hcl y c e),λp hp=>absurd (show p∈([]:List (Addr×Obj))from hp) (by simp)⟩;rcases cB.mp (I3.t6 b hfs)with z|z
  .exact f.2.1 z
  .exact f.2.2.1 z
 have loop:codeAny (model X.prog X.w) X.A (.compLoop (.ListComp elt [⟨tg,iter,ifs,0⟩] scope pos) 0 (.ref it) (.ref s2.heap.objs.size) (compEnvC scope cl s3.heap.objs.size X.env)) (compPost (model X.prog X.w) X.A X.xe use Qv (.ref s2.heap.objs.size) s3.heap.objs.size)
  {s3 with heap:=h₁,toks:=s2.toks+([]:List (Str×RE)).length}:=by
  refine B3 rfl T hc I4 (by show(tN++capN).length=_;simp[px,S.cap.len]) st4 f4 hg ht he W (Fin s2.heap.objs.size) w0 turn _ λσ' H' acc s' I' hD' fin=>?_;obtain⟨Io,fo⟩:=B2 I3 rfl (cC _) hex I';obtain⟨m',hn',_⟩:=I'.loc;exact hu _ _ acc H' s' Io fo hD' fin ⟨m',hn'⟩
 rw[es];exact codeAny_compStart_list loop (T.self _ 0 _ _ _ st4 loop)
def DQ(hc:X.calm=true)(S:bq X scope tN capN caps)(I:L2.Inv X ai σ H s)(hi:PI X tg iter wi)(h:wi σ H (jr X scope tg tN capN caps elt ifs σ λDl _ H'=>Q (.ref Dl) H'))
 (hs:autoParam (∀x,foldedSetIterable iter X.env x=pure x) RP):wX X (eval (.ListComp elt [⟨tg,iter,ifs,0⟩] scope pos) X.env) (EP X ai σ Q) X.xe s:=by
 rw[eval_ListComp];refine uQ (use:=none) hc S I hi h (λDl C acc H' s' Io fo hD fin hn=>?_) hs;obtain⟨m,hn⟩:=hn;exact⟨m,hn,λh' sb=>⟨.ref Dl,H',AM Io fo sb,rfl,fin⟩⟩
def xO{D:Ends}{i:Nat}(hc:X.calm=true)(S:bq X scope tN capN caps)(hN:X.N.Nodup)(hi':X.N[i]?=some y)(hy:X.env.scope.names.lookup y=some .local)
 (hsw:swapsWith (.ListComp elt [⟨tg,iter,ifs,0⟩] scope pos) (some (.Name y py)) spos.line X.env=pure true) (I:L2.Inv X ai σ H s) (hi:PI X tg iter wi)
 (h:wi σ H (jr X scope tg tN capN caps elt ifs σ λDl _ H'=>D.nx (σ.set i (some (.ref Dl))) H')) (hs:autoParam (∀x,foldedSetIterable iter X.env x=pure x) RP) :
 wX X (exec (.Assign [.Name y py] (.ListComp elt [⟨tg,iter,ifs,0⟩] scope pos) spos) X.env) (SP X ai D) X.xe s:=by
 rw[exec_Assign_Name_used _ _ _ _ hsw];refine aW (wpAny_standAt (aW ?_));show wpAny _ X.A (do let _ <- comprehension (.ListComp elt [⟨tg,iter,ifs,0⟩] scope pos) scope X.env _ (newList []) false (eval iter X.env) (some (assign (.Name y py) X.env))) _ _ s;refine aW (ni (uQ (use:=some (assign (.Name y py) X.env)) (Qv:=λ_ s'=>SP X ai D .next s') hc S I hi h (λDl C acc H' s' Io fo hD fin hn=>?_) hs) (λ_ s' hq=>cZ (cZ hq)) λ_ _ e=>e);obtain⟨m,hn⟩:=hn;show wpAny _ X.A (assign (.Name y py) X.env (.ref Dl)) _ _ _;refine wpAny_assign_Name (uC (v:=.ref Dl) Io hN hi' (.inl hy) rfl (λs'' I'' ⟨a,sb,ha⟩=>?_) (.inr hy));have nca:C≠a:=by
  rcases ha with z|z
  .rw[z];exact fo.2.1
  .exact kF (fo.2.2.2.2.1 y a z)
 refine⟨m,hn.sameBut sb nca,λh' sb'=>?_⟩;exact⟨_,H',AM I'' fo sb',fin⟩
end
noncomputable def Res.QK{α:Type}:Res α->Res α
 |.exc _=>.stuck
 |r=>r
def GU(env:En)(j:Nat):Option Sl:=match env[j]? with
 |some (some (.val d fr))=>some (.val d fr)
 |some (some (.own ds fr))=>some (.val (.lst ds) fr)
 |some (some (.vL d))=>some (.val d true)
 |some (some (.pin d))=>some (.val d true)
 |some (some (.kJ d))=>some (.val d true)
 |some (some (.fix _ (.tr d)))=>some (.val d true)
 |some (some (.fix _ (.ds d)))=>some (.val d true)
 |_=>none
def dv(env:En)(n:Nat)(caps:List Nat):En:=List.replicate n none++caps.map (GU env)
def ij(mk:D->Option En)(test:En->Res Bool)(elt:En->Res R):List D->Res (List R)
 |[]=>.ok []
 |x::xs=>match mk x with
  |none=>.stuck
  |some e=>(test e).bind λb=>if b then(elt e).bind λr=>(ij mk test elt xs).bind λrs=>.ok (r::rs)else ij mk test elt xs
def cm(n:Nat)(caps:List Nat)(src:En->Res Src)(asg:D->Bool->En->Option En)(test:En->Res Bool)(elt:En->Res R):En->Res R:=λenv=>(src env).bind λs=>if s.xs.length<=lim then
 (ij (λd=>asg d s.fr (dv env n caps)) test elt s.xs).QK.bind λrs=>.ok (o_ (rs.map R.d) (bz rs) (s.al++caps.filter (i6 env)))else .stuck
def B4(X:Cx)(E:XK)(ifs:List Expr)(f:En->Res Bool):Prop:=∃t,Na X ifs t/\SndT X.mg E t f
section
def bv:B4 X E [] (λ_=>.ok true):=⟨_,AN,λg M ρ env σ H Q rep p=>p M H (Ext.refl _ _) rep⟩
def DR(h:BY X E c f):B4 X E [c] f:=let ⟨t,a,b⟩:=h;⟨t,GT a,b⟩
end
section
variable{M1:Addr->Prop}
def Nb(rep:Rep g M1 ρ env σ H1)(s:Same H1 H)(ho:o.length=n)(hM:∀a,(M1 a\/∃i,i∈caps/\ρ i a)->M' a)(hf:∀a,M' a->H a≠none)(hi:∀a,M' a->g.H₀ a=none\/g.Ma a)(hfl:∀a,M' a->g.H₀ a=none->MuZ g H a) :
 Rep g M' (λ_ _=>False) (dv env n caps) (o++px σ caps) H where
 same:=rep.same.trans s
 mO:=hf
 y0:=hi
 fl:=hfl
 slot:=λi sl e=>by
  by_cases hlt:i<n
  .unfold dv at e;rw[kq (by simpa using hlt),t4,c5 hlt]at e;cases e
  .obtain⟨k,rfl⟩ : ∃k,i=n+k:=⟨i-n,by lia⟩;have e:(caps.map (GU env))[k]?=some (some sl):=by
    unfold dv at e
    rwa [h_ (by simp),vJ,nc]at e
   rw[iX]at e;cases q:caps[k]? with
   |none=>rw[q]at e;cases e
   |some j=>
    rw[q]at e;have e:GU env j=some sl:=by simpa using e
    have hj:j∈caps:=fj q;unfold GU at e;cases q2:env[j]? with
    |none=>rw[q2]at e;cases e
    |some o=>
     cases o with
     |none=>rw[q2]at e;cases e
     |some sl0=>
      obtain⟨v,ev,k2⟩:=rep.slot j sl0 q2;have el:(o++px σ caps)[n+k]?=some (some v):=by rw[h_ (by lia),ho,nc];unfold px;rw[iX,q];simp[ev]
      rw[q2]at e;cases sl0 with
      |val d' fr'=>cases e;exact⟨v,el,Is.mono (λa o q _=>s a o q) (λa _ _ z=>⟨hM a (.inl z.1),z.2⟩) k2⟩
      |own ds' fr'=>cases e;obtain⟨a,vs,rfl,h1,h2,h4⟩:=k2;have ha:=(h2 a).mpr rfl;exact⟨_,el,a,vs,rfl,.inl ⟨s _ _ h1,hM a (.inr ⟨j,hj,ha⟩),λ_=>(rep.bQ j a ha).2.1⟩,IsAll.mono (λa o q _=>s a o q) (λa _ _ z=>⟨hM a (.inl z.1),z.2⟩) h4⟩
      |vL d'=>cases e;exact⟨v,el,Is.mono (λa o q _=>s a o q) (λa _ _ z=>⟨hM a (.inr ⟨j,hj,z⟩),λ_=>(rep.bQ j a z).2.1⟩) k2⟩
      |F9 d'=>cases e
      |F_ a'=>cases e
      |F8 ks'=>cases e
      |pin d'=>cases e;exact⟨v,el,Is.mono (λa o q _=>s a o q) (λa _ _ z=>⟨hM a (.inr ⟨j,hj,z⟩),λ_=>(rep.bQ j a z).2.1⟩) k2.1⟩
      |kJ d'=>cases e;exact⟨v,el,Is.mono (λa o q _=>s a o q) (λa _ _ z=>⟨hM a (.inr ⟨j,hj,z⟩),λ_=>(rep.bQ j a z).2.1⟩) k2.1⟩
      |fix n q0=>
       cases q0 with
       |no=>cases e
       |tr d'=>cases e;exact⟨v,el,Is.mono (λa o q _=>s a o q) (λa _ _ z=>⟨hM a (.inr ⟨j,hj,z⟩),λ_=>(rep.bQ j a z).2.1⟩) k2.2⟩
       |ds d'=>cases e;exact⟨v,el,Is.mono (λa o q _=>s a o q) (λa _ _ z=>⟨hM a (.inr ⟨j,hj,z⟩),λ_=>(rep.bQ j a z).2.1⟩) k2.2.1⟩
 bQ:=λ_ _ z=>z.elim
 apart:=λ_ _ _ z=>z.elim
 ow:=λ_ _ z=>z.elim
 len:=by simp[dv,px,ho]
 zz:=λa z e=>rep.zz a z (s.free e)
end
noncomputable def DS(X:Cx)(scope:Scope)(tg:Expr)(tN:List Str)(capN:List Str)(caps:List Nat)(elt:Expr)(ifs:List Expr)(wi:TI):TE:=λσ H Q=>wi σ H (jr X scope tg tN capN caps elt ifs σ λDl _ H'=>Q (.ref Dl) H')
structure CI(g:Gd) (M:Addr->Prop) (H1:Hp) (Dl:Addr) (C:Nat->List R->Prop) (full:List R) (i:Nat) (acc:List V) (H:Hp) (M':Addr->Prop) (rs bj:List R):Prop where
 sm:Same H1 H
 hD:H Dl=some (.lst acc)
 mi:∀a,M a->M' a
 mo:∀a,M' a->M a\/H1 a=none
 nD:¬M' Dl
 fz:∀a,M' a->H a≠none
 fl:∀a,M' a->g.H₀ a=none->MuZ g H a
 rl:rs.length<=i
 is:IsAll H (msk g M' (bz rs)) (rs.map R.d) acc
 qr:C i bj
 ef:full=rs++bj
section
def B5{M1:Addr->Prop}{H1:Hp}{Q:VK}{J:It}{s:Src}{full:List R}(hix:∀j∈ix,j<tN.length)(hg:∀cl C s3 H3 fp,GO (dc X scope (tN++capN) cl C s3 H3 fp) ix tg asg)(ht:∀cl C s3 H3 fp,B4 (dc X scope (tN++capN) cl C s3 H3 fp) E0 ifs ft)(he:∀cl C s3 H3 fp,PD (dc X scope (tN++capN) cl C s3 H3 fp) E0 elt fe)(rep1:Rep g M1 ρ env σ H1)(wk:Walk J (vmsk g M1 s.fr ρ s.al) H1 s.xs)(hlim:s.xs.length<=lim)(qc:ij (λd=>asg d s.fr (dv env tN.length caps)) ft fe s.xs=.ok full)
 (p:PostE X.mg E g M1 ρ env σ H1 Q (.ok (o_ (full.map R.d) (bz full) (s.al++caps.filter (i6 env))))):jr X scope tg tN capN caps elt ifs σ (λDl _ H'=>Q (.ref Dl) H') J H1:=by
 intro Dl hDl cl C s3 fp;obtain⟨gt,pg,sg⟩:=hg cl C s3 (ck H1 Dl (.lst [])) fp;obtain⟨tt,pt,st⟩:=ht cl C s3 (ck H1 Dl (.lst [])) fp;obtain⟨te,pe,se⟩:=he cl C s3 (ck H1 Dl (.lst [])) fp;obtain⟨d0,dm,dow⟩:=rep1.free hDl;refine⟨gt,tt,te,λi m acc H=>m=s.xs.length-i/\i<=s.xs.length/\∃(M':Addr->Prop)(rs bj:List R),CI g (λa=>M1 a\/∃j,j∈s.al++caps/\ρ j a) H1 Dl (λi bj=>ij (λd=>asg d s.fr (dv env tN.length caps)) ft fe (s.xs.drop i)=.ok bj) full i acc H M' rs bj,
  pg,pt,pe,⟨_,rfl,lY _,(λa=>M1 a\/∃j,j∈s.al++caps/\ρ j a),[],full,ca hDl,aY,λ_ z=>z,λ_ z=>.inl z,?_,?_,?_,cC _,rfl,qc,rfl⟩,?_⟩
 .rintro (z|⟨j,_,z⟩)
  .exact dm z
  .exact dow j z
 .rintro a (z|⟨j,_,z⟩) hn
  .exact rep1.mO a z ((ca hDl).free hn)
  .obtain⟨_,_,uo,hz,_⟩:=rep1.bQ j a z;rw[(ca hDl) a _ hz]at hn;cases hn
 .rintro a (z|⟨j,_,z⟩) h0
  .exact(rep1.fl a z h0).same λo e=>ca hDl _ _ e
  .exact .inl ((rep1.bQ j a z).2.2.same λo e=>ca hDl _ _ e)
 .rintro i m acc H2 ⟨rfl,hle,M',rs,bj,sm,hD2,hMi,hMo,nD,frz2,fl2,hrs,isA,qr,efull⟩;refine⟨hD2,?_⟩;have kp:∀a o,H1 a=some o->(vmsk g M1 s.fr ρ s.al a\/gP o)->H2 a=some o:=λa o e _=>sm a o e;have inn2:∀{M'':Addr->Prop}{a:Addr},(M1 a\/∃j,j∈s.al++caps/\ρ j a)\/H1 a=none->g.H₀ a=none\/g.Ma a:=λ{M'' a} z=>by
   rcases z with(z|⟨j,_,z⟩)|z
   .exact rep1.y0 a z
   .exact .inl (rep1.bQ j _ z).2.1
   .exact .inl (rep1.same.free z)
  by_cases hlt:i<s.xs.length
  .have ed:s.xs[i]?=some s.xs[i]:=by simp[hlt]
   obtain⟨go,yl⟩:=wk.go H2 i _ kp ed;refine .inr ⟨go,λxv H3 o y lo=>?_⟩;obtain⟨s23,isx⟩:=yl xv H3 y;have edrop:s.xs.drop i=s.xs[i]::s.xs.drop (i+1):=o5 hlt;rw[edrop]at qr;unfold ij at qr;have isx':Is H3 (msk g M' s.fr) s.xs[i] xv:=isx.weak λa z=>by
    rcases z with z|⟨j,hj,z⟩
    .exact⟨hMi a (.inl z.1),z.2⟩
    .exact⟨hMi a (.inr ⟨j,by simp[hj],z⟩),λ_=>(rep1.bQ j _ z).2.1⟩
   have repI:Rep g M' (λ_ _=>False) (dv env tN.length caps) (o++px σ caps) H3:=Nb rep1 (sm.trans s23) lo (λa z=>hMi a (z.imp id λ⟨j,hj,w⟩=>⟨j,by simp[hj],w⟩)) (λa z hn=>frz2 a z (s23.free hn)) (λa z=>inn2 (M'':=M') (hMo a z)) (λa z h0=>(fl2 a z h0).same λo e=>s23 _ _ e);cases qa:asg s.xs[i] s.fr (dv env tN.length caps)with
   |none=>simp only[qa]at qr;cases qr
   |some envT=>
   simp only[qa]at qr;refine sg g M' _ _ envT _ H3 _ s.fr xv _ repI isx' qa λσ2 ρ2 repT shp nρ=>⟨λj hj=>shp j λz=>absurd (hix j z) (by lia),?_⟩;refine st g M' ρ2 _ _ H3 _ repT ?_;cases qt:ft envT with
   |stuck=>rw[qt]at qr;cases qr
   |exc c=>rw[qt]at qr;cases qr
   |ok b=>
    rw[qt]at qr;intro M4 H4 e4 rep4;cases b with
    |false=>refine xy ⟨s.xs.length-(i+1),by lia,rfl,hlt,M',rs,bj,(sm.trans s23).trans e4.h,e4.h _ _ (s23 _ _ hD2),hMi,hMo,nD,λa z hn=>frz2 a z (s23.free (e4.h.free hn)),λa z h0=>(fl2 a z h0).same λo e=>e4.h _ _ (s23 _ _ e),by lia,?_,by simpa using qr,efull⟩;exact IsAll.same e4.h (IsAll.same s23 isA)
    |true=>
     refine vS ?_;simp only[Res.je,vE]at qr;refine se g M4 ρ2 _ _ H4 _ rep4 ?_;cases qe:fe envT with
     |stuck=>rw[qe]at qr;cases qr
     |exc c=>rw[qe]at qr;cases qr
     |ok r=>
      rw[qe]at qr;simp only[Res.je]at qr;cases qd:ij (λd=>asg d s.fr (dv env tN.length caps)) ft fe (s.xs.drop (i+1))with
      |stuck=>rw[qd]at qr;cases qr
      |exc c=>rw[qd]at qr;cases qr
      |ok rest'=>
       rw[qd]at qr;have qr:r::rest'=bj:=by simpa using qr
       intro yv M5 H5 e5 rep5 ro;obtain⟨M6,e6,m56,rep6,is6⟩:=ro.is rep5 e5 rep4.same;have D3:H3 Dl=some (.lst acc):=s23 _ _ hD2;have D4:H4 Dl=some (.lst acc):=e4.h _ _ D3;have D5:H5 Dl=some (.lst acc):=e5.h _ _ D4;have nD4:¬M4 Dl:=λz=>(e4.n Dl z).elim nD λw=>by rw[D3]at w;cases w
       have nD6:¬M6 Dl:=λz=>(e6.n Dl z).elim nD4 λw=>by rw[D4]at w;cases w
       have M46:∀a,M4 a->M6 a:=e6.m;have up:∀a o,H5 a=some o->a≠Dl->ck H5 Dl (.lst (acc++[yv])) a=some o:=λa o e n=>by rw[aJ n];exact e
       have kp5:∀(fr:Bool) a o,H5 a=some o->(msk g M6 fr a\/gP o)->ck H5 Dl (.lst (acc++[yv])) a=some o:=λfr a o e z=>up a o e λw=>by
        subst w;rcases z with z|z
        .exact nD6 z.1
        .rw[D5]at e;cases e;exact z
       refine⟨D5,?_,s.xs.length-(i+1),by lia,rfl,hlt,M6,rs++[r],rest',?_,aY,λa z=>M46 a (e4.m a (hMi a z)),λa z=>?_,nD6,λa z=>?_,λa z h0=>?_,by simp;lia,?_,qd,by rw[efull,<- qr];simp⟩
       .have:acc.length=rs.length:=by rw[isA.length,bH]
        exact vZ (by lia)
       .intro b o e;exact up b o (e5.h _ _ (e4.h _ _ (s23 _ _ (sm _ _ e)))) (aA e hDl)
       .rcases e6.n a z with z|z
        .rcases e4.n a z with z|z
         .exact hMo a z
         .exact .inr (sm.free (s23.free z))
        .exact .inr (sm.free (s23.free (e4.h.free z)))
       .by_cases hw:a=Dl
        .rw[hw,aY];simp
        .rw[aJ hw];exact rep6.mO a z
       .have hw:a≠Dl:=λe=>nD6 (e▸z);exact(rep6.fl a z h0).same λo e=>by rw[aJ hw];exact e
       .rw[kE];refine IsAll.append ?_ ⟨yv,[],rfl,?_,rfl⟩
        .have i5:IsAll H5 (msk g M' (bz rs)) (rs.map R.d) acc:=((isA.same s23).same e4.h).same e5.h;refine(i5.weak λa z=>(⟨M46 a (e4.m a z.1),λe=>z.2 (by simp[bz]at e ⊢;exact e.1)⟩ : msk g M6 (bz (rs++[r])) a)).mono (kp5 _) λ_ _ _ z=>z
        .refine(is6.weak λa z=>?_:Is H5 (msk g M6 (bz (rs++[r]))) r.d yv).mono (kp5 _) λ_ _ _ z=>z;rcases z with z|⟨j,_,z⟩
         .exact⟨z.1,λe=>z.2 (by simp[bz]at e;exact e.2)⟩
         .exact(nρ _ _ z).elim
  .have ei:i=s.xs.length:=by lia
   subst ei;refine .inl ⟨wk.stop H2 kp,?_⟩;rw[List.drop_length]at qr;unfold ij at qr;cases qr;rw[kH]at efull;subst efull;have RM:Rep g (λa=>M1 a\/(nl H1 H2 a/\M' a)) ρ env σ H2:=rep1.came sm M';have XM:Ext M1 H1 (λa=>M1 a\/(nl H1 H2 a/\M' a)) H2:=⟨λ_=>.inl,sm,λ_ z=>z.imp id (·.1.1)⟩;have nDl:¬(M1 Dl\/(nl H1 H2 Dl/\M' Dl)):=λz=>z.elim dm λz=>nD z.2;have nwD:∀b,V.ref Dl=.ref b->H1 b=none:=λb e=>by cases e;exact hDl
   unfold o_ at p;by_cases hfl:D.aC (full.map R.d)=true
   .rw[c5 hfl]at p;exact p _ _ H2 XM RM ⟨Dl,acc,rfl,hD2,nDl,hDl,dow,IsAll.flat hfl isA⟩
   .rw[dS hfl]at p;by_cases hal:(s.al++caps.filter (i6 env)).isEmpty=true
    .rw[c5 hal]at p;refine p _ _ H2 XM RM ⟨Dl,acc,rfl,hD2,nDl,hDl,dow,isA.weak λa z=>⟨?_,z.2⟩⟩;rcases hMo a z.1 with(w|⟨j,hj,w⟩)|w
     .exact .inl w
     .exfalso;have he:s.al++caps.filter (i6 env)=[]:=by simpa using hal
      rcases gg.mp hj with hj|hj
      .have:j∈s.al++caps.filter (i6 env):=qO _ hj;rw[he]at this;simp at this
      .have:j∈s.al++caps.filter (i6 env):=gk _ (tX.mpr ⟨hj,rep1.ow j a w⟩);rw[he]at this;simp at this
     .exact .inr ⟨⟨w,(fl2 a z.1 (rep1.same.free w)).elim id λq=>(rep1.zz a q.1 w).elim⟩,z.1⟩
    .rw[dS hal]at p;refine p _ (λa=>(M1 a\/(nl H1 H2 a/\M' a))\/a=Dl) H2 ⟨λ_ z=>.inl (.inl z),sm,λa z=>z.elim (XM.n a) λe=>.inr (e▸hDl)⟩ (RM.more hD2 d0 dow) ⟨Dl,acc,rfl,.inl ⟨hD2,.inl ⟨.inr rfl,λ_=>d0⟩⟩,isA.weak λa z=>?_⟩;rcases hMo a z.1 with(w|⟨j,hj,w⟩)|w
     .exact .inl ⟨.inl (.inl w),z.2⟩
     .refine .inr ⟨j,?_,w⟩;rcases gg.mp hj with hj|hj
      .exact qO _ hj
      .exact gk _ (tX.mpr ⟨hj,rep1.ow j a w⟩)
     .exact .inl ⟨.inl (.inr ⟨⟨w,(fl2 a z.1 (rep1.same.free w)).elim id λq=>(rep1.zz a q.1 w).elim⟩,z.1⟩),z.2⟩
def xP(si:M9 X.mg E wi src)(hix:∀j∈ix,j<tN.length)(hg:∀cl C s3 H3 fp,GO (dc X scope (tN++capN) cl C s3 H3 fp) ix tg asg)(ht:∀cl C s3 H3 fp,B4 (dc X scope (tN++capN) cl C s3 H3 fp) E0 ifs ft)(he:∀cl C s3 H3 fp,PD (dc X scope (tN++capN) cl C s3 H3 fp) E0 elt fe) :
 Snd X.mg E (DS X scope tg tN capN caps elt ifs wi) (cm tN.length caps src asg ft fe):=by
 intro g M ρ env σ H Q rep p;refine si g M ρ env σ H _ rep ?_;unfold cm at p;cases q:src env with
 |stuck=>rw[q]at p;exact p
 |exc c=>rw[q]at p;exact p
 |ok s=>
  rw[q]at p;simp only[Res.je]at p;intro J M1 H1 e1 rep1 wk Dl hDl cl C s3 fp;by_cases hlim:s.xs.length<=lim
  .rw[c5 hlim]at p;cases qc:ij (λd=>asg d s.fr (dv env tN.length caps)) ft fe s.xs with
   |stuck=>rw[qc]at p;exact p.elim
   |exc c=>rw[qc]at p;exact p.elim
   |ok full=>rw[qc]at p;have p:PostE X.mg E g M1 ρ env σ H1 Q (.ok (o_ (full.map R.d) (bz full) (s.al++caps.filter (i6 env)))):=PostE.ext e1 p;exact B5 hix hg ht he rep1 wk hlim qc p Dl hDl cl C s3 fp
  .rw[dS hlim]at p;exact p.elim
def bO(hc:X.calm=true)(S:bq X scope tN capN caps)(hi:GR X E tg iter src)(hix:∀j∈ix,j<tN.length)(hg:∀cl C s3 H3 fp,GO (dc X scope (tN++capN) cl C s3 H3 fp) ix tg asg)(ht:∀cl C s3 H3 fp,B4 (dc X scope (tN++capN) cl C s3 H3 fp) E0 ifs ft)(he:∀cl C s3 H3 fp,PD (dc X scope (tN++capN) cl C s3 H3 fp) E0 elt fe)
 (hs:autoParam (∀x,foldedSetIterable iter X.env x=pure x) RP):PD X E (.ListComp elt [⟨tg,iter,ifs,0⟩] scope pos) (cm tN.length caps src asg ft fe):=by
 obtain⟨wi,p1,s1⟩:=hi;exact⟨DS X scope tg tN capN caps elt ifs wi,λai s σ H Q I h=>DQ hc S I p1 h hs,xP s1 hix hg ht he⟩
def xQ(hc:X.calm=true)(S:bq X scope tN capN caps)(hN:X.N.Nodup)(hi':X.N[i]?=some y)(hy:X.env.scope.names.lookup y=some .local)
 (hi:GR X E tg iter src) (hix:∀j∈ix,j<tN.length) (hg:∀cl C s3 H3 fp,GO (dc X scope (tN++capN) cl C s3 H3 fp) ix tg asg) (ht:∀cl C s3 H3 fp,B4 (dc X scope (tN++capN) cl C s3 H3 fp) E0 ifs ft) (he:∀cl C s3 H3 fp,PD (dc X scope (tN++capN) cl C s3 H3 fp) E0 elt fe)
 (hsw:autoParam (swapsWith (.ListComp elt [⟨tg,iter,ifs,0⟩] scope pos) (some (.Name y py)) spos.line X.env=pure true) RQ) (hs:autoParam (∀x,foldedSetIterable iter X.env x=pure x) RP) :
 yW X E (.Assign [.Name y py] (.ListComp elt [⟨tg,iter,ifs,0⟩] scope pos) spos) (bS i (cm tN.length caps src asg ft fe)):=by
 obtain⟨wi,p1,s1⟩:=hi;exact⟨Gj (DS X scope tg tN capN caps elt ifs wi) (rQ i),λai s σ H D I h=>xO hc S hN hi' hy hsw I p1 h hs,AL (xP s1 hix hg ht he)⟩
end
def nw(N:List Str)(ds:List D):En:=ds.map (λd=>some (.val d false))++List.replicate (N.length-ds.length) none
def js:Res Fl->Res R
 |.ok (.nx _)=>.ok (.val .ig true [])
 |.ok (.rt r)=>.ok r
 |.ok _=>.stuck
 |.exc c=>.exc c
 |.stuck=>.stuck
def cb(N:List Str)(FB:En->Res Fl)(ds:List D):Res R:=js (FB (nw N ds))
def B6(is:IsAll H Ma ds vs):Rep (MU H Ma) (λa=>Ma a/\H a≠none) (λ_ _=>False) (nw N ds) (L2.k9 N vs) H where
 same:=Same.refl H
 mO:=λa z=>z.2
 y0:=λa z=>.inr z.1
 fl:=λa z h=>absurd h z.2
 slot:=λi sl e=>by
  have hl:=is.length;unfold nw at e;by_cases hi:i<ds.length
  .rw[kq (by simpa using hi),iX]at e;obtain⟨v,ev,iv⟩:=is.get (i:=i) (d:=ds[i]) (by simp[hi]);have e1:ds[i]?=some ds[i]:=by simp[hi]
   rw[e1]at e;cases e;refine⟨v,?_,Is.mono (λ_ _ q _=>q) (λa o q z=>⟨⟨z,by rw[q];simp⟩,λz=>by cases z⟩) iv⟩;unfold L2.k9;rw[kq (by simp;lia),iX,ev];rfl
  .rw[h_ (by simpa using hi),t4]at e;split at e<;>cases e
 bQ:=λ_ _ z=>z.elim
 apart:=λ_ _ _ z=>z.elim
 ow:=λ_ _ z=>z.elim
 len:=by have hl:=is.length;unfold nw L2.k9;simp[hl]
 zz:=λ_ z=>z.elim
section
def sl_tupW:SlR X (λx lo hi H Q=>∃a xs,x=.ref a/\SqT X.K H a xs/\(HT.sIx xs.length 0 lo=0/\HT.sIx xs.length xs.length hi=xs.length)/\Q x H):=by
 intro ai s σ H x v vl vu lo hi sl Q I rx hs pl pu h;obtain⟨a,xs,rfl,hx,hw,q⟩:=h;cases rx;obtain⟨its,r,ht,hz⟩:=I.tuple hx;have cK:its.toArray.size=xs.length:=by rw[cE];exact r.length.symm
 refine⟨"tuple",_,iV.lookup,ht.typeIs,?_⟩;obtain⟨os,hos,hcs,hds⟩:=id hs;have hTs:s.TypeIs (.ref sl) "slice":=⟨os,hos,hcs⟩;unfold getItem
 try with_reducible refine pU ?_
 first|refine aW (cZ ?_)|skip
 refine aW (wpAny_sequenceKey ht.typeIs (by decide) ?_);refine aW (kK (name:=Str.ofString "__getitem__") ht.typeIs iV
  (qE iV ht.typeIs entry_tuple_getitem ?_ (args_tuple_getitem _ _)))
 show wpAny _ _ (Builtin.Tuple.tupleItemsOf (.ref a) >>= _) _ _ s;refine aW (tupleItemsOf_ ht ?_);refine aW (tU hTs ?_);rw[c5 (by decide)];refine aW (HT.sliceApplied_gen hs pl pu ?_);have hyes:((((HT.sIx its.toArray.size 0 lo:Nat):Int)==0&&(1:Int)==1&&(HT.sIx its.toArray.size its.toArray.size hi-HT.sIx its.toArray.size 0 lo)==its.toArray.size)=true):=by rw[cK,hw.1,hw.2];simp
 show wpAny _ _ (if(((HT.sIx its.toArray.size 0 lo:Nat):Int)==0&&(1:Int)==1&&(HT.sIx its.toArray.size its.toArray.size hi-HT.sIx its.toArray.size 0 lo)==its.toArray.size)=true then _ else _) _ _ s;rw[c5 hyes];have fin:EP X ai σ Q (.ref a) s:=⟨.ref a,H,I,rfl,q⟩;refine aW (m:=Builtin.Tuple.tupleIsExact (.ref a)) ?_;unfold Builtin.Tuple.tupleIsExact;refine aW (tU ht.typeIs ?_);refine cZ ?_;rw[c5 (by decide)];exact aW (Rr (cZ ⟨_,rfl,cZ fin⟩))
end
section
def dw{α:Type}(xs:List α)(lo hi:Option Int):List α:=(xs.drop (HT.sIx xs.length 0 lo)).take (HT.sIx xs.length xs.length hi-HT.sIx xs.length 0 lo)
def IsAll.cut(h:IsAll H m ds vs)(lo hi:Option Int):IsAll H m (dw ds lo hi) (xr vs lo hi):=by unfold dw xr;rw[h.length];exact(h.drop _).take _
noncomputable def II(mg:Str->Option RE)(E:XK)(g:Gd)(M:Addr->Prop)(ρ:Pr)(env:En)(σ:St)(H:Hp)(Q:Option Int->Hp->Prop):Res (Option Int)->Prop
 |.stuck=>False
 |.exc c=>GJ mg E g c
 |.ok o=>∀M' H',Ext M H M' H'->Rep g M' ρ env σ H'->Q o H'
def OS(X:Cx)(E:XK)(e:Option Expr)(f:En->Res (Option Int)):Prop:=∃t,PO X e t/\∀g M ρ env σ H Q,Rep g M ρ env σ H->II X.mg E g M ρ env σ H Q (f env)->t σ H Q
noncomputable def gL:En->Res (Option Int):=λ_=>.ok none
def fX(f:En->Res R):En->Res (Option Int):=λenv=>(f env).bind λr=>match r.d with
 |.int i=>.ok (some i)
 |_=>.stuck
def cc:OS X E none gL:=⟨_,Gu,λg M ρ env σ H Q rep p=>p M H (Ext.refl _ _) rep⟩
def bL(h:PD X E e f):OS X E (some e) (fX f):=by
 obtain⟨t,p1,s1⟩:=h;refine⟨_,Gv p1,λg M ρ env σ H Q rep p=>s1.one rep (P:=λM H r=>II X.mg E g M ρ env σ H Q r) p (λ_ _ z=>z) (λ_ _ _ z=>z) (λM H M' H' r e p=>?_) λr v M1 H1 e1 rep1 is q=>?_⟩
 .cases r with
  |stuck=>exact p
  |exc c=>exact p
  |ok o=>exact λM2 H2 e2=>p M2 H2 (e.trans e2)
 .cases z:r.d with
  |int i=>rw[z]at is;simp only[z]at q;cases is;exact⟨i,rfl,q M1 H1 (Ext.refl _ _) rep1⟩
  |_=>simp only[z]at q;exact q.elim
noncomputable def D.ty:D->String
 |.ig=>"NoneType" |.bl _=>"bool" |.int _=>"int" |.str _=>"str" |.tup _=>"tuple" |.lst _=>"list" |.lS _ _=>"dict"
def Qz(K:RC)(H:Hp)(x:V)(t:RE):Prop:=pX K H x t\/(t=.type "dict"/\∃a,x=.ref a/\Qw H a)
theorem Is.ty{m:Addr->Prop}{v:V}{K:RC}(h:Is H m d v):Qz K H v (.type d.ty):=by
 cases d with
 |ig=>cases h;exact .inl .ig
 |bl b=>cases h;exact .inl (.bl b)
 |int b=>cases h;exact .inl (.int b)
 |str b=>cases h;exact .inl (.str b)
 |tup ds=>obtain⟨a,vs,rfl,h1,_⟩:=h;exact .inl (.tup h1)
 |lst ds=>
  obtain⟨a,vs,rfl,h1,_⟩:=h;rcases h1 with⟨h1,_⟩|⟨o,h1,_⟩
  .exact .inl (.lst h1)
  .exact .inl (.cQ h1)
 |lS ks ds=>obtain⟨a,kvs,rfl,h1,_⟩:=h;exact .inr ⟨rfl,a,rfl,h1.1.imp (λ⟨kvs,e,_⟩=>⟨kvs,e⟩) λ⟨kvs,e,_⟩=>⟨kvs,e⟩⟩
def GV(T:String)(d:D):Bool:=match d with
 |.ig=>T=="NoneType"
 |.bl _=>T=="bool" || T=="int"
 |.int _=>T=="int"
 |.str _=>T=="str"
 |.tup _=>T=="tuple"
 |.lst _=>T=="list"
 |.lS _ _=>T=="dict"
def B7(T:String):Prop:=∀(K:RC)(d:D),PySem.W.kitOne K (.type d.ty) (.type T)=some (GV T d)
def DT:B7 "int":=λK d=>by cases d<;>kernel_rfl
def B8:B7 "bool":=λK d=>by cases d<;>kernel_rfl
def uR:B7 "list":=λK d=>by cases d<;>kernel_rfl
def sx:B7 "tuple":=λK d=>by cases d<;>kernel_rfl
def DU:B7 "str":=λK d=>by cases d<;>kernel_rfl
def v_(T:String)(fa:En->Res R):En->Res R:=λenv=>(fa env).bind λr=>.ok (.val (.bl (GV T r.d)) true [])
def DV:CallR X (.builtin "isinstance") (λxs H Q=>∃x T t b,xs=[x,.ty T]/\Qz X.K H x t/\PySem.W.kitOne X.K t (.type T)=some b/\Q (.bl b) H):=by
 intro ai s σ H xs us Q I r h;obtain⟨x,T,t,b,rfl,ty,e,q⟩:=h;obtain⟨u,c,rfl,ru,rc⟩:=xp r;obtain rfl:c=Value.type T:=rc;rcases ty with ty|⟨rfl,a,rfl,hd⟩
 .exact BI I ru ty e λtk=>⟨.bl b,H,I.tok tk,rfl,q⟩
 .obtain rfl:u=Value.ref a:=ru;obtain⟨t1,_⟩:=J1 I hd;exact ki Rn I.vK t1 e (λz=>nomatch z) λtk=>⟨.bl b,H,I.tok tk,rfl,q⟩
def ny(hK:B7 T')(hg:Gl X "isinstance") (hm:X.mg "isinstance"=none) (hgT:Gl X T) (hmT:X.mg T=none) (hvT:bootBuiltins T=some (.type T')) (ha:PD X E e fa)
 (hnT:autoParam (T≠"__name__") RN) (hdT:autoParam (dB T) RN)
 (he:autoParam (starEach [e,.Name T q] X.env=(false,eval e X.env)::starEach [.Name T q] X.env) RQ) (he2:autoParam (starEach [.Name T q] X.env=(false,eval (.Name T q) X.env)::starEach [] X.env) RQ) (hpl:autoParam ((backTo pos (starEach [.Name T q] X.env)).any (·.1)=false) RQ) :
 PD X E (.Call (.Name "isinstance" p) [e,.Name T q] [] pos) (v_ T' fa):=by
 obtain⟨ta,p1,s1⟩:=ha;refine⟨_,rT DV hg hm (by decide +kernel) (d9 p1 (d9 (Ge hgT hmT hvT (v:=.ty T') rfl hnT hdT) gI he2) he) (by decide) (by decide) he hpl,λg M ρ env σ H Q rep p=>s1.gn rep p λr v M1 H1 e1 rep1 is q=>?_⟩;exact⟨v,T',_,_,rfl,is.ty,hK X.K r.d,q _ M1 H1 (Ext.refl _ _) rep1 rfl⟩
end
section
noncomputable def ik:List D->Option (List Bool)
 |[]=>some []
 |.bl b::r=>(ik r).map λbs=>b::bs
 |_::_=>none
def zo:List R->Res R
 |[r]=>match r.d with
  |.lst ds=>match ik ds with
   |some bs=>.ok (.val (.bl (bs.all id)) true [])
   |none=>.stuck
  |_=>.stuck
 |_=>.stuck
theorem uS:∀{ds:List D}{bs:List Bool}{i:Nat}{d:D},ik ds=some bs->ds[i]?=some d->∃b,d=.bl b/\bs[i]?=some b
 |[],_,_,_,_,e=>by simp at e
 |.bl b::r,bs,0,d,h,e=>by
  simp at e;subst e;unfold ik at h;cases q:ik r with
  |none=>rw[q]at h;cases h
  |some bs'=>rw[q]at h;cases h;exact⟨b,rfl,rfl⟩
 |.bl b::r,bs,i+1,d,h,e=>by
  unfold ik at h;cases q:ik r with
  |none=>rw[q]at h;cases h
  |some bs'=>rw[q]at h;cases h;obtain⟨b',e1,e2⟩:=uS (i:=i) q (by simpa using e);exact⟨b',e1,by simpa using e2⟩
 |.ig::_,_,_,_,h,_=>by cases h
 |.int _::_,_,_,_,h,_=>by cases h
 |.str _::_,_,_,_,h,_=>by cases h
 |.tup _::_,_,_,_,h,_=>by cases h
 |.lst _::_,_,_,_,h,_=>by cases h
theorem uT:∀{ds:List D}{bs:List Bool},ik ds=some bs->bs.length=ds.length
 |[],_,h=>by cases h;rfl
 |.bl b::r,bs,h=>by
  unfold ik at h;cases q:ik r with
  |none=>rw[q]at h;cases h
  |some bs'=>rw[q]at h;cases h;simp[uT q]
 |.ig::_,_,h=>by cases h
 |.int _::_,_,h=>by cases h
 |.str _::_,_,h=>by cases h
 |.tup _::_,_,h=>by cases h
 |.lst _::_,_,h=>by cases h
def B9(hc:X.calm=true):CallR X (.builtin "all") (λxs H Q=>∃(p:Addr)(vs:List V)(bs:List Bool),xs=[.ref p]/\SqL X.K H p vs/\vs=bs.map V.bl/\Q (.bl (bs.all id)) H):=by
 intro ai s σ H xs us Q I r h;obtain⟨p,vs,bs,rfl,hq,rfl,q⟩:=h;obtain⟨u,rfl,rx⟩:=i4 r;cases rx;obtain⟨its,rv,pl,hz⟩:=I.list hq;have hh:X.A.in1.handled=none:=I.ok.hd hc;obtain⟨o,ho,_⟩:=pl.isList;have hlt:p<s.heap.objs.size:=dN ho;refine call_all_walk (kn pl.isList ?_);refine⟨s.heap.objs.size,_,_,_,_,_,λi=>(bs[i]?).getD true,rfl,Walks.list hh s.heap.objs.size p (dU hlt) its.toArray,⟨⟨_,dO _ rfl,rfl,rfl⟩,?_⟩,?_,λh' tk hk=>?_⟩
 .exact pl.isList.at λo e=>cA _ e
 .intro i v s' Q' E' hv hQ';have hv:its[i]?=some v:=by simpa using hv
  have hi:i<its.length:=(cD.mp hv).1;have hl:=rv.length;have hb:i<bs.length:=by simpa using(by rw[bH]at hl;lia:i<bs.length)
  obtain⟨u',hu,ru⟩:=rv.get (i:=i) (x:=.bl bs[i]) (by simp[hb]);rw[hv]at hu;cases hu;cases ru;have eb:bs[i]?=some bs[i]:=by simp[hb]
  dsimp only at hQ';rw[eb]at hQ';exact kG hQ'
 .have hl:=rv.length;rw[bH]at hl;have e:((List.range its.toArray.size).all λi=>(bs[i]?).getD true)=bs.all id:=by
   rw[cE,<- hl];rw[Bool.eq_iff_iff,g6,g6];constructor
   .intro h b hb;obtain⟨i,hi⟩:=gm.mp hb;have:=h i (by simp;exact(cD.mp hi).1);rw[hi]at this;exact this
   .intro h i hi;have hi:i<bs.length:=by simpa using hi
    have eb:bs[i]?=some bs[i]:=by simp[hi]
    rw[eb];exact h _ (F2 hi)
  rw[e];refine⟨.bl _,H,?_,rfl,q⟩;have I1:L2.Inv X ai σ H { s with heap:=s.heap.push { cls:=.type "list_iterator",data:=.fields #[.ref p,.int 0 0] } }:=I.kept (t':=s.toks) λb o e=>cA _ e;have fo:=I.uA (H':=H) (cC s.heap.objs.size) (I.bC.fresh (cC _));exact I1.turned (t':=tk) (it:=s.heap.objs.size) (λb o hb e=>hk b o (by simpa using hb) e) fo.1 fo.2.1 fo.2.2.2.1 fo.2.2.2.2.1 fo.2.2.2.2.2
def wa(hc:X.calm=true):jp X E (.builtin "all") zo:=by
 refine⟨_,B9 hc,λg M ρ env σ H Q rs vs rep i p=>?_⟩;rcases rs with _|⟨r,_|_⟩
 .exact p.elim
 rotate_left
 .exact p.elim
 obtain⟨v,w,rfl,i1,i2⟩:=i;cases i2;have i1:Is H (vmsk g M (bz [r]) ρ (bR [r])) r.d v:=i1;unfold zo at p;dsimp only at p;cases q:r.d with
 |lst ds=>
  rw[q]at p i1;obtain⟨a,ws,rfl,h1,h2⟩:=i1.rd;dsimp only at p;cases qb:ik ds with
  |none=>rw[qb]at p;exact p.elim
  |some bs=>
   rw[qb]at p;refine⟨a,ws,bs,rfl,.inl h1,?_,p _ M H (Ext.refl _ _) rep rfl⟩;apply List.ext_getElem?
   intro j;by_cases hj:j<ds.length
   .obtain⟨b,e1,e2⟩:=uS (i:=j) (d:=ds[j]) qb (by simp[hj]);obtain⟨v',ev,iv⟩:=h2.get (i:=j) (d:=ds[j]) (by simp[hj]);rw[e1]at iv;cases iv;rw[ev,iX,e2];rfl
   .have l1:=h2.length;have l2:=uT qb;rw[Ap (by lia),Ap (by simp;lia)]
 |_=>rw[q]at p;exact p.elim
mutual
theorem Is.sh(hp:∀a,m a->Mu H a):∀{d:D}{v:V},Is H m d v->IsSh H m d v
 |.ig,_,_=>True.intro
 |.bl _,_,_=>True.intro
 |.int _,_,_=>True.intro
 |.str _,_,_=>True.intro
 |.tup ds,_,h=>by obtain⟨a,vs,e,h1,h2⟩:=h;exact⟨a,vs,e,h1,IsAll.sh hp h2⟩
 |.lst ds,_,h=>by
  obtain⟨a,vs,e,h1,h2⟩:=h;rcases h1 with⟨h1,h3⟩|⟨o,h1,h3⟩
  .exact⟨a,vs,e,h1,h3⟩
  .obtain⟨uo,z,zm⟩:=hp a h3;rw[h1]at z;cases z;exact zm.elim
 |.lS _ _,_,_=>True.intro
theorem IsAll.sh(hp:∀a,m a->Mu H a):∀{ds:List D}{vs:List V},IsAll H m ds vs->IsShs H m ds vs
 |[],_,_=>True.intro
 |d::ds,_,h=>by obtain⟨v,r,e,h1,h2⟩:=h;exact⟨v,r,e,Is.sh hp h1,IsAll.sh hp h2⟩
end
end
def PB(K:RC)(a:Addr):It:=⟨λi H=>∃xs x,SqL K H a xs/\xs[i]?=some x,λi H y H'=>∃p x,H p=none/\y=.ref p/\H'=ck H p (.tup [.int (i:Nat),x])/\∀xs,SqL K H a xs->xs[i]?=some x,λi H=>∃xs,SqL K H a xs/\xs.length<=i⟩
def B_{P:RD}{w:World}{K:RC}(a it e:Addr)(hei:e≠it):Turn P w K (.Tuple es k pos) (PB K a) [e,it] e (λi h=>(∃old,IsEnum h e it i old)/\h.IsListIter it a i) where
 mem:=by simp
 obj:=λi h st b hb=>by
  obtain⟨⟨old,he⟩,o,ho,c,d⟩:=st;rcases cB.mp hb with rfl|hb
  .exact⟨_,he,λv z=>by cases z⟩
  .have:b=it:=by simpa using hb
   subst this;exact⟨o,ho,λv z=>by rw[d]at z;cases z⟩
 keep:=λi h h' st kk=>by obtain⟨⟨old,he⟩,hl⟩:=st;exact⟨⟨old,kk e (by simp) _ he⟩,hl.at λo q=>kk it (by simp) o q⟩
 item:=by
  intro X hP hw hK hc i ai s σ H E I hf st hg;subst hP hw hK;obtain⟨xs,x,hq,hx⟩:=hg;obtain⟨⟨old,he⟩,hl⟩:=st;obtain⟨its,rv,p,hz⟩:=I.list hq;obtain⟨u,hu,ru⟩:=rv.get hx;have fe:=hf e (by simp);have fi:=hf it (by simp);have hai:a≠it:=by intro z;obtain⟨o1,e1,c1,_⟩:=p.isList;obtain⟨o2,e2,c2,_⟩:=hl;rw[z,e2]at e1;cases e1;rw[c2]at c1;injection c1 with z;exact absurd z (by decide)
  have hae:a≠e:=by intro z;obtain⟨o1,e1,c1,_⟩:=p.isList;rw[z,he]at e1;cases e1;injection c1 with z;exact absurd z (by decide)
  have hh:X.A.in1.handled=none:=I.ok.hd hc;have hil:i<its.length:=(cD.mp hu).1;refine wpAny_pyNext_enum_itemD (Draws.list hh it a hai its.toArray) he ⟨hl,p.isList⟩ (by simpa using hil) hei (by simp;exact⟨hei,kF hae⟩) λx' h' tk hx' ho hs' hT hsz hk=>?_;have ex:x'=u:=by
   have:its[i]?=some x':=by simpa using hx'
   rw[hu]at this;exact(ia this).symm
  subst ex;refine⟨_,rfl,wpAny_letOwnedTupleGo_enum ho λh'' he'' hs''=>?_⟩;have keep2:∀b o,b≠e->b≠it->s.heap.get? b=some o->h''.get? b=some o:=λb o n1 n2 q=>(hs''.2 b n1).trans (hk b o n1 n2 q);have hTe:s.heap.objs.size≠e:=qJ (dN he);have hT'':h''.get? s.heap.objs.size=some { cls:=.type "tuple",data:=.seq #[.int i tk,x'] }:=(hs''.2 _ hTe).trans hT;have I1:L2.Inv X ai σ (ck H s.heap.objs.size (.tup [.int (i:Nat),x])) {s with heap:=h'',toks:=tk+1}:=by
   refine I.step (g':=s.gens) (d':=s.drawn) (ch:=[e,it]) (λb hb=>?_) (λb o _ _ hn q _=>keep2 b o (λz=>hn (by simp[z])) (λz=>hn (by simp[z])) q)
    (λb o _ _ hn q _=>⟨o.slots,keep2 b o (λz=>hn (by simp[z])) (λz=>hn (by simp[z])) q⟩) (λb o _ q hH=>by rw[aJ (dU (dN q))];exact hH)
    (λb o hn q=>⟨o,keep2 b o (λz=>hn (by simp[z])) (λz=>hn (by simp[z])) q⟩) (λb ys q=>by rw[aJ (aA q (I.bC.fresh (cC _)))];exact q)
    (λb o' u' q=>by rw[aJ (aA q (I.bC.fresh (cC _)))];exact q) (λb ps q=>⟨#[],by rw[aJ (aA q (I.bC.fresh (cC _)))];simp[q]⟩) (λm hm=>?_) (λb u' q=>?_) I.bare
   .rcases cB.mp hb with rfl|hb
    .exact⟨fe.2.2.2.1,fe.2.1,fe.2.2.2.2.1,fe.2.2.2.2.2⟩
    .have:b=it:=by simpa using hb
     subst this;exact⟨fi.2.2.2.1,fi.2.1,fi.2.2.2.2.1,fi.2.2.2.2.2⟩
   .obtain⟨o,es',ep,ho',r⟩:=hm;exact⟨o,es',ep,keep2 _ o (kF fe.2.1) (kF fi.2.1) ho',r⟩
   .by_cases hb:b=s.heap.objs.size
    .subst hb;rw[aY]at q;cases q;refine⟨by show 2<=sizeLine;decide,[.int i tk,x'],.cons ⟨tk,rfl⟩ (.cons ru .nil),⟨_,hT'',rfl,0,rfl⟩⟩
    .rw[aJ hb]at q;refine(I.bC b u' q).stay (λc v hc' q'=>keep2 c v ?_ ?_ q') (λc r=>by rw[aJ (aA r (I.bC.fresh (cC _)))];exact r) λc ys r=>by rw[aJ (aA r (I.bC.fresh (cC _)))];exact r
     .rcases hc' with z|z
      .rw[z];exact aA q fe.1
      .exact aA z fe.1
     .rcases hc' with z|z
      .rw[z];exact aA q fi.1
      .exact aA z fi.1
  refine⟨.ref s.heap.objs.size,_,I1,rfl,⟨_,x,I.bC.fresh (cC _),rfl,rfl,λys hy=>by rw[I.yT hy hq];exact hx⟩,⟨⟨_,by simpa using he''⟩,?_⟩,λb hb=>?_⟩
  .obtain⟨o,q,r⟩:=hs'.1;exact⟨o,(hs''.2 it (kF hei)).trans q,r⟩
  .rcases cB.mp hb with rfl|hb
   .rw[aJ (dU (dN he))];exact fe.1
   .have:b=it:=by simpa using hb
    subst this;obtain⟨o,q,_⟩:=hl;rw[aJ (dU (dN q))];exact fi.1
 done:=by
  intro X hP hw hK hc i ai s σ H E I hf st hg;subst hP hw hK;obtain⟨xs,hq,hx⟩:=hg;obtain⟨⟨old,he⟩,hl⟩:=st;obtain⟨its,rv,p,hz⟩:=I.list hq;have fi:=hf it (by simp);have hai:a≠it:=by intro z;obtain⟨o1,e1,c1,_⟩:=p.isList;obtain⟨o2,e2,c2,_⟩:=hl;rw[z,e2]at e1;cases e1;rw[c2]at c1;injection c1 with z;exact absurd z (by decide)
  have hh:X.A.in1.handled=none:=I.ok.hd hc;have hln:=rv.length;have Dr:Draws X.prog X.w X.A.in1 it [it,a] 0 (λ_ _=>True) (λ_ h=>h.IsListIter it a i/\h.IsList a its.toArray):=
   { live:=λ_ _ st=>let ⟨o,ho,_⟩:=st.1;⟨o,ho⟩
     frame:=λ_ _ _ st hk=>⟨st.1.at λo e=>hk it (by simp) o e,st.2.at λo e=>hk a (by simp) o e⟩
     item:=λi s Q E hi=>absurd hi (by lia)
     done:=λs Q E st hE=>wpAny_nextOf_list_end hh st.1 st.2 (by simp;lia) hE }
  exact wpAny_pyNext_enum_endD Dr he ⟨hl,p.isList⟩ λh' eb=>⟨rfl,I.turned (t':=s.toks) (λb o hb e=>eb b o hb e) fi.1 fi.2.1 fi.2.2.2.1 fi.2.2.2.2.1 fi.2.2.2.2.2⟩
 self:=λA i s Q E st h=>by obtain⟨⟨old,he⟩,_⟩:=st;exact wpAny_pyIter_enum he h
section
def Nc(K:RC)(ta:TA):TI:=λσ H R=>ta σ H λvs H1=>∃a xs,vs=[.ref a]/\SqL K H1 a xs/\R (PB K a) H1
def GW{l:Expr}(hg:Gl X "enumerate") (hm:X.mg "enumerate"=none) (ha:PA X [l] ta) (hs:autoParam (starEach [l] X.env=[(false,eval l X.env)]) RQ):PI X (.Tuple es k Ip) (.Call (.Name "enumerate" p) [l] [] pos) (Nc X.K ta):=by
 intro ai s σ H R I h;refine Call_ (kY I hg hm (by decide +kernel:bootBuiltins "enumerate"=some (.type "enumerate")) (jN (dY (ha pos ai s σ H _ I h) λus s1 ⟨vs,H1,I1,r1,q1⟩=>?_) hs rfl));obtain⟨a,xs,e,hq,q⟩:=q1;subst e;cases r1 with
 |cons r rr=>
  cases rr;cases r;obtain⟨its,rv,pl,hz⟩:=I1.list hq;refine call_enumerate_list pl.isList λh' he hl hsz kp=>?_;have I2:L2.Inv X ai σ H1 {s1 with heap:=h'}:=I1.kept (t':=s1.toks) kp;refine wpAny_pyIter_enum he ?_;refine⟨s1.heap.objs.size+1,[s1.heap.objs.size+1,s1.heap.objs.size],_,_,H1,rfl,I2,B_ a s1.heap.objs.size (s1.heap.objs.size+1) (Nat.succ_ne_self _),⟨⟨_,by simpa using he⟩,hl⟩,λb hb=>?_,q⟩;rcases cB.mp hb with rfl|hb
  .exact I1.uA (Nat.le_succ _) (I1.bC.fresh (Nat.le_succ _))
  .have e:b=s1.heap.objs.size:=by simpa using hb
   subst e;exact I1.uA (cC _) (I1.bC.fresh (cC _))
def fC:Nat->List D->List D
 |_,[]=>[]
 |n,d::ds=>.tup [.int (n:Nat),d]::fC (n+1) ds
theorem uU:∀(ds:List D)(n i:Nat),(fC n ds)[i]?=(ds[i]?).map λd=>.tup [.int ((n+i:Nat):Int),d]
 |[],_,_=>by simp[fC]
 |d::ds,n,0=>by simp[fC]
 |d::ds,n,i+1=>by
  have:=uU ds (n+1) i;simp only[fC,List.getElem?_cons_succ,this];congr 1;funext d;have e:n+1+i=n+(i+1):=by lia
  rw[e]
theorem uV:∀(ds:List D)(n:Nat),(fC n ds).length=ds.length
 |[],_=>rfl
 |d::ds,n=>by simp[fC,uV ds]
def Ca{K:RC}{a:Addr}{m:Addr->Prop}(h:(H a=some (.lst vs)/\m a)\/∃o,H a=some (.cQ o (.lst vs))/\m a)(is:IsAll H m ds vs):Walk (PB K a) m H (fC 0 ds):=by
 have st:∀H',(∀a o,H a=some o->(m a\/gP o)->H' a=some o)->SqL K H' a vs:=λH' k=>by
  rcases h with⟨h,hm⟩|⟨o,h,_⟩
  .exact .inl (.inl (k a _ h (.inl hm)))
  .exact .inl (.inr ⟨o,k a _ h (.inr True.intro)⟩)
 refine⟨λH' i d k e=>?_,λH' k=>⟨vs,st H' k,by rw[is.length,uV];exact cC _⟩⟩;rw[uU]at e;cases q:ds[i]? with
 |none=>rw[q]at e;cases e
 |some d0=>
  rw[q]at e;have e:D.tup [.int ((0+i:Nat):Int),d0]=d:=by simpa using e
  obtain⟨v,ev,iv⟩:=(is.mono k λ_ _ _ z=>z:IsAll H' m ds vs).get q;refine⟨⟨vs,v,st H' k,ev⟩,λx H'' y=>?_⟩;obtain⟨p,x',hp,rfl,rfl,y⟩:=y;have:=y vs (st _ k);rw[ev]at this;cases this;have sm:Same H' (ck H' p (.tup [.int (i:Nat),v])):=ca hp;refine⟨sm,?_⟩;rw[<- e,Rz];exact⟨p,_,rfl,aY,.int (i:Nat),[v],rfl,rfl,v,[],rfl,Is.same sm iv,rfl⟩
def uW(fs:En->Res (List R)):En->Res Src:=λenv=>(fs env).bind λrs=>match rs with
 |[r]=>match r.d with
  |.lst ds=>.ok ⟨fC 0 ds,r.fr,r.al⟩
  |_=>.stuck
 |_=>.stuck
def n8(hg:Gl X "enumerate") (hm:X.mg "enumerate"=none) (ha:AJ X E [l] fs) (hs:autoParam (starEach [l] X.env=[(false,eval l X.env)]) RQ):GR X E (.Tuple es k Ip) (.Call (.Name "enumerate" p) [l] [] pos) (uW fs):=by
 obtain⟨t,p1,s1⟩:=ha;refine⟨_,GW hg hm p1 hs,λg M ρ env σ H Rq rep p=>s1.one rep (P:=λM H r=>PostI X.mg E g M ρ env σ H Rq r) p (λ_ _ z=>z) (λ_ _ _ z=>z) (λ_ _ _ _ _ e p=>p.ext e) λrs vs M1 H1 e1 rep1 is q=>?_⟩;rcases rs with _|⟨r,_|_⟩
 .exact q.elim
 rotate_left
 .exact q.elim
 obtain⟨v,w,rfl,i1,i2⟩:=is;cases i2;have i1:Is H1 (vmsk g M1 (bz [r]) ρ (bR [r])) r.d v:=i1;replace i1:=i1.weak λ_ z=>rE z;dsimp only at q;cases z:r.d with
 |lst ds=>rw[z]at i1;rw[z]at q;dsimp only at q;obtain⟨a,ws,rfl,h1,h2⟩:=i1;exact⟨a,ws,rfl,.inl (h1.imp (·.1) λ⟨o,z,_⟩=>⟨o,z⟩),q _ M1 H1 (Ext.refl _ _) rep1 (Ca h1 h2)⟩
 |_=>rw[z]at q;exact q.elim
end
noncomputable def QA(osc:Scope)(N:List Str)(scope:Scope)(tN capN:List Str)(caps:List Nat):Bool:=
 (scope.kind==.function)&&scope.names.all (λy=>y.2 != .cell)&&scope.names.all (λy=>y.2 != .local || scope.names.lookup y.1==some .local)&&tN.all (λx=>scope.names.lookup x==some .local) &&
 scope.names.all (λy=>y.2 != .free ||(osc.names.lookup y.1==some .cell || osc.names.lookup y.1==some .free))&&(capN.zip caps).all (λp=>N[p.2]?==some p.1)&&(caps.length==capN.length) &&
 capN.all (λy=>osc.names.lookup y==some .cell || osc.names.lookup y==some .free)&&capN.all (λy=>scope.names.lookup y==some .free)&&decide (tN++capN).Nodup
def bq.of(h1:X.env.scope=osc)(h2:X.N=N)(h3:QA osc N scope tN capN caps=true):bq X scope tN capN caps:=by
 unfold QA at h3;simp only[fq,g6,nR,tW,bne_iff_ne,gq,ne_eq]at h3;obtain⟨⟨⟨⟨⟨⟨⟨⟨⟨a1,a2⟩,a3⟩,a4⟩,a5⟩,a6⟩,a7⟩,a8⟩,a9⟩,a10⟩:=h3;subst h1 h2;refine⟨a1,a2,λy hy hl=>(a3 y hy).resolve_left λz=>z hl,a4,λy hy hf=>(a5 y hy).resolve_left λz=>z hf,⟨λk y e=>?_,a8,a9,a7⟩,a10⟩;have hk:k<capN.length:=(cD.mp e).1;have hk2:k<caps.length:=by lia
 refine⟨caps[k],by simp[hk2],?_⟩;have hm:(y,caps[k])∈capN.zip caps:=by
  have:(capN.zip caps)[k]?=some (y,caps[k]):=by rw[List.getElem?_zip_eq_some];exact⟨e,by simp[hk2]⟩
  exact fj this
 exact a6 _ hm
structure Fn(K:RC) (mg:Str->Option RE) (x:Str) (st:Stmt) (ps:List Str) (f:Addr) (fd:FuncData):Prop where
 fu:Mk K x x st f fd
 bi:Binds K fd ps []
 gl:mg x=some (.ref f)
def OT(F:List D->Res R):Sp:=λvs H Q _=>vs.length=1/\∃ds Ma r,IsAll H Ma ds vs/\F ds=.ok r/\∀v H',Same H H'->RetOk (MU H Ma) H' v r->Q v H'
theorem sy:∀ns:List Int,IsAll H m (ns.map D.int) (ns.map V.int)
 |[]=>rfl
 |n::r=>⟨.int n,r.map V.int,rfl,rfl,sy r⟩
def Ke(hF:∀ns:List Int,ns.length<=63->∃f al,F [.lst (ns.map .int)]=.ok (.val (.bl true) f al))(H:Hp)(a:Addr)(ns:List Int)(hl:ns.length<=63)(hS:∃o,H a=some (.cQ o (.lst (ns.map V.int)))) :
 OT F [.ref a] H (λv _=>v=.bl true) λ_ _ _=>False:=by
 obtain⟨f,al,e⟩:=hF ns hl;obtain⟨o,hS⟩:=hS;exact⟨rfl,[.lst (ns.map .int)],λb=>b=a,_,⟨_,[],rfl,⟨a,ns.map V.int,rfl,.inr ⟨o,hS,rfl⟩,sy ns⟩,rfl⟩,e,λv H' _ h=>h⟩
section
variable{P:RD}{w:World}{K:RC}{mg:Str->Option RE}{base:Heap}
def bE.top(h:bE P w K mg base CX k f fd ps (iZ mg 1 F)):bE P w K mg base CX k f fd ps (OT F):=h.imp λvs H Q E ⟨hl,ds,Ma,r,is,e,q⟩=>⟨hl,ds,Ma,is,by rw[e];exact q⟩
def bw{x qual:Str}{st:Stmt}{f:Addr}{FB:En->Res Fl}(F:Mk K x qual st f fd)(S:aP N ps (am st))
 (body:∀(cdv:RE)(A:RF)(outer:List Env)(s:RB)(H:Hp)(E:XK),kh k (A.deeper (envOfC qual (am st) s.heap.objs.size f cdv))->xL (p4 P w K mg base N qual (am st) f cdv A outer s H E) E (aI st) FB) :
 bE P w K mg base (g_ P w) (k+1) f fd ps (iZ mg ps.length (cb N FB)):=by
 obtain⟨oc,od,kV,doc,pm,an,cdv,ct,osl,rfl,lk,hcd⟩:=F.ex;refine MF lk hcd S (λvs H Q E h=>h.1) λA outer s H vs Q E hr hsp=>?_;obtain⟨hl,ds,Ma,is,post⟩:=hsp;obtain⟨t,p1,s1⟩:=body cdv A outer s H E hr;refine⟨t,p1,s1 (MU H Ma) _ _ (nw N ds) (L2.k9 N vs) H _ (B6 is) ?_⟩;unfold cb at post;cases q:FB (nw N ds)with
 |stuck=>rw[q]at post;exact post
 |exc c=>rw[q]at post;exact post
 |ok r=>
  rw[q]at post;cases r with
  |nx env=>exact λσ M' ρ' H' _ rep=>post .ig H' rep.same rfl
  |rt r=>exact λv M' H' _ s ro _=>post v H' s (ro λ_ z=>z)
  |rm r env=>exact post.elim
  |bk env=>exact post.elim
  |ct env=>exact post.elim
def mS:ph (g_ P w) X E0:=λ_ _ _ _ _ _ _ h=>by obtain⟨_,_,_,_,_,_,_,_,_,_,_,_,_,_,_,z⟩:=h;exact z.elim
end
def Kf(h:g_ P w l H s (λ_ _ _=>False) e s'):False:=by obtain⟨_,_,_,_,_,_,_,_,_,_,_,_,_,_,_,z⟩:=h;exact z
section
variable{P:RD}{w:World}{K:RC}{mg:Str->Option RE}{base:Heap}{N:List Str}{qual:Str}{scope:Scope}{f:Addr}{cd:RE}{A:RF}{outer:List Env}{s₀:RB}{H₀:Hp}{E:XK}
def fE(c:Str)(fs:En->Res (List R)):En->Res Fl:=λenv=>(fs env).bind λrs=>if rs.length<=lim then .exc c else .stuck
def b7{np cpos pos:Pos}{e₀:Expr}{bj:List Expr}{fs:En->Res (List R)}(hc:XC K mg c C)(hg:Gl (p4 P w K mg base N qual scope f cd A outer s₀ H₀ E) c)(ha:AJ (p4 P w K mg base N qual scope f cd A outer s₀ H₀ E) E (e₀::bj) fs)
 (he:autoParam (starEach (e₀::bj) (p4 P w K mg base N qual scope f cd A outer s₀ H₀ E).env=(false,eval e₀ (p4 P w K mg base N qual scope f cd A outer s₀ H₀ E).env)::starEach bj (p4 P w K mg base N qual scope f cd A outer s₀ H₀ E).env) RQ)
 (hpl:autoParam ((backTo cpos (starEach bj (p4 P w K mg base N qual scope f cd A outer s₀ H₀ E).env)).any (·.1)=false) RQ) (hd:autoParam (dB c) RN) :
 yW (p4 P w K mg base N qual scope f cd A outer s₀ H₀ E) E (.Raise (some (.Call (.Name c np) (e₀::bj) [] cpos)) none pos) (fE c fs):=by
 obtain⟨t,p1,s1⟩:=ha;refine⟨_,Dj (EW:=λH=>E (.ref C) none H) hc hg rfl p1 (λai σ H s h' x args I hm hE=>GA I hm hE) he hpl hd,λg M ρ env σ H D rep p=>?_⟩;refine s1 g M ρ env σ H _ rep ?_;unfold fE at p;cases q:fs env with
 |stuck=>rw[q]at p;exact p
 |exc c'=>rw[q]at p;exact p
 |ok rs=>
  rw[q]at p;simp only[Res.je]at p;intro vs M1 H1 e1 rep1 is;by_cases hl:rs.length<=lim
  .rw[c5 hl]at p;refine⟨by rw[is.length,bH];exact gJ hl,?_⟩;exact p (.ref C) none H1 hc.gl rep1.same
  .rw[dS hl]at p;exact p.elim
end
structure FY(z TI TO i1 i2:Addr):Prop where
 TIz:TI≠z
 TOz:TO≠z
 i1z:i1≠z
 i2z:i2≠z
 TITO:TI≠TO
 TIi1:TI≠i1
 TIi2:TI≠i2
 TOi1:TO≠i1
 TOi2:TO≠i2
 i12:i1≠i2
def Kg(n:Nat):FY (n+4) (n+2) (n+3) n (n+1):=
 ⟨(show(n+2:Nat)≠n+4 by lia),(show(n+3:Nat)≠n+4 by lia),(show(n:Nat)≠n+4 by lia),(show(n+1:Nat)≠n+4 by lia),(show(n+2:Nat)≠n+3 by lia),(show(n+2:Nat)≠n by lia),(show(n+2:Nat)≠n+1 by lia),
   (show(n+3:Nat)≠n by lia),(show(n+3:Nat)≠n+1 by lia),(show(n:Nat)≠n+1 by lia)⟩
section
def mJ:List D->List D->List D
 |d::ds,e::es=>.tup [d,e]::mJ ds es
 |_,_=>[]
theorem xR:∀(ds es:List D)(i:Nat),(mJ ds es)[i]?=(match ds[i]?,es[i]? with|some d,some e=>some (.tup [d,e])|_,_=>none)
 |[],_,_=>by simp[mJ]
 |d::ds,[],i=>by simp only[mJ,List.getElem?_nil];cases(d::ds)[i]?<;>rfl
 |d::ds,e::es,0=>by simp[mJ]
 |d::ds,e::es,i+1=>by simp only[mJ,List.getElem?_cons_succ];exact xR ds es i
theorem xS:∀(ds es:List D),(mJ ds es).length=min ds.length es.length
 |[],_=>by simp[mJ]
 |d::ds,[]=>by simp[mJ]
 |d::ds,e::es=>by simp only[mJ,gK,xS ds es];lia
def AO(h:vmsk g M (bz [r,q]) ρ (bR [r,q]) a):vmsk g M (r.fr&&q.fr) ρ (r.al++q.al) a:=by
 have e1:bz [r,q]=(r.fr&&q.fr):=by simp[bz]
 have e2:bR [r,q]=r.al++q.al:=by simp[bR]
 rw[e1,e2]at h;exact h
end
section
def PC(k:Int->Int->Int):List R->Res R
 |[r,q]=>match r.d,q.d with
  |.int i,.int j=>.ok (.val (.int (k i j)) true [])
  |_,_=>.stuck
 |_=>.stuck
def Kh:List R->Res R:=PC λi j=>if j>i then j else i
def Nd(h:CallR X f (λxs H Q=>∃i j,xs=[.int i,.int j]/\Q (.int (k i j)) H)):jp X E f (PC k):=by
 refine⟨_,h,λg M ρ env σ H Q rs vs rep i p=>?_⟩;rcases rs with _|⟨r,_|⟨q,_|_⟩⟩
 .exact p.elim
 .exact p.elim
 rotate_left
 .exact p.elim
 obtain⟨v,w,rfl,i1,v2,w2,rfl,i2,i3⟩:=i;cases i3;have i1:Is H (vmsk g M (bz [r,q]) ρ (bR [r,q])) r.d v:=i1;have i2:Is H (vmsk g M (bz [r,q]) ρ (bR [r,q])) q.d v2:=i2;unfold PC at p;dsimp only at p;cases z:r.d with
 |int a=>
  cases z2:q.d with
  |int b=>rw[z]at i1;rw[z2]at i2;rw[z,z2]at p;cases i1;cases i2;exact⟨a,b,rfl,p _ M H (Ext.refl _ _) rep rfl⟩
  |_=>rw[z,z2]at p;exact p.elim
 |_=>rw[z]at p;exact p.elim
def Ki(hc:X.calm=true):jp X E (.builtin "max") Kh:=Nd (BG hc)
end
section
def zp(fa:En->Res R):En->Res R:=λenv=>(fa env).bind λra=>match ra.d with
 |.int i=>.ok (.val (.int (-i)) true [])
 |_=>.stuck
def zq(ha:PD X E a fa):PD X E (.UnaryOp .USub a pos) (zp fa):=by
 obtain⟨ta,pa,sa⟩:=ha;refine⟨_,Mw JQ pa,λg M ρ env σ H Q rep p=>sa.gn rep p λr v M' H' e rep' i p'=>?_⟩;cases q:r.d with
 |int b=>rw[q]at i;simp only[q]at p';cases i;exact⟨b,rfl,p' _ M' H' (Ext.refl _ _) rep' rfl⟩
 |_=>simp only[q]at p';exact p'.elim
open Classical in
def c6(H:Hp)(m:Addr->Prop)(x:D)(u:RE):Bool:=decide (∃d v,RelV v u/\Is H m d v/\b6 d x=true)
def pz(r:RelV v u)(h:Is H m d v):c6 H m x u=b6 d x:=by
 unfold c6;cases q:b6 d x with
 |true=>exact @gh _ (Classical.propDecidable _) ⟨d,v,r,h,q⟩
 |false=>refine @fm _ (Classical.propDecidable _) λ⟨d',v',r',h',q'⟩=>?_;have e:=L2.RelV.inj r r';subst e;have e:=Is.inj h h';subst e;rw[q]at q';cases q'
theorem jt:∀{ds:List D}{vs:List V}{us:List RE},IsAll H m ds vs->Vals vs us->us.any (c6 H m x)=ds.any λd=>b6 d x
 |[],_,_,h,r=>by cases h;cases r;rfl
 |d::ds,_,_,h,r=>by
  obtain⟨v,w,rfl,h1,h2⟩:=h;cases r with
  |cons r1 r2=>rw[m9,m9,pz r1 h1,jt h2 r2]
def Kj(neg:Bool)(K:RC):R2:=λx y H Q=>∃p ds vs d m m',y=.ref p/\(SqL K H p vs\/SqT K H p vs)/\IsAll H m ds vs/\Is H m' d x/\(D.gH ds<=50/\d.dep<=50)/\Q (.bl (if neg then !(ds.any λe=>b6 e d)else ds.any λe=>b6 e d)) H
theorem hI(I:L2.Inv X ai σ H s)(hu:A.units+50<cLine)(hx:Is H m' d x)(hE:d.dep<=50)(rx:RelV x v) :
 ∀{ds:List D}{vs:List V}{us:List RE},IsAll H m ds vs->Vals vs us->D.gH ds<=50->∀u∈us,SeqAt.EqAt A s u v (c6 H m d u)
 |[],_,_,h,r,_=>λu hu=>by cases h;cases r;cases hu
 |e::ds,_,_,h,r,hd=>λu hm=>by
  obtain⟨y,w,rfl,h1,h2⟩:=h;have hd':max e.dep (D.gH ds)<=50:=hd;cases r with
  |cons r1 r2=>
   rcases cB.mp hm with rfl|hm
   .rw[pz r1 h1];exact DB I.bC 50 A hu (by lia) (by lia) (by lia) h1 hx r1 rx
   .exact hI I hu hx hE rx h2 r2 (by lia) u hm
def Kk(hu:X.A.units+64<cLine):OpR X (compareOp .In) (Kj false X.K):=by
 intro ai s σ H x y v u Q I rx ry h;obtain⟨p,ds,vs,d,m,m',rfl,hq,hi,hx,hd,q⟩:=h;cases ry;rcases hq with hq|hq
 .obtain⟨its,r,pl,hz⟩:=I.list hq;refine SeqAt.in_listAt (c6 H m d) pl.isList (λw hw=>hI I (by grind) hx hd.2 rx hi r hd.1 w (by grind)) ⟨.bl _,H,I,rfl,?_⟩;rw[show its.toArray.any (c6 H m d)=its.any (c6 H m d) by simp,jt hi r];exact q
 .obtain⟨its,r,pl,hz⟩:=I.tuple hq;refine SeqAt.in_tupleAt (c6 H m d) pl (λw hw=>hI I (by grind) hx hd.2 rx hi r hd.1 w (by grind)) ⟨.bl _,H,I,rfl,?_⟩;rw[show its.toArray.any (c6 H m d)=its.any (c6 H m d) by simp,jt hi r];exact q
def Cb(hu:X.A.units+64<cLine):OpR X (compareOp .NotIn) (Kj true X.K):=by
 intro ai s σ H x y v u Q I rx ry h;obtain⟨p,ds,vs,d,m,m',rfl,hq,hi,hx,hd,q⟩:=h;cases ry;rcases hq with hq|hq
 .obtain⟨its,r,pl,hz⟩:=I.list hq;refine SeqAt.notIn_listAt (c6 H m d) pl.isList (λw hw=>hI I (by grind) hx hd.2 rx hi r hd.1 w (by grind)) ⟨.bl _,H,I,rfl,?_⟩;rw[show its.toArray.any (c6 H m d)=its.any (c6 H m d) by simp,jt hi r];exact q
 .obtain⟨its,r,pl,hz⟩:=I.tuple hq;refine SeqAt.notIn_tupleAt (c6 H m d) pl (λw hw=>hI I (by grind) hx hd.2 rx hi r hd.1 w (by grind)) ⟨.bl _,H,I,rfl,?_⟩;rw[show its.toArray.any (c6 H m d)=its.any (c6 H m d) by simp,jt hi r];exact q
def IJ(neg:Bool)(x:D)(ds:List D):Res R:=if D.gH ds<=50/\x.dep<=50 then .ok (.val (.bl (if neg then !(ds.any λe=>b6 e x)else ds.any λe=>b6 e x)) true [])else .stuck
def zr(neg:Bool)(a b:R):Res R:=match b.d with
 |.lst ds=>IJ neg a.d ds
 |.tup ds=>IJ neg a.d ds
 |_=>.stuck
def QX:R->R->Res R:=zr false
def Kl:R->R->Res R:=zr true
def DW(h:OpR X f (Kj neg X.K)):n6 X E f (zr neg):=by
 refine⟨_,h,λg M ρ env σ H Q ra rb x y rep i1 i2 p=>?_⟩;unfold zr at p;have key:∀ds,PostE X.mg E g M ρ env σ H Q (IJ neg ra.d ds)->(D.gH ds<=50/\ra.d.dep<=50)/\Q (.bl (if neg then !(ds.any λe=>b6 e ra.d)else ds.any λe=>b6 e ra.d)) H:=λds p=>by
  unfold IJ at p;by_cases hd:D.gH ds<=50/\ra.d.dep<=50
  .rw[c5 hd]at p;exact⟨hd,p _ M H (Ext.refl _ _) rep rfl⟩
  .rw[dS hd]at p;exact p.elim
 cases e2:rb.d with
 |lst ds=>rw[e2]at p i2;obtain⟨a,vs,rfl,h1,h2⟩:=i2.rd;obtain⟨k1,k2⟩:=key ds p;exact⟨a,ds,vs,ra.d,_,_,rfl,.inl (.inl h1),h2,i1,k1,k2⟩
 |tup ds=>rw[e2]at p i2;obtain⟨a,vs,rfl,h1,h2⟩:=i2;obtain⟨k1,k2⟩:=key ds p;exact⟨a,ds,vs,ra.d,_,_,rfl,.inr (SqT.of h1),h2,i1,k1,k2⟩
 |_=>rw[e2]at p;exact p.elim
def Nf(hu:X.A.units+64<cLine):n6 X E (compareOp .In) QX:=DW (Kk hu)
def DX(hu:X.A.units+64<cLine):n6 X E (compareOp .NotIn) Kl:=DW (Cb hu)
end
end L3
namespace L3
open PySem PySem.Spec PyProof.Rows L2
noncomputable def DY:D->Option b5
 |.int i=>some (.inl i)
 |.str x=>some (.inr x)
 |_=>none
def p8:List D->Option (List b5)
 |[]=>some []
 |d::ds=>match DY d,p8 ds with
  |some k,some ks=>some (k::ks)
  |_,_=>none
def Cc:D->Option (List b5)
 |.tup ds=>p8 ds
 |_=>none
def DZ:D->Option (List b5×D)
 |.tup [k,v]=>(Cc k).map λks=>(ks,v)
 |_=>none
def pA:List D->Option (List (List b5×D))
 |[]=>some []
 |d::ds=>match DZ d,pA ds with
  |some p,some ps=>some (p::ps)
  |_,_=>none
def D0(t:List (List b5×D))(k:List b5)(d:D):List (List b5×D):=if(t.any λx=>decide (x.1=k))=true then t.map (λx=>if x.1=k then(x.1,d)else x)else t++[(k,d)]
def xT(t ps:List (List b5×D)):List (List b5×D):=ps.foldl (λt x=>D0 t x.1 x.2) t
def Ng(ps:List (List b5×D)):D:=.lS ((xT [] ps).map λp=>.inr p.1) ((xT [] ps).map Prod.snd)
def D1:List R->Res R
 |[r]=>match r.d with
  |.lst ds=>match pA ds with
   |some ps=>if D.aC ((xT [] ps).map Prod.snd)then .ok (.mG (Ng ps))else .stuck
   |none=>.stuck
  |_=>.stuck
 |_=>.stuck
section
def Is.key(h:Is H m d v)(e:DY d=some k):v=kV k:=by
 cases d with
 |int i=>cases e;exact h
 |str x=>cases e;exact h
 |_=>cases e
theorem IsAll.keys:∀{ds:List D}{vs:List V}{ks:List b5},IsAll H m ds vs->p8 ds=some ks->vs=ks.map kV
 |[],_,_,h,e=>by cases h;cases e;rfl
 |d::ds,_,ks,h,e=>by
  obtain⟨v,r,rfl,h1,h2⟩:=h;unfold p8 at e;cases q:DY d with
  |none=>rw[q]at e;cases e
  |some k=>
   cases q2:p8 ds with
   |none=>rw[q,q2]at e;cases e
   |some ks'=>rw[q,q2]at e;cases e;rw[h1.key q,IsAll.keys h2 q2];rfl
theorem Is.Cc(h:Is H m d v)(e:L3.Cc d=some k):∃b,v=.ref b/\H b=some (.tup (k.map kV)):=by
 cases d with
 |tup ds=>obtain⟨a,vs,rfl,h1,h2⟩:=h;have e:p8 ds=some k:=e;rw[IsAll.keys h2 e]at h1;exact⟨a,rfl,h1⟩
 |_=>cases e
def RKV(H:Hp)(m:Addr->Prop):List (List b5×V)->List (List b5×D)->Prop:=Paired λa b=>a.1=b.1/\Is H m b.2 a.2
theorem RKV.fst(r:RKV H m a b):a.map Prod.fst=b.map Prod.fst:=by
 induction r with
 |nil=>rfl
 |cons h _ ih=>rw[b8,b8,ih,h.1]
theorem RKV.snd(r:RKV H m a b):IsAll H m (b.map Prod.snd) (a.map Prod.snd):=by
 induction r with
 |nil=>rfl
 |cons h _ ih=>exact⟨_,_,rfl,h.2,ih⟩
def RKV.append(r:RKV H m a b)(s:RKV H m c d):RKV H m (a++c) (b++d):=by
 induction r with
 |nil=>exact s
 |cons h _ ih=>exact .cons h ih
theorem RKV.any(r:RKV H m a b)(k:List b5):(a.any λx=>decide (x.1=k))=(b.any λx=>decide (x.1=k)):=by
 induction r with
 |nil=>rfl
 |cons h _ ih=>rw[m9,m9,ih,h.1]
def RKV.Aq(r:RKV H m a b)(h:Is H m d v):RKV H m (a.map λx=>if x.1=k then(x.1,v)else x) (b.map λx=>if x.1=k then(x.1,d)else x):=by
 induction r with
 |nil=>exact .nil
 |@cons p q ps qs hq t ih=>
  refine .cons ?_ ih
  grind
def RKV.put(r:RKV H m a b)(h:Is H m d v):RKV H m (k_ a k v) (D0 b k d):=by
 unfold k_ D0;rw[r.any k];split
 .exact r.Aq h
 .exact r.append (.cons ⟨rfl,h⟩ .nil)
theorem xU:∀{ds:List D}{vs:List V}{ps:List (List b5×D)},IsAll H m ds vs->pA ds=some ps->∃kvs,vU H vs kvs/\∀a b,RKV H m a b->RKV H m (lc a kvs) (xT b ps)
 |[],_,_,h,e=>by cases h;cases e;exact⟨[],.nil,λa b r=>r⟩
 |d::ds,_,ps,h,e=>by
  obtain⟨v,r,rfl,h1,h2⟩:=h;unfold pA at e;cases q:DZ d with
  |none=>rw[q]at e;cases e
  |some p=>
   cases q2:pA ds with
   |none=>rw[q,q2]at e;cases e
   |some ps'=>
    rw[q,q2]at e;cases e;obtain⟨kvs,k1,k2⟩:=xU h2 q2;unfold DZ at q;split at q
    .rename_i kd vd;obtain⟨a,vs2,rfl,g1,g2⟩:=h1;obtain⟨y1,r1,rfl,i1,y2,r2,rfl,i2,i3⟩:=g2;cases i3;cases q3:Cc kd with
     |none=>rw[q3]at q;cases q
     |some kk=>rw[q3]at q;cases q;obtain⟨ka,rfl,hka⟩:=i1.Cc q3;exact⟨(kk,y2)::kvs,.cons ⟨a,ka,rfl,g1,hka⟩ k1,λa b r=>k2 _ _ (r.put i2)⟩
    .cases q
end
section
variable{X:Cx}{E:XK}
def AQ(rep:Rep g M ρ env σ H)(hb:H b=none)(is:Is H' (λa=>a=b) d (.ref b))(mu:Mu H' b):ROk g M ρ H H' (.ref b) (.mG d):=by obtain⟨h0,hm,ho⟩:=rep.free hb;exact⟨λa=>a=b,λa e=>by subst e;exact⟨hm,hb,mu,ho⟩,is⟩
def GX(hc:X.calm=true)(hu:X.A.units+64<cLine):jp X E (.type "dict") D1:=by
 refine⟨_,zg hc hu,λg M ρ env σ H Q rs vs rep i p=>?_⟩;rcases rs with _|⟨r,_|_⟩
 .exact p.elim
 rotate_left
 .exact p.elim
 obtain⟨v,w,rfl,i1,i2⟩:=i;cases i2;have i1:Is H (vmsk g M (bz [r]) ρ (bR [r])) r.d v:=i1;replace i1:=i1.weak λ_ z=>rE z;unfold D1 at p;dsimp only at p;cases q:r.d with
 |lst ds=>
  rw[q]at p i1;dsimp only at p;cases q2:pA ds with
  |none=>rw[q2]at p;exact p.elim
  |some ps=>
   rw[q2]at p;obtain⟨a,ws,rfl,h1,h2⟩:=i1.rd;obtain⟨kvs,k1,k2⟩:=xU h2 q2;refine⟨a,ws,kvs,rfl,h1,k1,λb hb=>?_⟩;have rk:=k2 [] [] .nil;have s:Same H (ck H b (.dT (lc [] kvs))):=ca hb;dsimp only at p;by_cases hf:D.aC ((xT [] ps).map Prod.snd)=true
   .rw[c5 hf]at p;refine p _ M _ ⟨λ_ z=>z,s,λ_ z=>.inl z⟩ (rep.grow s) (AQ rep hb ⟨b,_,rfl,⟨.inr ⟨lc [] kvs,.inl aY,?_,rfl⟩,rfl⟩,IsAll.flat hf (IsAll.same s rk.snd)⟩ ⟨_,aY,True.intro⟩);have:=ie (List.map λk:List b5=>(Sum.inr k:DK)) rk.fst;rw[dQ,dQ]at this;exact this.symm
   .rw[dS hf]at p;exact p.elim
 |_=>rw[q]at p;exact p.elim
def ue:D->Option DK
 |.int i=>some (.inl (.inl i))
 |.str x=>some (.inl (.inr x))
 |.tup ds=>(p8 ds).map .inr
 |_=>none
noncomputable def zt:DK->DK->Bool
 |.inl _,.inl _=>true
 |.inr _,.inr _=>true
 |_,_=>false
noncomputable def D2(ks:List DK)(k:DK):Bool:=ks.any λx=>decide (x=k)
def D6(neg:Bool)(a:D)(ks:List DK):Res R:=match ue a with
 |some k=>if ks.all (zt k)then .ok (.val (.bl (if neg then !D2 ks k else D2 ks k)) true [])else .stuck
 |none=>.stuck
def Cd(neg:Bool)(a b:R):Res R:=match b.d with
 |.lS ks _=>D6 neg a.d ks
 |_=>zr neg a b
def Ce:R->R->Res R:=Cd false
def jT:R->R->Res R:=Cd true
noncomputable def Km(neg:Bool):R2:=λx y H Q=>∃a o,y=.ref a/\AD H a x o/\Q (.bl (if neg then !o.isSome else o.isSome)) H
def Kn(hu:X.A.units+64<cLine):OpR X (compareOp .In) (Km false):=by intro ai s σ H x y v u Q I rx ry h;obtain⟨a,o,rfl,g,q⟩:=h;cases ry;exact MM (by lia) I g rx λs' I'=>⟨.bl _,H,I',rfl,q⟩
def Cf(hu:X.A.units+64<cLine):OpR X (compareOp .NotIn) (Km true):=by intro ai s σ H x y v u Q I rx ry h;obtain⟨a,o,rfl,g,q⟩:=h;cases ry;exact Dn (by lia) I g rx λs' I'=>⟨.bl _,H,I',rfl,q⟩
def xV{κ:Type}[DecidableEq κ]{kvs:List (κ×V)}(inj:κ->DK)(hi:∀a b,inj a=inj b->a=b)(k:κ):(qR kvs k).isSome=D2 (kvs.map λp=>inj p.1) (inj k):=by
 unfold D2;induction kvs with
 |nil=>rfl
 |cons p r ih=>
  rw[b8,m9];by_cases e:p.1=k
  .rw[la e,gh (ie inj e)];rfl
  .rw[lb e,ih,fm (λz=>e (hi _ _ z)),Bool.false_or]
theorem Is.ue(h:Is H m d v)(e:L3.ue d=some k):(∃k0,k=.inl k0/\v=kV k0)\/∃k0 b,k=.inr k0/\v=.ref b/\H b=some (.tup (k0.map kV)):=by
 cases d with
 |int i=>cases e;exact .inl ⟨_,rfl,h⟩
 |str x=>cases e;exact .inl ⟨_,rfl,h⟩
 |tup ds=>have e:(p8 ds).map Sum.inr=some k:=e;obtain⟨k0,hk,rfl⟩:=jM.mp e;obtain⟨b,e1,e2⟩:=Is.Cc (d:=.tup ds) h hk;exact .inr ⟨k0,b,rfl,e1,e2⟩
 |_=>cases e
def GY(h:DAt H a ks vs)(hx:Is H m d x)(e:L3.ue d=some k)(hk:ks.all (zt k)=true):∃o,AD H a x o/\o.isSome=D2 ks k:=by
 rcases hx.ue e with⟨k0,rfl,rfl⟩|⟨k0,b,rfl,rfl,hb⟩
 .rcases h with⟨kvs,e1,rfl,rfl⟩|⟨kvs,e1,rfl,rfl⟩
  .exact⟨_,.inl (.inl ⟨kvs,k0,e1,rfl,rfl⟩),xV Sum.inl (λ_ _ z=>Sum.inl.inj z) k0⟩
  .cases kvs with
   |nil=>exact⟨none,.inr (.inl ⟨e1,⟨k0,rfl⟩,rfl⟩),rfl⟩
   |cons p r=>simp[zt]at hk
 .rcases h with⟨kvs,e1,rfl,rfl⟩|⟨kvs,e1,rfl,rfl⟩
  .cases kvs with
   |nil=>exact⟨none,.inr (.inr ⟨e1,⟨b,k0,rfl,hb⟩,rfl⟩),rfl⟩
   |cons p r=>simp[zt]at hk
  .exact⟨_,.inl (.inr ⟨kvs,k0,b,e1,rfl,hb,rfl⟩),xV Sum.inr (λ_ _ z=>tT z) k0⟩
def D7(h1:n6 X E f (zr neg))(h2:OpR X f (Km neg)):n6 X E f (Cd neg):=by
 obtain⟨r,o1,s1⟩:=h1;refine⟨_,o1.or h2,λg M ρ env σ H Q ra rb x y rep i1 i2 p=>?_⟩;unfold Cd at p;cases q:rb.d with
 |lS ks ds=>
  right;rw[q]at p i2;dsimp only at p;unfold D6 at p;cases q2:ue ra.d with
  |none=>rw[q2]at p;exact p.elim
  |some k=>
   rw[q2]at p;dsimp only at p;by_cases hk:ks.all (zt k)=true
   .rw[c5 hk]at p;obtain⟨a,vs,rfl,h1,h2⟩:=i2;obtain⟨o,g1,g2⟩:=GY h1.1 i1 q2 hk;refine⟨a,o,rfl,g1,?_⟩;rw[g2];exact p _ M H (Ext.refl _ _) rep rfl
   .rw[dS hk]at p;exact p.elim
 |_=>left;refine s1 g M ρ env σ H Q ra rb x y rep i1 i2 ?_;rw[q]at p;exact p
def wb(hu:X.A.units+64<cLine):n6 X E (compareOp .In) Ce:=D7 (Nf hu) (Kn hu)
def l_(hu:X.A.units+64<cLine):n6 X E (compareOp .NotIn) jT:=D7 (DX hu) (Cf hu)
def D8(i:Nat)(f:En->Res R):En->Res Fl:=λenv=>match jq env i with
 |some (ds,fr)=>(f env).bind λr=>match r with
  |.new es f2=>if ds.length+es.length<=lim then .ok (.nx (env.set i (some (.own (ds++es) (fr&&f2)))))else .stuck
  |_=>.stuck
 |none=>.stuck
def GZ(ha:PE X a (t7 i))(h:PD X E e f)
 (hbase:autoParam (attributeBase a "extend" X.env (eval a X.env)=eval a X.env) RQ)
 (hfew:autoParam (((backTo cpos (starEach [e] X.env)).all (λx=>!x.1)&&(backToKw cpos (keywordEach [] X.env)).all (λx=>x.1.isSome)
   && decide (([e]:List Expr).length+([]:List Keyword).length+(if([]:List Keyword).isEmpty then 0 else 1)<30))=true) RQ)
 (hline:autoParam ((apos.endLine==cpos.line)=true) RQ) (hs:autoParam (starEach [e] X.env=(false,eval e X.env)::starEach [] X.env) RQ) (hplain:autoParam (bT X cpos []) RQ)
 (hsw:autoParam (swapsWith (.Call (.Attribute a "extend" apos) [e] [] cpos) none pos.line X.env=pure false) RQ) :
 yW X E (.Expr (.Call (.Attribute a "extend" apos) [e] [] cpos) pos) (D8 i f):=by
 obtain⟨t,p1,s1⟩:=h;refine⟨_,nV (rW m_ PySem.F.slot_list_extend PySem.F.type_list_extend uI ha (d9 p1 gI hs) hbase hfew hline hs hplain) hsw,λg M ρ env σ H D rep p=>?_⟩;unfold D8 at p;cases e1:jq env i with
 |none=>rw[e1]at p;exact p.elim
 |some o=>
  obtain⟨ds,fr⟩:=o;rw[e1]at p;dsimp only at p;obtain⟨M0,ρ0,l,vs,m0,rep0,ev,k1,k2,k4,hi,_⟩:=rep.vI e1;refine⟨_,ev,.inl ⟨rfl,vs,SqL.of k1⟩,s1.rB rep p λr y M' H' e rep' ro p'=>?_⟩;cases r with
  |new es f2=>
   dsimp only at p';by_cases hc:ds.length+es.length<=lim
   .rw[c5 hc]at p';obtain⟨b,ws,rfl,h1,h2,h3,h4,h5⟩:=ro;obtain⟨M3,ρ3,l3,vs3,m3,rep3,ev3,j1,j2,j4,hi3,_⟩:=rep'.vI e1;rw[ev]at ev3;cases ev3;have hl:H' l=some (.lst vs):=e.h _ _ k1;rw[hl]at j1;cases j1;have pl:ρ3 i l:=(j2 l).mpr rfl;obtain⟨nl3,_⟩:=rep3.bQ i l pl;have is4:IsAll H' (msk g M3 (fr&&f2)) (ds++es) (vs++ws):=by refine IsAll.append (IsAll.weak (λb z=>⟨z.1,λq=>z.2 (by grind)⟩) j4) (IsAll.weak (λb z=>⟨m3 b z.1,λq=>z.2 (by grind)⟩) h5)
    have kp:∀b u,H' b=some u->(msk g M3 (fr&&f2) b\/gP u)->ck H' l (.lst (vs++ws)) b=some u:=λb u q z=>by
     rw[aJ]
     .exact q
     .rintro rfl;rcases z with z|z
      .exact nl3 z.1
      .rw[hl]at q;cases q;exact z
    obtain⟨f1,rep4⟩:=rep3.write (sl:=.own (ds++es) (fr&&f2)) (vs':=vs++ws) pl (by grind) ev ⟨l,vs++ws,rfl,aY,j2,IsAll.mono kp (λ_ _ _ z=>z) is4⟩;rw[List.set_set]at rep4;refine⟨l,b,vs,ws,rfl,rfl,hl,h1,by rw[k4.length,h5.length];exact gJ hc,?_⟩;exact p' σ M3 ρ3 _ (nU.trans ⟨λa z=>m3 a z,λ_ _ q _=>q⟩ f1) rep4
   .rw[dS hc]at p';exact p'.elim
  |_=>exact p'.elim
end
section
def wc:List R->Res R
 |[r]=>match r.d with
  |.lst ds=>.ok (lg (.tup ds) r.fr r.al)
  |.tup ds=>.ok (lg (.tup ds) r.fr r.al)
  |_=>.stuck
 |_=>.stuck
def D9:jp X E (.type "tuple") wc:=by
 refine⟨_,t_,λg M ρ env σ H Q rs vs rep i p=>?_⟩;rcases rs with _|⟨r,_|_⟩
 .exact p.elim
 rotate_left
 .exact p.elim
 obtain⟨v,w,rfl,i1,i2⟩:=i;cases i2;have i1:Is H (vmsk g M (bz [r]) ρ (bR [r])) r.d v:=i1;replace i1:=i1.weak λ_ z=>rE z;unfold wc at p;dsimp only at p;cases q:r.d with
 |lst ds=>rw[q]at p i1;obtain⟨a,ws,rfl,h1,h2⟩:=i1.rd;exact⟨a,ws,rfl,.inl ⟨.inl h1,λl hl=>p.tup rep hl h2⟩⟩
 |tup ds=>rw[q]at p i1;have i1':=i1;obtain⟨a,ws,rfl,h1,h2⟩:=i1;exact⟨a,ws,rfl,.inr ⟨SqT.of h1,p.val rep i1'⟩⟩
 |_=>rw[q]at p;exact p.elim
def PF(k2:R->R->Res R)(fc:En->Res R)(env:En)(rb:R):R->Res R
 |.val (.bl true) _ _=>(fc env).bind λrc=>k2 rb rc
 |.val (.bl false) _ _=>.ok (.val (.bl false) true [])
 |_=>.stuck
def jh(k1 k2:R->R->Res R)(fa fb fc:En->Res R):En->Res R:=λenv=>(fa env).bind λra=>(fb env).bind λrb=>(k1 ra rb).bind (PF k2 fc env rb)
def uX
 (h1:∀g M ρ env σ H Q ra rb x y,Rep g M ρ env σ H->Is H (vmsk g M ra.fr ρ ra.al) ra.d x->Is H (vmsk g M rb.fr ρ rb.al) rb.d y->PostE mg E g M ρ env σ H Q (k1 ra rb)->r x y H Q)
 (h2:∀g M ρ env σ H Q ra rb x y,Rep g M ρ env σ H->Is H (vmsk g M ra.fr ρ ra.al) ra.d x->Is H (vmsk g M rb.fr ρ rb.al) rb.d y->PostE mg E g M ρ env σ H Q (k2 ra rb)->r' x y H Q)
 (sa:Snd mg E ta fa) (sb:Snd mg E tb fb) (sc:Snd mg E tc fc):Snd mg E (y_ r r' ta tb tc) (jh k1 k2 fa fb fc):=by
 intro g M ρ env σ H Q rep p;refine sa.Ao sb rep p λra rb x y M1 H1 rep1 i1 i2 p1=>?_;refine h1 g M1 ρ env σ H1 _ ra rb x y rep1 i1 i2 ?_;cases q:k1 ra rb with
 |stuck=>rw[q]at p1;exact p1
 |exc c=>rw[q]at p1;exact p1
 |ok rr=>
  rw[q]at p1;have p1:PostE mg E g M1 ρ env σ H1 Q (PF k2 fc env rb rr):=p1;unfold PF at p1;intro v M2 H2 e2 rep2 ro;split at p1
  .cases (show v=.bl true from ro);refine⟨true,rfl,vS ?_⟩;have p2:=PostE.ext e2 p1;have i2':=Is.ext e2 i2;refine sc.gn rep2 p2 λrc z M3 H3 e3 rep3 i3 p3=>?_;exact h2 g M3 ρ env σ H3 Q rb rc y z rep3 (Is.ext e3 i2') i3 p3
  .cases (show v=.bl false from ro);exact⟨false,rfl,xy (p1 (.bl false) M2 H2 e2 rep2 rfl)⟩
  .exact p1.elim
def sA(ho:n6 X E (compareOp op) k1)(ho':n6 X E (compareOp op') k2)(ha:PD X E a fa)(hb:PD X E b fb)(hc:PD X E c fc)
 (hm:lastMarks [op,op'] [b,c]=false:=by with_unfolding_all rfl):PD X E (.Compare a [op,op'] [b,c] pos) (jh k1 k2 fa fb fc):=by
 obtain⟨r,o1,h1⟩:=ho;obtain⟨r',o2,h2⟩:=ho';obtain⟨ta,pa,sa⟩:=ha;obtain⟨tb,pb,sb⟩:=hb;obtain⟨tc,pc,sc⟩:=hc;exact⟨_,C8 o1 o2 pa pb pc hm,uX h1 h2 sa sb sc⟩
def Cg(ho:n6 X E (compareOp op) k1)(ho':n6 X E (compareOp op') k2)(ha:PD X E a fa)(hb:PD X E b fb)(hc:PD X E c fc)
 (hm:lastMarks [op,op'] [b,c]=false:=by with_unfolding_all rfl):BY X E (.Compare a [op,op'] [b,c] pos) (vB (jh k1 k2 fa fb fc)):=by
 obtain⟨r,o1,h1⟩:=ho;obtain⟨r',o2,h2⟩:=ho';obtain⟨ta,pa,sa⟩:=ha;obtain⟨tb,pb,sb⟩:=hb;obtain⟨tc,pc,sc⟩:=hc;have S:=uX h1 h2 sa sb sc;refine⟨_,C9 o1 o2 pa pb pc hm,λg M ρ env σ H Q rep p=>S.As rep p λr v M' H' e rep' i p'=>?_⟩;cases q:r.d with
 |bl b=>rw[q]at i;simp only[q]at p';cases i;exact⟨b,rfl,p' M' H' (Ext.refl _ _) rep'⟩
 |_=>simp only[q]at p';exact p'.elim
end
def getD:List DK->List D->DK->Option D
 |k'::ks,d::ds,k=>if k'=k then some d else getD ks ds k
 |_,_,_=>none
def sB(ra rk:R):Res R:=match ra.d with
 |.lS ks ds=>match ue rk.d with
  |some x=>if ks.all (zt x)then(match getD ks ds x with
   |some d=>.ok (lg d ra.fr ra.al)
   |none=>.stuck)else .stuck
  |none=>.stuck
 |_=>.stuck
theorem we{κ:Type}[DecidableEq κ](inj:κ->DK)(hi:∀a b,inj a=inj b->a=b){H:Hp}{m:Addr->Prop}{k:κ}{d:D}:∀{kvs:List (κ×V)}{ds:List D},IsAll H m ds (kvs.map Prod.snd)->getD (kvs.map λp=>inj p.1) ds (inj k)=some d->∃v,qR kvs k=some v/\Is H m d v
 |[],ds,_,e=>by cases ds<;>cases e
 |p::r,[],h,e=>by cases h
 |p::r,d0::ds,h,e=>by
  obtain⟨v0,r0,z,i1,i2⟩:=h;cases z;rw[b8]at e;unfold getD at e;by_cases hk:p.1=k
  .rw[c5 (ie inj hk)]at e;cases e;exact⟨p.2,la hk,i1⟩
  .rw[dS (λz=>hk (hi _ _ z))]at e;obtain⟨v,e1,e2⟩:=we inj hi i2 e;exact⟨v,by rw[lb hk];exact e1,e2⟩
section
def AR(hu:X.A.units+64<cLine)(ho:PD X E o fa)(hk:PD X E k fk)(hs:Dg k):PD X E (.Subscript o k pos) (v2 sB fa fk):=by
 obtain⟨ta,p1,s1⟩:=ho;obtain⟨tk,p2,s2⟩:=hk;refine⟨_,Gz (by lia) p1 p2 hs,λg M ρ env σ H Q rep p=>s1.Ao s2 rep p λra rk x y M1 H1 rep1 i1 i2 q=>?_⟩;unfold sB at q;cases qa:ra.d with
 |lS ks ds=>
  rw[qa]at q i1;dsimp only at q;cases qk:ue rk.d with
  |none=>rw[qk]at q;exact q.elim
  |some kx=>
   rw[qk]at q;dsimp only at q;by_cases hc:ks.all (zt kx)=true
   .rw[c5 hc]at q;obtain⟨a,vs,rfl,⟨dat,_⟩,hall⟩:=i1;cases qd:getD ks ds kx with
    |none=>rw[qd]at q;exact q.elim
    |some d=>
     rw[qd]at q;refine⟨a,?_⟩;rcases i2.ue qk with⟨k0,rfl,rfl⟩|⟨k0,b,rfl,rfl,hb⟩
     .rcases dat with⟨kvs,e1,rfl,rfl⟩|⟨kvs,e1,rfl,rfl⟩
      .obtain⟨v,g1,g2⟩:=we Sum.inl (λ_ _ z=>Sum.inl.inj z) hall qd;exact⟨v,rfl,by rw[<- g1];exact .inl ⟨kvs,k0,e1,rfl,rfl⟩,q.val rep1 g2⟩
      .cases kvs with
       |nil=>cases ds<;>cases qd
       |cons p r=>simp[zt]at hc
     .rcases dat with⟨kvs,e1,rfl,rfl⟩|⟨kvs,e1,rfl,rfl⟩
      .cases kvs with
       |nil=>cases ds<;>cases qd
       |cons p r=>simp[zt]at hc
      .obtain⟨v,g1,g2⟩:=we Sum.inr (λ_ _ z=>tT z) hall qd;exact⟨v,rfl,by rw[<- g1];exact .inr ⟨kvs,k0,b,e1,rfl,hb,rfl⟩,q.val rep1 g2⟩
   .rw[dS hc]at q;exact q.elim
 |_=>rw[qa]at q;exact q.elim
end
noncomputable def p9:List D->Option (List Int)
 |[]=>some []
 |.int i::r=>(p9 r).map (i::·)
 |_::_=>none
section
theorem IsAll.ints:∀{ds:List D}{vs:List V}{k:List Int},IsAll H m ds vs->p9 ds=some k->vs=(iK k).map kV
 |[],_,_,h,e=>by cases h;cases e;rfl
 |d::ds,_,k,h,e=>by
  obtain⟨v,r,rfl,h1,h2⟩:=h;cases d with
  |int i=>unfold p9 at e;obtain⟨k',e1,rfl⟩:=jM.mp e;rw[IsAll.ints h2 e1,show v=V.int i from h1];rfl
  |_=>cases e
end
section
open Classical in
end
def D_:D->Option (b5×D)
 |.tup [k,v]=>(DY k).map λk=>(k,v)
 |_=>none
def lm:List D->Option (List (b5×D))
 |[]=>some []
 |d::ds=>match D_ d,lm ds with
  |some p,some ps=>some (p::ps)
  |_,_=>none
def zu(t:List (b5×D))(k:b5)(d:D):List (b5×D):=if(t.any λx=>decide (x.1=k))=true then t.map (λx=>if x.1=k then(x.1,d)else x)else t++[(k,d)]
def p_(t ps:List (b5×D)):List (b5×D):=ps.foldl (λt x=>zu t x.1 x.2) t
noncomputable def Ko(t:List (b5×D)):D:=.lS (t.map λp=>.inl p.1) (t.map Prod.snd)
def sC:List R->Res R
 |[r]=>match r.d with
  |.lst ds=>match lm ds with
   |some ps=>if D.aC ((p_ [] ps).map Prod.snd)then .ok (.mG (Ko (p_ [] ps)))else .stuck
   |none=>D1 [r]
  |_=>.stuck
 |_=>.stuck
section
def REK(H:Hp)(m:Addr->Prop):List (b5×V)->List (b5×D)->Prop:=Paired λa b=>a.1=b.1/\Is H m b.2 a.2
theorem REK.fst(r:REK H m a b):a.map Prod.fst=b.map Prod.fst:=by
 induction r with
 |nil=>rfl
 |cons h _ ih=>rw[b8,b8,ih,h.1]
theorem REK.snd(r:REK H m a b):IsAll H m (b.map Prod.snd) (a.map Prod.snd):=by
 induction r with
 |nil=>rfl
 |cons h _ ih=>exact⟨_,_,rfl,h.2,ih⟩
theorem REK.of:∀{a:List (b5×V)}{b:List (b5×D)},a.map Prod.fst=b.map Prod.fst->IsAll H m (b.map Prod.snd) (a.map Prod.snd)->REK H m a b
 |[],[],_,_=>.nil
 |[],_::_,e,_=>by cases e
 |_::_,[],e,_=>by cases e
 |p::a,q::b,e,h=>by obtain⟨v,r,z,h1,h2⟩:=h;cases z;simp only[b8,List.cons.injEq]at e;exact .cons ⟨e.1,h1⟩ (REK.of e.2 h2)
def REK.append(r:REK H m a b)(s:REK H m c d):REK H m (a++c) (b++d):=by
 induction r with
 |nil=>exact s
 |cons h _ ih=>exact .cons h ih
theorem REK.any(r:REK H m a b)(k:b5):(a.any λx=>decide (x.1=k))=(b.any λx=>decide (x.1=k)):=by
 induction r with
 |nil=>rfl
 |cons h _ ih=>rw[m9,m9,ih,h.1]
def REK.Aq(r:REK H m a b)(h:Is H m d v):REK H m (a.map λx=>if x.1=k then(x.1,v)else x) (b.map λx=>if x.1=k then(x.1,d)else x):=by
 induction r with
 |nil=>exact .nil
 |@cons p q ps qs hq t ih=>
  refine .cons ?_ ih;dsimp only;by_cases e:p.1=k
  .rw[c5 e,c5 (hq.1▸e)];exact⟨hq.1,h⟩
  .rw[dS e,dS (λz=>e (hq.1.trans z))];exact hq
def REK.put(r:REK H m a b)(h:Is H m d v):REK H m (k_ a k v) (zu b k d):=by
 unfold k_ zu;rw[r.any k];split
 .exact r.Aq h
 .exact r.append (.cons ⟨rfl,h⟩ .nil)
def REK.merge(r:REK H m a b)(s:REK H m c d):REK H m (jf a c) (p_ b d):=by
 induction s generalizing a b with
 |nil=>exact r
 |@cons p q ps qs hq t ih=>have:=ih (r.put (k:=p.1) hq.2);show REK H m (jf (k_ a p.1 p.2) ps) (p_ (zu b q.1 q.2) qs);rw[<- hq.1];exact this
theorem uY:∀{ds:List D}{vs:List V}{ps:List (b5×D)},IsAll H m ds vs->lm ds=some ps->∃kvs,vV H vs kvs/\REK H m kvs ps
 |[],_,_,h,e=>by cases h;cases e;exact⟨[],.nil,.nil⟩
 |d::ds,_,ps,h,e=>by
  obtain⟨v,r,rfl,h1,h2⟩:=h;unfold lm at e;cases q:D_ d with
  |none=>rw[q]at e;cases e
  |some p=>
   cases q2:lm ds with
   |none=>rw[q,q2]at e;cases e
   |some ps'=>
    rw[q,q2]at e;cases e;obtain⟨kvs,k1,k2⟩:=uY h2 q2;unfold D_ at q;split at q
    .rename_i kd vd;obtain⟨a,vs2,rfl,g1,g2⟩:=h1;obtain⟨y1,r1,rfl,i1,y2,r2,rfl,i2,i3⟩:=g2;cases i3;cases q3:DY kd with
     |none=>rw[q3]at q;cases q
     |some kk=>rw[q3]at q;cases q;have:=i1.key q3;subst this;exact⟨(kk,y2)::kvs,.cons ⟨a,rfl,g1⟩ k1,.cons ⟨rfl,i2⟩ k2⟩
    .cases q
def G0{b:Addr}{u:HO}{kvs:List (b5×V)}{t:List (b5×D)}(e:H b=some (.dK kvs))(r:REK H m kvs t)(hb:m b):Is H m (Ko t) (.ref b):=by refine⟨b,_,rfl,⟨.inl ⟨kvs,.inl e,?_,rfl⟩,hb⟩,r.snd⟩;have:=ie (List.map λk:b5=>(Sum.inl k:DK)) r.fst;rw[dQ,dQ]at this;exact this.symm
theorem REK.flat(hf:D.aC (b.map Prod.snd)=true)(r:REK H m a b):REK H m' a b:=REK.of r.fst (IsAll.flat hf r.snd)
theorem REK.same(s:Same H H')(r:REK H m a b):REK H' m a b:=REK.of r.fst (IsAll.same s r.snd)
end
section
def Ea(hc:X.calm=true)(hu:X.A.units+64<cLine):jp X E (.type "dict") sC:=by
 obtain⟨r0,c0,s0⟩:=GX (X:=X) (E:=E) hc hu;refine⟨λxs H Q=>(∃l vs kvs,xs=[.ref l]/\Rd H l (.lst vs)/\vV H vs kvs/\∀p,H p=none->Q (.ref p) (ck H p (.dK (jf [] kvs))))\/r0 xs H Q,λai s σ H xs us Q I r h=>h.elim (zh hc ai s σ H xs us Q I r) (c0 ai s σ H xs us Q I r),λg M ρ env σ H Q rs vs rep i p=>?_⟩;rcases rs with _|⟨r,_|_⟩
 .exact p.elim
 rotate_left
 .exact p.elim
 unfold sC at p;dsimp only at p;cases q:r.d with
 |lst ds=>
  rw[q]at p;dsimp only at p;cases q2:lm ds with
  |none=>rw[q2]at p;exact .inr (s0 g M ρ env σ H Q [r] vs rep i p)
  |some ps=>
   rw[q2]at p;dsimp only at p;left;obtain⟨v,w,rfl,i1,i2⟩:=i;cases i2;have i1:Is H (vmsk g M (bz [r]) ρ (bR [r])) r.d v:=i1;rw[q]at i1;obtain⟨a,ws,rfl,h1,h2⟩:=i1.rd;obtain⟨kvs,k1,k2⟩:=uY h2 q2;refine⟨a,ws,kvs,rfl,h1,k1,λb hb=>?_⟩;have rk:REK H _ (jf [] kvs) (p_ [] ps):=REK.merge .nil k2;have s:Same H (ck H b (.dK (jf [] kvs))):=ca hb;by_cases hf:D.aC ((p_ [] ps).map Prod.snd)=true
   .rw[c5 hf]at p;exact p _ M _ ⟨λ_ z=>z,s,λ_ z=>.inl z⟩ (rep.grow s) (AQ rep hb (G0 (u:=.dK []) aY ((rk.flat hf).same s) rfl) ⟨_,aY,True.intro⟩)
   .rw[dS hf]at p;exact p.elim
 |_=>rw[q]at p;exact p.elim
end
noncomputable abbrev QB:=Int×Int×Int
noncomputable def dd(l:List Int)(x:Int):List Int:=if x∈l then l else l++[x]
def PH(xs:List Int):List Int:=xs.foldl dd []
def g1(ts:List QB):List Int:=PH (ts.map (·.1))
open Classical in
section
def rG(rs:List R):Res R:=match rs.map R.d with
 |[.int j]=>if 0<=j/\j<=1000 then .ok (.new (i8 0 j.toNat) true)else .stuck
 |_=>.stuck
def Ci(hc:X.calm=true)(hgl:Gl X "list") (hml:X.mg "list"=none) (hvl:bootBuiltins "list"=some (.type "list")) (hg:Gl X "range") (hm:X.mg "range"=none) (ha:AJ X E [a] fs) (hs:autoParam (starEach [a] X.env=[(false,eval a X.env)]) RQ)
 (hs2:autoParam (starEach [.Call (.Name "range" p2) [a] [] pos2] X.env=[(false,eval (.Call (.Name "range" p2) [a] [] pos2) X.env)]) RQ):PD X E (.Call (.Name "list" p) [.Call (.Name "range" p2) [a] [] pos2] [] pos) (gR rG fs):=by
 obtain⟨t,p1,s1⟩:=ha;refine⟨_,BQ hc hgl hml hvl hg hm p1 hs hs2,λg M ρ env σ H Q rep p=>s1.gn rep p λrs vs M1 H1 e1 rep1 i1 q1=>?_⟩;unfold rG at q1;generalize rs.map R.d=ds at i1 q1;split at q1
 .rename_i j;obtain⟨v,w,rfl,k1,k2⟩:=i1;cases k1;cases k2;by_cases hj:0<=j/\j<=1000
  .rw[c5 hj]at q1;refine⟨j,rfl,hj.1,hj.2,λl hl=>?_⟩;have e:((List.range j.toNat).map λk=>(V.int (k:Nat)))=((List.range j.toNat).map λ(k:Nat)=>(V.int (0+(k:Nat)))):=tS λk _=>by grind
   rw[e];refine q1.new rep1 hl ?_;unfold i8;generalize List.range j.toNat=l0;induction l0 with
   |nil=>exact rfl
   |cons k r ih=>exact⟨_,_,rfl,rfl,ih⟩
  .rw[dS hj]at q1;exact q1.elim
 .exact q1.elim
def cn(i:Nat)(f:En->Res R):En->Res Fl:=λenv=>(f env).bind λr=>if i<env.length then .ok (.nx ((cQ env r.al).set i (some (.val r.d r.fr))))else .stuck
def ba(hN:X.N.Nodup)(hi:X.N[i]?=some x)(hx:Jw X.env.scope x)(h:PD X E e f)(hs:autoParam (swapsWith e (some (.Name x pos')) pos.line X.env=pure false) RQ)
 (hf:autoParam (X.fn x=true\/X.env.scope.names.lookup x=some .local) RO):yW X E (.Assign [.Name x pos'] e pos) (cn i f):=by
 obtain⟨t,p1,s1⟩:=h;refine⟨_,C6 hN hi hx p1 hs hf,λg M ρ env σ H D rep p=>?_⟩;refine s1.rB rep p λr v M' H' e rep' ro p'=>?_;by_cases hi:i<env.length
 .rw[c5 hi]at p';obtain⟨M2,x2,x2m,rep2,is2⟩:=ro.is rep' e rep.same;obtain⟨M3,ρ3,x3,rep3,o3,_,_⟩:=Rep.cQ r.al rep2;have rep4:=rep3.put (i:=i) (sl:=.val r.d r.fr) (T:=λ_=>False) (by rw[v8];exact hi) (Is.frozen rep2 x3 o3 is2) (λ_ z=>z.elim) λ_ z=>z.elim;exact p' _ M3 _ H' ⟨λa z=>x3 a (x2m a z),λ_ _ q _=>q⟩ rep4
 .rw[dS hi]at p';exact p'.elim
def qv(i:Nat)(hN:autoParam (X.N[i]?=some x) RQ)(hv:autoParam (OK X.env.scope x) RI._auto_1)(hd:autoParam (dB x) RN)
 (hc:autoParam ((x==("__classdict__" : Str))=false) RN):PD X E (.Name x pos) (aj i):=J6 (pv i hN hv hd hc)
end
end L3
namespace L2
open PySem PySem.Spec PyProof.Rows
section
noncomputable def PJ:V->Option Int->Option Int->Hp->VK->Prop:=λx lo hi H Q=>∃z,x=.str z/\z.length<=sizeLine/\Q (.str (Txt.slice z lo hi)) H
def Kp:SlR X PJ:=by
 intro ai s σ H x v vl vu lo hi sl Q I rx hs pl pu h;obtain⟨z,rfl,hz,q⟩:=h;obtain⟨t,rfl⟩:=rx;obtain⟨o,e1,e2,e3⟩:=hs;refine⟨"str",_,slot_str_getitem.lookup,Ro _ _ _,?_⟩;have fin:∀t' k,EP X ai σ Q (.str (Txt.slice z lo hi) t') {s with toks:=k}:=λt' k=>⟨.str _,H,I.tok _,⟨_,rfl⟩,q⟩;have hl:=ib (Txt.slice_le z lo hi) hz;cases pl with
 |none=>cases pu with
  |none=>exact pV (l:=none) (u:=none) (st:=none) ⟨o,e1,e2,e3⟩ rfl (Rf ⟨hl,fin⟩)
  |int j u=>exact pV (l:=none) (u:=some (j,u)) (st:=none) ⟨o,e1,e2,e3⟩ rfl (Rf ⟨hl,fin⟩)
 |int i t1=>cases pu with
  |none=>exact pV (l:=some (i,t1)) (u:=none) (st:=none) ⟨o,e1,e2,e3⟩ rfl (Rf ⟨hl,fin⟩)
  |int j u=>exact pV (l:=some (i,t1)) (u:=some (j,u)) (st:=none) ⟨o,e1,e2,e3⟩ rfl (Rf ⟨hl,fin⟩)
end
end L2
namespace L3
open PySem PySem.Spec PyProof.Rows L2
section
def mT(r:R)(lo hi:Option Int):Res R:=match r.d with
 |.lst xs=>.ok (o_ (dw xs lo hi) r.fr r.al)
 |.tup xs=>.ok (lg (.tup (dw xs lo hi)) r.fr r.al)
 |.str z=>if z.length<=lim then .ok (.val (.str (Txt.slice z lo hi)) true [])else .stuck
 |_=>.stuck
def ce(fa:En->Res R)(fl fh:En->Res (Option Int)):En->Res R:=λenv=>(fa env).bind λr=>(fl env).bind λlo=>(fh env).bind λhi=>mT r lo hi
def bF{lo hi:Option Expr}{fa:En->Res R}{fl fh:En->Res (Option Int)}{p2 pos:Pos}(ha:PD X E e fa)(hl:OS X E lo fl)(hh:OS X E hi fh):PD X E (.Subscript e (.Slice lo hi none p2) pos) (ce fa fl fh):=by
 obtain⟨ta,p1,s1⟩:=ha;obtain⟨tl,p2,s2⟩:=hl;obtain⟨th,p3,s3⟩:=hh;refine⟨_,Dd (sl_list.or (sl_tup.or (sl_tupW.or Kp))) p1 p2 p3,λg M ρ env σ H Q rep p=>s1.gn rep p λr v M1 H1 e1 rep1 is q=>?_⟩;refine s2 g M1 ρ env σ H1 _ rep1 ?_;cases z1:fl env with
 |stuck=>rw[z1]at q;exact q
 |exc c=>rw[z1]at q;exact q
 |ok lo'=>
  rw[z1]at q;intro M2 H2 e2 rep2;have q2:PostE X.mg E g M2 ρ env σ H2 Q ((fh env).bind λhi=>mT r lo' hi):=PostE.ext e2 q;refine s3 g M2 ρ env σ H2 _ rep2 ?_;cases z2:fh env with
  |stuck=>rw[z2]at q2;exact q2
  |exc c=>rw[z2]at q2;exact q2
  |ok hi'=>
   rw[z2]at q2;intro M3 H3 e3 rep3;have q3:PostE X.mg E g M3 ρ env σ H3 Q (mT r lo' hi'):=PostE.ext e3 q2;have is3:=(is.ext e2).ext e3;unfold mT at q3;cases z:r.d with
   |lst xs=>rw[z]at q3 is3;obtain⟨a,vs,rfl,h1,h2⟩:=is3.rd;exact .inl ⟨a,vs,rfl,.inl h1,λp hp=>q3.lst rep3 hp (h2.cut lo' hi')⟩
   |tup xs=>
    rw[z]at q3 is3;have is4:=is3;obtain⟨a,vs,rfl,h1,h2⟩:=is3;by_cases hw:HT.sIx vs.length 0 lo'=0/\HT.sIx vs.length vs.length hi'=vs.length
    .have ec:dw xs lo' hi'=xs:=by unfold dw;rw[<- h2.length,hw.1,hw.2,h2.length];simp
     dsimp only at q3;rw[ec]at q3;exact .inr (.inr (.inl ⟨a,vs,rfl,SqT.of h1,hw,q3.val rep3 is4⟩))
    .exact .inr (.inl ⟨a,vs,rfl,SqT.of h1,hw,λp hp=>q3.tup rep3 hp (h2.cut lo' hi')⟩)
   |str y=>
    rw[z]at q3 is3;dsimp only at q3;by_cases hw:y.length<=lim
    .rw[c5 hw]at q3;cases is3;exact .inr (.inr (.inr ⟨y,rfl,gJ hw,q3 _ M3 H3 (Ext.refl _ _) rep3 rfl⟩))
    .rw[dS hw]at q3;exact q3.elim
   |_=>rw[z]at q3;exact q3.elim
def G1:R->R->Res R:=oI (λi j=>decide (0<=j)&&decide (j<=1000)&&decide (i.natAbs<2000000)) λi j=>.int (i^j.toNat)
def Eb:n6 X E (binaryOp .Pow) G1:=xH _ _ JP (λi j h=>by simp only[fq,gq]at h;exact⟨h.1.1,by lia,yS h.2 (by decide)⟩) λ_ _ _ _=>rfl
end
section
variable{X:Cx}{E:XK}
def lq(ns:List Int):Bool:=ns.all (λn=>decide (0<=n)&&decide (n<1000000))&&decide (ns.length<=lim)
def G2:List R->Res R
 |[r]=>match r.d with
  |.lst ds=>match p9 ds with
   |some ns=>if lq ns then .ok (.val (.int ns.sum) true [])else .stuck
   |none=>.stuck
  |_=>.stuck
 |_=>.stuck
theorem lr(ns:List Int):∀j,j<=ns.length->preSum (λi=>(ns[i]?).getD 0) j=(ns.take j).sum
 |0,_=>by simp[preSum]
 |j+1,h=>by have hj:j<ns.length:=h;rw[preSum,lr ns j (vH h),List.take_succ_eq_append_getElem hj,List.sum_append];simp[hj]
theorem uZ:∀(ns:List Int),(∀n∈ns,0<=n/\n<1000000)->0<=ns.sum/\ns.sum<=1000000*ns.length
 |[],_=>by simp
 |n::ns,h=>by have h1:=h n (by simp);have h2:=uZ ns λm hm=>h m (by simp[hm]);rw[List.sum_cons,gK];lia
def Cj(hc:X.calm=true):CallR X (.builtin "sum") (λxs H Q=>∃(p:Addr)(ns:List Int),xs=[.ref p]/\SqL X.K H p (ns.map V.int)/\lq ns=true/\Q (.int ns.sum) H):=by
 intro ai s σ H xs us Q I r h;obtain⟨p,ns,rfl,hq,hsm,q⟩:=h;obtain⟨u,rfl,rx⟩:=i4 r;cases rx;obtain⟨its,rv,pl,hz⟩:=I.list hq;have hh:X.A.in1.handled=none:=I.ok.hd hc;obtain⟨o,ho,_⟩:=pl.isList;have hlt:p<s.heap.objs.size:=dN ho;have hl:=rv.length;rw[bH]at hl;unfold lq at hsm;simp only[fq,g6,gq]at hsm;obtain⟨hsm,cK⟩:=hsm;unfold lim at cK;refine call_sum_walk (kn pl.isList ?_);refine⟨s.heap.objs.size,_,_,_,_,_,λi=>(ns[i]?).getD 0,rfl,Walks.list hh s.heap.objs.size p (dU hlt) its.toArray,⟨⟨_,dO _ rfl,rfl,rfl⟩,?_⟩,?_,?_,?_,λh' tk t' hk=>?_⟩
 .exact pl.isList.at λo e=>cA _ e
 .intro b hb;rw[ng];rcases cB.mp hb with e|hb
  .rw[e];exact Nat.lt_succ_self _
  .rcases cB.mp hb with e|hb
   .rw[e];exact Rt hlt
   .cases hb
 .intro i v hv;have hv:its[i]?=some v:=by simpa using hv
  have hi:i<its.length:=(cD.mp hv).1;have hb:i<ns.length:=by lia
  obtain⟨u',hu,ru⟩:=rv.get (i:=i) (x:=.int ns[i]) (by simp[hb]);rw[hv]at hu;cases hu;obtain⟨t,rfl⟩:=ru;exact⟨t,by simp[hb]⟩
 .intro j hj;have hj:j<ns.length:=by rw[cE]at hj;lia
  have a1:=hsm ns[j] (F2 hj);have a2:=uZ (ns.take (j+1)) λn hn=>hsm n (lW hn);rw[lr ns (j+1) hj];have a3:(ns.take (j+1)).length<=1000000:=by rw[kj];lia
  unfold InLong;simp only[hj,getElem?_pos,Option.getD_some];constructor<;>lia
 .have e:preSum (λi=>(ns[i]?).getD 0) its.toArray.size=ns.sum:=by rw[cE,<- hl,lr ns ns.length (cC _),Ry]
  rw[e];refine⟨.int _,H,?_,⟨_,rfl⟩,q⟩;have I1:L2.Inv X ai σ H { s with heap:=s.heap.push { cls:=.type "list_iterator",data:=.fields #[.ref p,.int 0 0] } }:=I.kept (t':=s.toks) λb o e=>cA _ e;have fo:=I.uA (H':=H) (cC s.heap.objs.size) (I.bC.fresh (cC _));exact I1.turned (t':=tk) (it:=s.heap.objs.size) (λb o hb e=>hk b o (by simpa using hb) e) fo.1 fo.2.1 fo.2.2.2.1 fo.2.2.2.2.1 fo.2.2.2.2.2
def Kq(hc:X.calm=true):jp X E (.builtin "sum") G2:=by
 refine⟨_,Cj hc,λg M ρ env σ H Q rs vs rep i p=>?_⟩
 match rs,i,p with
 |[r],i,p=>
  unfold G2 at p;dsimp only at p;obtain⟨v,w,rfl,i1,i2⟩:=i;cases i2;have i1:Is H (vmsk g M (bz [r]) ρ (bR [r])) r.d v:=i1;cases q:r.d with
  |lst ds=>
   rw[q]at p i1;dsimp only at p;obtain⟨a,ws,rfl,h1,h2⟩:=i1.rd;cases qi:p9 ds with
   |none=>rw[qi]at p;exact p.elim
   |some ns=>
    rw[qi]at p;dsimp only at p;by_cases hn:lq ns=true
    .rw[c5 hn]at p;have ew:ws=ns.map V.int:=by rw[h2.ints qi];unfold iK;rw[dQ];rfl
     rw[ew]at h1;exact⟨a,ns,rfl,.inl h1,hn,p _ M H (Ext.refl _ _) rep rfl⟩
    .rw[dS hn]at p;exact p.elim
  |_=>rw[q]at p;exact p.elim
 |[],_,p=>exact p.elim
 |_::_::_,_,p=>exact p.elim
end
theorem IsAll.Qk:∀{ds:List D}{vs:List V},vs.length=ds.length->(∀(i:Nat) d v,ds[i]?=some d->vs[i]?=some v->Is H m d v)->IsAll H m ds vs
 |[],[],_,_=>rfl
 |[],_::_,h,_=>by simp at h
 |_::_,[],h,_=>by simp at h
 |d::ds,v::vs,h,f=>⟨v,vs,rfl,f 0 d v rfl rfl,IsAll.Qk (by simpa using h) λi d' v' e1 e2=>f (i+1) d' v' (by simpa using e1) (by simpa using e2)⟩
section
variable{X:Cx}{E:XK}{scope:Scope}{tg:Expr}{tN:List Str}{capN:List Str}{caps:List Nat}{iter:Expr}{pos lpos:Pos}{src:En->Res Src}
def G3(i:Nat)(src:En->Res Src):En->Res Fl:=λenv=>(src env).bind λs=>if s.xs.length<=lim/\i<env.length then .ok (.nx (env.set i (some (.kJ (.lst (s.xs.map λ_=>.lst []))))))else .stuck
def G4(hc:X.calm=true)(S:bq X scope tN capN caps)(hN:X.N.Nodup)(hi':X.N[i]?=some y)(hy:X.env.scope.names.lookup y=some .local)
 (hi:GR X E tg iter src) (hg:∀cl C s3 H3 fp,PG (dc X scope (tN++capN) cl C s3 H3 fp) tg (rQ 0)) (h0:0<tN.length)
 (hsw:autoParam (swapsWith (.ListComp (.List [] lpos) [⟨tg,iter,[],0⟩] scope pos) (some (.Name y py)) spos.line X.env=pure true) RQ) (hs:autoParam (∀x,foldedSetIterable iter X.env x=pure x) RP) :
 yW X E (.Assign [.Name y py] (.ListComp (.List [] lpos) [⟨tg,iter,[],0⟩] scope pos) spos) (G3 i src):=by
 obtain⟨wi,p1,s1⟩:=hi;refine⟨λD σ H=>wi σ H (jr X scope tg tN capN caps (.List [] lpos) [] σ λDl _ H'=>D.nx (σ.set i (some (.ref Dl))) H'),λai s σ H D I h=>xO hc S hN hi' hy hsw I p1 h hs,λg M ρ env σ H D rep p=>?_⟩;refine s1 g M ρ env σ H _ rep ?_;unfold G3 at p;cases q:src env with
 |stuck=>rw[q]at p;exact p
 |exc c=>rw[q]at p;exact p
 |ok s=>
  rw[q]at p;simp only[Res.je]at p;intro J M1 H1 e1 rep1 wk Dl hDl cl C s3 fp;by_cases hlim:s.xs.length<=lim/\i<env.length
  .rw[c5 hlim]at p;have kp:∀{H2:Hp},Same H1 H2->∀a o,H1 a=some o->(vmsk g M1 s.fr ρ s.al a\/gP o)->H2 a=some o:=λsm a o e _=>sm a o e;refine⟨rQ 0,λ_ H Q=>Q true H,ME MC,λk m acc H2=>m=s.xs.length-k/\k<=s.xs.length/\acc.length=k/\Same H1 H2/\H2 Dl=some (.lst acc)/\∃as:List Addr,acc=as.map V.ref/\as.Nodup/\∀a∈as,a≠Dl/\H1 a=none/\H2 a=some (.lst []),
    hg cl C s3 _ fp,AN,Da gI,⟨_,rfl,lY _,rfl,ca hDl,aY,[],rfl,vG,λ_ z=>by cases z⟩,?_⟩
   rintro k m acc H2 ⟨rfl,hle,hacc,sm,hD2,as,rfl,nd,has⟩;refine⟨hD2,?_⟩;by_cases hlt:k<s.xs.length
   .obtain⟨go,yl⟩:=wk.go H2 k s.xs[k] (kp sm) (by simp[hlt]);refine .inr ⟨go,λxv H3 o yy lo=>?_⟩;obtain⟨s23,_⟩:=yl xv H3 yy;refine⟨λj hj=>gj (by lia),vS ⟨lY _,λb hb=>?_⟩⟩;have nbD:b≠Dl:=λe=>by rw[e,s23 _ _ hD2]at hb;cases hb
    have hb2:H2 b=none:=s23.free hb;have hb1:H1 b=none:=sm.free hb2;refine⟨by rw[aJ (kF nbD)];exact s23 _ _ hD2,by rw[hacc];exact vZ (by lia),s.xs.length-(k+1),by lia,rfl,hlt,by simp[<- hacc],λa u e=>?_,aY,as++[b],by simp,?_,λa ha=>?_⟩
    .rw[aJ (aA e hDl),aJ (aA e hb1)];exact s23 _ _ (sm _ _ e)
    .refine List.nodup_append.mpr ⟨nd,by simp,λa ha c hc'=>?_⟩;have:c=b:=by simpa using hc'
     subst this;intro e;subst e;rw[(has a ha).2.2]at hb2;cases hb2
    .rcases gg.mp ha with ha|ha
     .obtain⟨n1,n2,n3⟩:=has a ha;refine⟨n1,n2,?_⟩;rw[aJ n1,aJ (λe=>by subst e;rw[n3]at hb2;cases hb2)];exact s23 _ _ n3
     .have:a=b:=by simpa using ha
      subst this;exact⟨nbD,hb1,by rw[aJ nbD,aY]⟩
   .have ei:k=s.xs.length:=by lia
    subst ei;refine .inl ⟨wk.stop H2 (kp sm),?_⟩;have rep2:=rep1.grow sm;have cK:as.length=s.xs.length:=by simpa using hacc
    have fresh:∀a,(a=Dl\/a∈as)->H1 a=none:=λa z=>z.elim (λe=>by rw[e];exact hDl) λz=>(has a z).2.1;have cell:∀a,(a=Dl\/a∈as)->∃vs,H2 a=some (.lst vs):=λa z=>z.elim (λe=>⟨as.map V.ref,by rw[e];exact hD2⟩) λz=>⟨[],(has a z).2.2⟩;have rep3:=rep2.put (i:=i) (sl:=.kJ (.lst (s.xs.map λ_=>.lst []))) (v:=.ref Dl) (T:=λa=>a=Dl\/a∈as) hlim.2 ⟨⟨Dl,as.map V.ref,rfl,.inl ⟨hD2,.inl rfl⟩,IsAll.Qk (by simp[cK]) λj d v ed ev=>?_⟩,Dl,as.map V.ref,rfl,.inl rfl,.inl hD2,?_,λj k b ej ek=>?_⟩ λa z=>?_
    .exact p _ M1 _ H2 (e1.cQ.trans ⟨λ_ z=>z,λa o e _=>sm a o e⟩) rep3
    .rw[iX]at ed ev;obtain⟨a,ea,rfl⟩:=jM.mp ev;obtain⟨x,_,rfl⟩:=jM.mp ed;have ha:=fj ea;exact⟨a,[],rfl,.inl ⟨(has a ha).2.2,.inr ha⟩,rfl⟩
    .intro z;obtain⟨a,ha,e⟩:=dP.mp z;cases e;exact(has _ ha).1 rfl
    .rw[iX]at ej ek;obtain⟨a,ea,e1⟩:=jM.mp ej;obtain⟨c,ec,e2⟩:=jM.mp ek;cases e1;cases e2;have hj:=(cD.mp ea).1;exact(List.getElem?_inj hj nd).mp (by rw[ea,ec])
    .obtain⟨vs,hv⟩:=cell a z;obtain⟨f0,f1,f2⟩:=rep1.free (fresh a z);exact⟨f1,f0,Mu.lst hv,λj _=>f2 j⟩
  .rw[dS hlim]at p;exact p.elim
end
section
variable{X:Cx}{E:XK}
def ma:D->Bool
 |.lst es=>D.aC es
 |_=>false
def lu(i:Nat)(env:En)(ds:List D)(j:Nat)(es:List D)(rv:R):Res Fl:=if rv.d.flat/\es.length<lim/\ds.all ma then .ok (.nx (env.set i (some (.kJ (.lst (ds.set j (.lst (es++[rv.d]))))))))else .stuck
def n9(i:Nat)(fv:En->Res R)(env:En)(ds:List D):Option Nat->Res Fl
 |some j=>match ds[j]? with
  |some (.lst es)=>(fv env).bind (lu i env ds j es)
  |_=>.stuck
 |none=>.stuck
def ju(i:Nat)(fv:En->Res R)(env:En)(ds:List D)(re:R):Res Fl:=match re.d with
 |.int k=>n9 i fv env ds (t8 ds.length k)
 |_=>.stuck
def n_(i:Nat)(fe fv:En->Res R):En->Res Fl:=λenv=>match env[i]? with
 |some (some (.kJ (.lst ds)))=>(fe env).bind (ju i fv env ds)
 |_=>.stuck
def zv(ha:PE X a (t7 i))(hb:PD X E b fe)(h:PD X E e fv)(hs:rD b)
 (hbase:autoParam (attributeBase (.Subscript a b spos) "append" X.env (eval (.Subscript a b spos) X.env)=eval (.Subscript a b spos) X.env) RQ)
 (hfew:autoParam (((backTo cpos (starEach [e] X.env)).all (λx=>!x.1)&&(backToKw cpos (keywordEach [] X.env)).all (λx=>x.1.isSome)
   && decide (([e]:List Expr).length+([]:List Keyword).length+(if([]:List Keyword).isEmpty then 0 else 1)<30))=true) RQ)
 (hline:autoParam ((apos.endLine==cpos.line)=true) RQ) (hse:autoParam (starEach [e] X.env=(false,eval e X.env)::starEach [] X.env) RQ) (hplain:autoParam (bT X cpos []) RQ)
 (hsw:autoParam (swapsWith (.Call (.Attribute (.Subscript a b spos) "append" apos) [e] [] cpos) none pos.line X.env=pure false) RQ) :
 yW X E (.Expr (.Call (.Attribute (.Subscript a b spos) "append" apos) [e] [] cpos) pos) (n_ i fe fv):=by
 obtain⟨tb,p2,s2⟩:=hb;obtain⟨t,p1,s1⟩:=h;refine⟨_,nV (rW m_ PySem.F.slot_list_append PySem.F.type_list_append pj (De ix_list ha p2 hs) (d9 p1 gI hse) hbase hfew hline hse hplain) hsw,λg M ρ env σ H D rep p=>?_⟩;unfold n_ at p;split at p
 .rename_i ds e1;have hi:i<env.length:=(cD.mp e1).1;obtain⟨v,ev,⟨root,vs,rfl,hroot,hall⟩,dst⟩:=rep.slot i _ e1;obtain⟨r',vs',er,tr,hr',nin,inj⟩:=dst;cases er;have pm:∀a,ρ i a->∀o u,H a≠some (.cQ o u):=λa z o u q=>by obtain⟨_,_,uo,w,wm⟩:=rep.bQ i a z;rw[w]at q;cases q;exact wm
  have hroot:H root=some (.lst vs):=hroot.elim (·.1) λ⟨o,q,z⟩=>(pm _ z _ _ q).elim;have evs:vs'=vs:=by rcases hr' with q|⟨_,q,_⟩|⟨q,_⟩<;>rw[hroot]at q<;>cases q;rfl
  subst evs;refine⟨_,ev,s2.rB rep p λre x M1 H1 x1 rep1 ro1 q1=>?_⟩;obtain⟨M2,x2,x2m,rep2,is2⟩:=ro1.is rep1 x1 rep.same;have q1:PostS X.mg E g M1 H1 D (ju i fv env ds re):=q1;unfold ju at q1;cases ed:re.d with
  |int k=>
   rw[ed]at q1 is2;cases is2;dsimp only at q1;cases en:t8 ds.length k with
   |none=>rw[en]at q1;exact q1.elim
   |some j=>
    rw[en]at q1;unfold n9 at q1;dsimp only at q1;split at q1
    .rename_i es ej;obtain⟨w,ew,l,ws,rfl,hl,hes⟩:=hall.get ej;have tl:ρ i l:=hl.elim (·.2) λ⟨_,_,z⟩=>z;have hl:H l=some (.lst ws):=hl.elim (·.1) λ⟨o,q,z⟩=>(pm _ z _ _ q).elim;have hl1:=x1.h _ _ hl;have elen:=hall.length;refine⟨root,vs',k,.ref l,rfl,rfl,SqL.of (x1.h _ _ hroot),by unfold L2.b0;rw[elen,en];exact ew,.inl ⟨rfl,ws,SqL.of hl1⟩,?_⟩;refine s1.rB (rep2:Rep g M2 ρ env σ H1) (PostS.cQ (M':=M2) (H':=H1) ⟨x2m,λ_ _ q _=>q⟩ q1) λrv y M3 H3 x3 rep3 ro3 q3=>?_;obtain⟨M4,x4,x4m,rep4,is4⟩:=ro3.is rep3 x3 rep2.same;have q3:PostS X.mg E g M3 H3 D (lu i env ds j es rv):=q3;unfold lu at q3;by_cases hc:rv.d.flat/\es.length<lim/\ds.all ma
     .rw[c5 hc]at q3;obtain⟨c1,c2,c3⟩:=hc;have up3:Same H H3:=x1.h.trans x3.h;have hl3:=up3 _ _ hl;have nrl:root≠l:=λe=>nin (e▸fj ew);have up:∀a o,H3 a=some o->a≠l->ck H3 l (.lst (ws++[y])) a=some o:=λa o q n=>by rw[aJ n];exact q
      have keepF:∀a o,H3 a=some o->((λ_=>False) a\/gP o)->ck H3 l (.lst (ws++[y])) a=some o:=λa o q z=>up a o q λe=>by subst e;rw[hl3]at q;cases q;exact z.elim id id
      have flat1:∀{xs:List L3.D}{us:List V},L3.D.aC xs=true->IsAll H (ρ i) xs us->IsAll (ck H3 l (.lst (ws++[y]))) (ρ i) xs us:=λhf z=>(IsAll.flat (m':=λ_=>False) hf (z.same up3)).mono keepF λ_ _ _ z=>z.elim;have fl:∀{x:L3.D},x∈ds->ma x=true:=λhx=>g6.mp c3 _ hx;have fes:L3.D.aC es=true:=fl (fj ej);have isd:IsAll (ck H3 l (.lst (ws++[y]))) (ρ i) (ds.set j (.lst (es++[rv.d]))) vs':=IsAll.Qk (by rw[lT];exact elen) λn d u ed eu=>by
       by_cases hn:n=j
       .subst hn;rw[dR (cD.mp ej).1]at ed;cases ed;rw[ew]at eu;cases eu;exact⟨l,_,rfl,.inl ⟨aY,tl⟩,(flat1 fes hes).snoc ((Is.flat (m':=λ_=>False) c1 is4).mono keepF λ_ _ _ z=>z.elim)⟩
       .rw[gj (kF hn)]at ed;obtain⟨u',eu',iu⟩:=hall.get ed;rw[eu]at eu';cases eu';cases d with
        |lst es'=>obtain⟨l',ws',rfl,hl',hes'⟩:=iu;have tl':ρ i l':=hl'.elim (·.2) λ⟨_,_,z⟩=>z;have hl':H l'=some (.lst ws'):=hl'.elim (·.1) λ⟨o,q,z⟩=>(pm _ z _ _ q).elim;have nl:l'≠l:=λe=>hn (inj n j l (e▸eu) ew);exact⟨l',ws',rfl,.inl ⟨up _ _ (up3 _ _ hl') nl,tl'⟩,flat1 (fl (fj ed)) hes'⟩
        |_=>exact absurd (fl (fj ed)) (by simp[ma])
      obtain⟨f1,rep5⟩:=rep4.write (sl:=.kJ (.lst (ds.set j (.lst (es++[rv.d]))))) (vs':=ws++[y]) tl hi ev ⟨⟨root,vs',rfl,.inl ⟨up _ _ (up3 _ _ hroot) nrl,tr⟩,isd⟩,root,vs',rfl,tr,.inl (up _ _ (up3 _ _ hroot) nrl),nin,inj⟩;exact⟨l,ws,y,rfl,rfl,hl3,by rw[hes.length];exact vZ c2,q3 σ M4 ρ _ (nU.trans ⟨x4m,λ_ _ q _=>q⟩ f1) rep5⟩
     .rw[dS hc]at q3;exact q3.elim
    .exact q1.elim
  |_=>rw[ed]at q1;exact q1.elim
 .exact p.elim
end
noncomputable def OU:Bool->List V->HO
 |true,xs=>.tup xs
 |false,xs=>.lst xs
def AS:∀{k:Bool}{xs ys:List V},OU k xs=OU k ys->xs=ys
 |true,_,_,e=>by cases e;rfl
 |false,_,_,e=>by cases e;rfl
def AT:∀{k:Bool}{xs:List V}{o:Obj}{u:HO},OU k xs≠.cQ o u
 |true,_,_,_,e=>by cases e
 |false,_,_,_,e=>by cases e
def SqX(k:Bool)(H:Hp)(a:Addr)(xs:List V):Prop:=Rd H a (OU k xs)
def SqX.inj(h:SqX k H a xs)(g:SqX k H a ys):xs=ys:=by
 rcases h with h|⟨o,h⟩<;>rcases g with g|⟨o',g⟩<;>rw[h]at g
 .exact AS (ia g)
 .exact(AT (ia g)).elim
 .exact(AT (ia g).symm).elim
 .have e:=ia g;injection e with _ e;exact AS e
theorem SqX.some(h:SqX k H a xs):∃o,H a=some o:=Dz h
def SqX.at:∀{k:Bool}{a:Addr}{xs:List V},L2.Inv X ai σ H s->SqX k H a xs->∃its:List RE,Vals xs its/\SAt k s.heap a its.toArray
 |true,_,_,I,h=>let ⟨its,r,p,_⟩:=I.tuple (.inl h);⟨its,r,p⟩
 |false,_,_,I,h=>let ⟨its,r,p,_⟩:=I.list (.inl h);⟨its,r,p.isList⟩
def PK(ka kb:Bool)(a b:Addr):It:=
 ⟨λi H=>∃xs ys x y,SqX ka H a xs/\SqX kb H b ys/\xs[i]?=some x/\ys[i]?=some y,λi H v H'=>∃p x y,H p=none/\v=.ref p/\H'=ck H p (.tup [x,y])/\(∀xs,SqX ka H a xs->xs[i]?=some x)/\∀ys,SqX kb H b ys->ys[i]?=some y,
   λi H=>∃xs ys,SqX ka H a xs/\SqX kb H b ys/\(xs.length<=i\/ys.length<=i)⟩
structure Qi(ka kb:Bool) (h:Heap) (z TI TO i1 i2 a b:Addr) (i:Nat):Prop where
 zip:IsZip h z TI TO .none
 ti:IsPair h TI (.ref i1) (.ref i2)
 to:∃u v,IsPair h TO u v
 l:SIt ka h i1 a i
 r:SIt kb h i2 b i
def xW{H:Hp}{z TI TO i1 i2 a b:Addr}(N:FY z TI TO i1 i2)(f:∀c∈[z,TI,TO,i1,i2],H c=none)(ha:∃o,H a=some o)(hb:∃o,H b=some o):ZipApart z TI TO i1 i2 a b:=by
 obtain⟨_,ha⟩:=ha;obtain⟨_,hb⟩:=hb;exact⟨N.TIz,N.TOz,N.i1z,N.i2z,N.TITO,N.TIi1,N.TIi2,N.TOi1,N.TOi2,N.i12,aA ha (f z (by simp)),aA ha (f TO (by simp)),aA ha (f i1 (by simp)),aA ha (f i2 (by simp)),
  aA hb (f z (by simp)),aA hb (f TO (by simp)),aA hb (f i1 (by simp)),aA hb (f i2 (by simp))⟩
def Ck{P:RD}{w:World}{K:RC}{es:List Expr}{k:Nat}{pos:Pos}(ka kb:Bool)(a b z TI TO i1 i2:Addr)(N:FY z TI TO i1 i2):Turn P w K (.Tuple es k pos) (PK ka kb a b) [z,TI,TO,i1,i2] z (λi h=>Qi ka kb h z TI TO i1 i2 a b i) where
 mem:=by simp
 obj:=λi h st c hc=>by
  obtain⟨u,v,hto⟩:=st.to;obtain⟨o1,e1,c1,d1⟩:=st.l;obtain⟨o2,e2,c2,d2⟩:=st.r;simp only[cB,fw,mH]at hc;rcases hc with rfl|rfl|rfl|rfl|rfl
  .exact⟨_,st.zip,λv z=>by cases z⟩
  .exact⟨_,st.ti,λv z=>by cases z⟩
  .exact⟨_,hto,λv z=>by cases z⟩
  .exact⟨o1,e1,λv z=>by rw[d1]at z;cases z⟩
  .exact⟨o2,e2,λv z=>by rw[d2]at z;cases z⟩
 keep:=λi h h' st kk=>by obtain⟨u,v,hto⟩:=st.to;exact⟨kk z (by simp) _ st.zip,kk TI (by simp) _ st.ti,⟨u,v,kk TO (by simp) _ hto⟩,L2.SIt.at st.l λo q=>kk i1 (by simp) o q,L2.SIt.at st.r λo q=>kk i2 (by simp) o q⟩
 item:=by
  intro X hP hw hK hc i ai s σ H E I hf st hg;subst hP hw hK;obtain⟨xs,ys,x,y,hq,hq2,hx,hy⟩:=hg;obtain⟨its,rv,p⟩:=hq.at I;obtain⟨its2,rv2,p2⟩:=hq2.at I;obtain⟨u,hu,ru⟩:=rv.get hx;obtain⟨u2,hu2,ru2⟩:=rv2.get hy;obtain⟨o1,o2,hto⟩:=st.to;have A:=xW N (λc hc=>(hf c hc).1) hq.some hq2.some;have fz:=hf z (by simp);have fI:=hf TI (by simp);have fO:=hf TO (by simp);have f1:=hf i1 (by simp);have f2:=hf i2 (by simp);refine BR A st.zip st.ti hto st.l st.r p p2 (x:=u) (y:=u2) (by simpa using hu) (by simpa using hu2) λh' hz' hto' h1' h2' hp hsz hk=>?_;refine⟨_,rfl,wpAny_letOwnedTupleGo_zip hz' λh'' hz'' hs''=>?_⟩;have zlt:z<s.heap.objs.size:=dN st.zip;have keep2:∀c o,c≠z->c≠TO->c≠i1->c≠i2->s.heap.get? c=some o->h''.get? c=some o:=λc o n1 n2 n3 n4 q=>(hs''.2 c n1).trans (hk c o n1 n2 n3 n4 q);have hT'':h''.get? s.heap.objs.size=some { cls:=.type "tuple",data:=.seq #[u,u2] }:=(hs''.2 _ (qJ zlt)).trans hp;have fresh:=I.bC.fresh (cC s.heap.objs.size);have nin:∀{c:Addr},c∉[z,TO,i1,i2]->c≠z/\c≠TO/\c≠i1/\c≠i2:=λhn=>⟨λz=>hn (by simp[z]),λz=>hn (by simp[z]),λz=>hn (by simp[z]),λz=>hn (by simp[z])⟩;have I1:L2.Inv X ai σ (ck H s.heap.objs.size (.tup [x,y])) {s with heap:=h''}:=by
   refine I.step (t':=s.toks) (g':=s.gens) (d':=s.drawn) (ch:=[z,TO,i1,i2]) (λc hb=>?_) (λc o _ _ hn q _=>let ⟨n1,n2,n3,n4⟩:=nin hn;keep2 c o n1 n2 n3 n4 q)
    (λc o _ _ hn q _=>let ⟨n1,n2,n3,n4⟩:=nin hn;⟨o.slots,keep2 c o n1 n2 n3 n4 q⟩) (λc o _ q hH=>by rw[aJ (dU (dN q))];exact hH)
    (λc o hn q=>let ⟨n1,n2,n3,n4⟩:=nin hn;⟨o,keep2 c o n1 n2 n3 n4 q⟩) (λc zs q=>by rw[aJ (aA q fresh)];exact q)
    (λc o' u' q=>by rw[aJ (aA q fresh)];exact q) (λc ps q=>⟨#[],by rw[aJ (aA q fresh)];simp[q]⟩) (λm hm=>?_) (λc u' q=>?_) I.bare
   .simp only[cB,fw,mH]at hb;rcases hb with rfl|rfl|rfl|rfl
    .exact⟨fz.2.2.2.1,fz.2.1,fz.2.2.2.2.1,fz.2.2.2.2.2⟩
    .exact⟨fO.2.2.2.1,fO.2.1,fO.2.2.2.2.1,fO.2.2.2.2.2⟩
    .exact⟨f1.2.2.2.1,f1.2.1,f1.2.2.2.2.1,f1.2.2.2.2.2⟩
    .exact⟨f2.2.2.2.1,f2.2.1,f2.2.2.2.2.1,f2.2.2.2.2.2⟩
   .obtain⟨o,es',ep,ho',r⟩:=hm;exact⟨o,es',ep,keep2 _ o (kF fz.2.1) (kF fO.2.1) (kF f1.2.1) (kF f2.2.1) ho',r⟩
   .by_cases hb:c=s.heap.objs.size
    .subst hb;rw[aY]at q;cases q;refine⟨by show 2<=sizeLine;decide,[u,u2],.cons ru (.cons ru2 .nil),⟨_,hT'',rfl,0,rfl⟩⟩
    .rw[aJ hb]at q;refine(I.bC c u' q).stay (λd v hc' q'=>?_) (λd r=>by rw[aJ (aA r fresh)];exact r) λd zs r=>by rw[aJ (aA r fresh)];exact r
     have tr:∃w,H d=some w:=hc'.elim (λz=>⟨u',by rw[z];exact q⟩) λz=>⟨_,z⟩;obtain⟨w',hw'⟩:=tr;exact keep2 d v (aA hw' fz.1) (aA hw' fO.1) (aA hw' f1.1) (aA hw' f2.1) q'
  refine⟨.ref s.heap.objs.size,_,I1,rfl,⟨_,x,y,fresh,rfl,rfl,λzs hz'=>by rw[<- hq.inj hz'];exact hx,λzs hz'=>by rw[<- hq2.inj hz'];exact hy⟩,?_,λc hb=>?_⟩
  .have mv:∀c o,c≠z->h'.get? c=some o->h''.get? c=some o:=λc o n q=>(hs''.2 c n).trans q;exact⟨hz'',keep2 TI _ N.TIz N.TITO N.TIi1 N.TIi2 st.ti,⟨_,_,mv TO _ N.TOz hto'⟩,L2.SIt.at h1' λo q=>mv i1 o N.i1z q,L2.SIt.at h2' λo q=>mv i2 o N.i2z q⟩
  .have lt:∀{c:Addr}{o:Obj},s.heap.get? c=some o->H c=none->(ck H s.heap.objs.size (.tup [x,y])) c=none:=λq n=>by rw[aJ (dU (dN q))];exact n
   obtain⟨oo1,q1,_⟩:=st.l;obtain⟨oo2,q2,_⟩:=st.r;simp only[cB,fw,mH]at hb;rcases hb with rfl|rfl|rfl|rfl|rfl
   .exact lt st.zip fz.1
   .exact lt st.ti fI.1
   .exact lt hto fO.1
   .exact lt q1 f1.1
   .exact lt q2 f2.1
 done:=by
  intro X hP hw hK hc i ai s σ H E I hf st hg;subst hP hw hK;obtain⟨xs,ys,hq,hq2,hx⟩:=hg;obtain⟨its,rv,p⟩:=hq.at I;obtain⟨its2,rv2,p2⟩:=hq2.at I;obtain⟨o1,o2,hto⟩:=st.to;have A:=xW N (λc hc=>(hf c hc).1) hq.some hq2.some;have fz:=hf z (by simp);have fO:=hf TO (by simp);have f1:=hf i1 (by simp);have f2:=hf i2 (by simp);have l1:=rv.length;have l2:=rv2.length;refine Ds (I.ok.hd hc) A st.zip st.ti hto st.l st.r p p2 (hx.imp (λz=>by simp;lia) λz=>by simp;lia) λh' hk=>⟨rfl,?_⟩;have nin:∀{c:Addr},c∉[z,TO,i1,i2]->c≠z/\c≠TO/\c≠i1/\c≠i2:=λhn=>⟨λz=>hn (by simp[z]),λz=>hn (by simp[z]),λz=>hn (by simp[z]),λz=>hn (by simp[z])⟩;refine I.step (t':=s.toks) (g':=s.gens) (d':=s.drawn) (ch:=[z,TO,i1,i2]) (λc hb=>?_) (λc o _ _ hn q _=>let ⟨n1,n2,n3,n4⟩:=nin hn;hk c o n1 n2 n3 n4 q)
   (λc o _ _ hn q _=>let ⟨n1,n2,n3,n4⟩:=nin hn;⟨o.slots,hk c o n1 n2 n3 n4 q⟩) (λc o _ q hH=>hH)
   (λc o hn q=>let ⟨n1,n2,n3,n4⟩:=nin hn;⟨o,hk c o n1 n2 n3 n4 q⟩) (λc zs q=>q)
   (λc o' u' q=>q) (λc ps q=>⟨#[],by simp[q]⟩) (λm hm=>?_) (λc u' q=>?_) I.bare
  .simp only[cB,fw,mH]at hb;rcases hb with rfl|rfl|rfl|rfl
   .exact⟨fz.2.2.2.1,fz.2.1,fz.2.2.2.2.1,fz.2.2.2.2.2⟩
   .exact⟨fO.2.2.2.1,fO.2.1,fO.2.2.2.2.1,fO.2.2.2.2.2⟩
   .exact⟨f1.2.2.2.1,f1.2.1,f1.2.2.2.2.1,f1.2.2.2.2.2⟩
   .exact⟨f2.2.2.2.1,f2.2.1,f2.2.2.2.2.1,f2.2.2.2.2.2⟩
  .obtain⟨o,es',ep,ho',r⟩:=hm;exact⟨o,es',ep,hk _ o (kF fz.2.1) (kF fO.2.1) (kF f1.2.1) (kF f2.2.1) ho',r⟩
  .refine(I.bC c u' q).stay (λd v hc' q'=>?_) (λd r=>r) λd zs r=>r;have tr:∃w,H d=some w:=hc'.elim (λz=>⟨u',by rw[z];exact q⟩) λz=>⟨_,z⟩;obtain⟨w',hw'⟩:=tr;exact hk d v (aA hw' fz.1) (aA hw' fO.1) (aA hw' f1.1) (aA hw' f2.1) q'
 self:=λA i s Q E st h=>wpAny_pyIter_zip st.zip h
section
variable{X:Cx}{E:XK}{es:List Expr}{k:Nat}{Ip:Pos}
def Nh(ta:TA):TI:=λσ H R=>ta σ H λvs H1=>∃ka kb a b xs ys,vs=[.ref a,.ref b]/\SqX ka H1 a xs/\SqX kb H1 b ys/\R (PK ka kb a b) H1
def G5{ta:TA}{p pos:Pos}(hg:Gl X "zip") (hm:X.mg "zip"=none) (ha:PA X [l,r] ta) (hs:autoParam (starEach [l,r] X.env=(false,eval l X.env)::starEach [r] X.env) RQ) (hpl:autoParam ((backTo pos (starEach [r] X.env)).any (·.1)=false) RQ) :
 PI X (.Tuple es k Ip) (.Call (.Name "zip" p) [l,r] [] pos) (Nh ta):=by
 intro ai s σ H R I h;refine Call_ (kY I hg hm (by decide +kernel:bootBuiltins "zip"=some (.type "zip")) (jN (dY (ha pos ai s σ H _ I h) λus s1 ⟨vs,H1,I1,r1,q1⟩=>?_) hs hpl));have fpc:∀c∈[s1.heap.objs.size+4,s1.heap.objs.size+2,s1.heap.objs.size+3,s1.heap.objs.size,s1.heap.objs.size+1],kM X ai H1 c:=λc hb=>by
  have hc:s1.heap.objs.size<=c:=by
   simp only[cB,fw,mH]at hb;rcases hb with rfl|rfl|rfl|rfl|rfl
   .exact m8 _ 4
   .exact m8 _ 2
   .exact m8 _ 3
   .exact cC _
   .exact m8 _ 1
  exact I1.uA hc (I1.bC.fresh hc)
 obtain⟨ka,kb,a,b,xs,ys,e,hq,hq2,q⟩:=q1;subst e;obtain⟨u,c,rfl,ru,rc⟩:=xp r1;cases ru;cases rc;obtain⟨its,rv,pl⟩:=hq.at I1;obtain⟨its2,rv2,pl2⟩:=hq2.at I1;refine BS pl pl2 λh' g1 g2 g3 g4 g5 kp=>?_;have I2:L2.Inv X ai σ H1 {s1 with heap:=h'}:=I1.kept (t':=s1.toks) kp;refine wpAny_pyIter_zip g1 ?_;exact⟨s1.heap.objs.size+4,_,_,_,H1,rfl,I2,Ck ka kb a b (s1.heap.objs.size+4) (s1.heap.objs.size+2) (s1.heap.objs.size+3) s1.heap.objs.size (s1.heap.objs.size+1) (Kg s1.heap.objs.size),⟨g1,g2,⟨_,_,g3⟩,g4,g5⟩,fpc,q⟩
def Ec(k:Bool)(H:Hp)(m:Addr->Prop)(a:Addr)(vs:List V):Prop:=∀H':Hp,(∀a o,H a=some o->(m a\/gP o)->H' a=some o)->SqX k H' a vs
def Cm{m:Addr->Prop}{H:Hp}{ds es:List D}{vs ws:List V}(h:Ec ka H m a vs)(h2:Ec kb H m b ws)(is:IsAll H m ds vs)(is2:IsAll H m es ws):Walk (PK ka kb a b) m H (mJ ds es):=by
 refine⟨λH' i d k e=>?_,λH' k=>⟨vs,ws,h H' k,h2 H' k,by rw[xS,is.length,is2.length];lia⟩⟩;rw[xR]at e;cases q:ds[i]? with
 |none=>rw[q]at e;cases e
 |some d0=>
  cases q2:es[i]? with
  |none=>rw[q,q2]at e;cases e
  |some e0=>
   rw[q,q2]at e;have e:D.tup [d0,e0]=d:=by simpa using e
   obtain⟨v,ev,iv⟩:=(is.mono k λ_ _ _ z=>z:IsAll H' m ds vs).get q;obtain⟨v2,ev2,iv2⟩:=(is2.mono k λ_ _ _ z=>z:IsAll H' m es ws).get q2;have k1:=h H' k;have k2:=h2 H' k;refine⟨⟨vs,ws,v,v2,k1,k2,ev,ev2⟩,λx H'' y=>?_⟩;obtain⟨p,x',y',hp,rfl,rfl,y1,y2⟩:=y;have z1:=y1 vs k1;have z2:=y2 ws k2;rw[ev]at z1;cases z1;rw[ev2]at z2;cases z2;have sm:Same H' (ck H' p (.tup [v,v2])):=ca hp;refine⟨sm,?_⟩;rw[<- e];exact⟨p,_,rfl,aY,v,[v2],rfl,Is.same sm iv,v2,[],rfl,Is.same sm iv2,rfl⟩
noncomputable def Ed:D->Option (Bool×List D)
 |.lst ds=>some (false,ds)
 |.tup ds=>some (true,ds)
 |_=>none
def AU{m:Addr->Prop}{v:V}{k:Bool}{ds:List D}(e:Ed d=some (k,ds))(h:Is H m d v):∃a vs,v=.ref a/\SqX k H a vs/\Ec k H m a vs/\IsAll H m ds vs:=by
 cases d with
 |lst es=>
  cases e;obtain⟨a,vs,rfl,h1,h2⟩:=h;refine⟨a,vs,rfl,h1.imp (·.1) λ⟨o,z,_⟩=>⟨o,z⟩,λH' kp=>?_,h2⟩;rcases h1 with⟨z,zm⟩|⟨o,z,zm⟩
  .exact .inl (kp a _ z (.inl zm))
  .exact .inr ⟨o,kp a _ z (.inl zm)⟩
 |tup es=>cases e;obtain⟨a,vs,rfl,h1,h2⟩:=h;exact⟨a,vs,rfl,.inl h1,λH' kp=>.inl (kp a _ h1 (.inr True.intro)),h2⟩
 |_=>cases e
def xX:List R->Res Src
 |[r,q]=>match Ed r.d,Ed q.d with
  |some (_,ds),some (_,es)=>.ok ⟨mJ ds es,r.fr&&q.fr,r.al++q.al⟩
  |_,_=>.stuck
 |_=>.stuck
def xY(fs:En->Res (List R)):En->Res Src:=λenv=>(fs env).bind xX
def sD{fs:En->Res (List R)} {p pos:Pos} (hg:Gl X "zip") (hm:X.mg "zip"=none) (ha:AJ X E [l,r] fs) (hs:autoParam (starEach [l,r] X.env=(false,eval l X.env)::starEach [r] X.env) RQ) (hpl:autoParam ((backTo pos (starEach [r] X.env)).any (·.1)=false) RQ) :
 GR X E (.Tuple es k Ip) (.Call (.Name "zip" p) [l,r] [] pos) (xY fs):=by
 obtain⟨t,p1,s1⟩:=ha;refine⟨_,G5 hg hm p1 hs hpl,λg M ρ env σ H Rq rep p=>s1.one rep (P:=λM H r=>PostI X.mg E g M ρ env σ H Rq r) p (λ_ _ z=>z) (λ_ _ _ z=>z) (λ_ _ _ _ _ e p=>p.ext e) λrs vs M1 H1 e1 rep1 is q=>?_⟩
 match rs,is,q with
 |[r,r2],is,q=>
  obtain⟨v,w,rfl,i1,v2,w2,rfl,i2,i3⟩:=is;cases i3;have i1:Is H1 (vmsk g M1 (bz [r,r2]) ρ (bR [r,r2])) r.d v:=i1;have i2:Is H1 (vmsk g M1 (bz [r,r2]) ρ (bR [r,r2])) r2.d v2:=i2;replace i1:=i1.weak λ_ z=>AO z;replace i2:=i2.weak λ_ z=>AO z;unfold xX at q;dsimp only at q;cases z:Ed r.d with
  |none=>rw[z]at q;exact q.elim
  |some x=>
   cases z2:Ed r2.d with
   |none=>rw[z,z2]at q;exact q.elim
   |some y=>obtain⟨ka,ds⟩:=x;obtain⟨kb,es⟩:=y;rw[z,z2]at q;dsimp only at q;obtain⟨a,ws,rfl,h1,h2,h3⟩:=AU z i1;obtain⟨b,us,rfl,g1,g2,g3⟩:=AU z2 i2;exact⟨ka,kb,a,b,ws,us,rfl,h1,g1,q _ M1 H1 (Ext.refl _ _) rep1 (Cm h2 g2 h3 g3)⟩
 |[],_,q=>exact q.elim
 |[_],_,q=>exact q.elim
 |_::_::_::_,_,q=>exact q.elim
end
section
variable{X:Cx}{E:XK}
def PL:V->List V->Hp->VK->Prop:=λx xs H Q=>∃l vs ds d m m' y j,x=.ref l/\xs=[y]/\Rd H l (.lst vs)/\IsAll H m ds vs/\Is H m' d y/\(D.gH ds<=50/\d.dep<=50)/\ds.findIdx? (λe=>b6 e d)=some j/\Q (.int ((j:Nat):Int)) H
def Kr(hu:X.A.units+64<cLine):ON X "list.index" PL:=by
 intro ai s σ H x vs v us Q I rx rv h;obtain⟨l,xs,ds,d,m,m',y,j,rfl,rfl,hH,is,ix,hd,hj,q⟩:=h;cases rx;obtain⟨u,rfl,ru⟩:=rv.one;obtain⟨z,its,n,r,e⟩:=(show ObjOk X.prog X.w H s.heap l (.lst xs)from Az I.bC hH);have hl:=r.length;obtain⟨hj1,hj2,hj3⟩:=List.findIdx?_eq_some_iff_getElem.mp hj;have lds:=is.length;have hji:j<its.length:=by lia
 have eqs:∀(k:Nat)(hk:k<its.length)(hk':k<ds.length),c6 H m d its[k]=b6 ds[k] d:=λk hk hk'=>by
  obtain⟨w,ew,iw⟩:=is.get (i:=k) (d:=ds[k]) (by simp[hk']);obtain⟨u',eu,ru'⟩:=r.get ew;have:its[k]=u':=by rw[ic hk]at eu;exact ia eu
  rw[this];exact pz ru' iw
 refine Ra F.slot_list_index ⟨_,e,rfl⟩ F.entry_list_index (F.args_list_index_2 _ _) (SeqAt.list_indexAt l its.toArray n none #[] u (c6 H m d) j (by simpa using hji) ?_ ?_ ?_) ⟨e,?_,?_⟩
 .have:sizeLine<2^62:=by decide
  lia
 .simp only[List.getElem_toArray];rw[eqs j hji hj1];exact hj2
 .intro k hk hkj;have hk':k<its.length:=by simpa using hk
  simp only[List.getElem_toArray];rw[eqs k hk' (by lia)];have:=hj3 k hkj;simpa using this
 .exact λw hw=>hI I (by show X.A.units+1+50<cLine;lia) ix hd.2 ru is r hd.1 w (by simpa using hw)
 .exact⟨.int j,H,I.tok _,⟨_,rfl⟩,q⟩
def Ee(ds:List D)(d:D):Option Nat:=if D.gH ds<=50/\d.dep<=50 then ds.findIdx? (λe=>b6 e d)else none
def u0(ds:List D)(rb:R):Res R:=match Ee ds rb.d with
 |some j=>.ok (.val (.int ((j:Nat):Int)) true [])
 |none=>.stuck
def u3(fa:En->Res R)(env:En)(ra:R):Res R:=match ra.d with
 |.lst ds=>(fa env).bind (u0 ds)
 |_=>.stuck
def Ks(fo fa:En->Res R):En->Res R:=λenv=>(fo env).bind (u3 fa env)
def Kt(hu:X.A.units+64<cLine)(ho:PD X E o fo)(ha:PD X E a fa)(hbase:autoParam (attributeBase o "index" X.env (eval o X.env)=eval o X.env) RQ)
 (hfew:autoParam (((backTo cpos (starEach [a] X.env)).all (λx=>!x.1)&&(backToKw cpos (keywordEach [] X.env)).all (λx=>x.1.isSome)&&decide (([a]:List Expr).length+([]:List Keyword).length+(if([]:List Keyword).isEmpty then 0 else 1)<30))=true) RQ)
 (hline:autoParam ((apos.endLine==cpos.line)=true) RQ) (hs:autoParam (starEach [a] X.env=(false,eval a X.env)::starEach [] X.env) RQ) (hplain:autoParam (bT X cpos []) RQ) :
 PD X E (.Call (.Attribute o "index" apos) [a] [] cpos) (Ks fo fa):=by
 obtain⟨to,p0,s0⟩:=ho;obtain⟨t,p1,s1⟩:=ha;refine⟨_,rW m_ PySem.F.slot_list_index PySem.F.type_list_index (Kr hu) p0 (d9 p1 gI hs) hbase hfew hline hs hplain,λg M ρ env σ H Q rep p=>?_⟩;have p:PostE X.mg E g M ρ env σ H Q ((fo env).bind (u3 fa env)):=p;refine s0.gn rep p λra v M1 H1 e1 rep1 i1 q1=>?_;unfold u3 at q1;cases hq:ra.d with
 |lst ds=>
  rw[hq]at q1 i1;dsimp only at q1;obtain⟨b,ws,rfl,h,k⟩:=i1;have rd:Rd H1 b (.lst ws):=h.imp (λz=>z.1) λ⟨o,z,_⟩=>⟨o,z⟩;refine⟨.inl ⟨rfl,ws,.inl rd⟩,s1.gn rep1 q1 λrb y M2 H2 e2 rep2 i2 q2=>?_⟩;unfold u0 at q2;cases qj:Ee ds rb.d with
  |none=>rw[qj]at q2;exact q2.elim
  |some j=>
   rw[qj]at q2;unfold Ee at qj;by_cases hd:D.gH ds<=50/\rb.d.dep<=50
   .rw[c5 hd]at qj;have rd2:Rd H2 b (.lst ws):=rd.imp (λh=>e2.h _ _ h) λ⟨o,h⟩=>⟨o,e2.h _ _ h⟩;exact⟨b,ws,ds,rb.d,_,_,y,j,rfl,rfl,rd2,k.ext e2,i2,hd,qj,q2 _ M2 H2 (Ext.refl _ _) rep2 rfl⟩
   .rw[dS hd]at qj;cases qj
 |_=>rw[hq]at q1;exact q1.elim
noncomputable def jv(kvs:List (Str×Int))(k:Str):Option Int:=(kvs.find? λp=>decide (p.1=k)).map (·.2)
def Co(kvs:List (Str×Int))(r:R):Res R:=match r.d with
 |.str k=>(match jv kvs k with
  |some v=>.ok (.val (.int v) true [])
  |none=>.stuck)
 |_=>.stuck
def Ef(kvs:List (Str×Int))(f:En->Res R):En->Res R:=λenv=>(f env).bind (Co kvs)
noncomputable def zw(w:World):List DictEntry->List (Str×Int)->Prop
 |[],[]=>True
 |e::es,p::ps=>(e.hash=hashStr w p.1/\(∃t,e.key=.str p.1 t)/\∃t,e.val=.int p.2 t)/\zw w es ps
 |_,_=>False
def xZ(w:World)(K:RC)(a:Addr)(kvs:List (Str×Int)):Prop:=∃es ep,K.lookup a=some ⟨.type "dict",none,.dict es ep,#[]⟩/\zw w es.toList kvs/\(kvs.map (·.1)).Nodup
noncomputable def mU:List DictEntry->List (Str×Int)->List (b5×RE)
 |e::es,p::ps=>(.inr p.1,e.val)::mU es ps
 |_,_=>[]
theorem pB:∀{es:List DictEntry}{kvs:List (Str×Int)},zw w es kvs->Pairs (bd P w) es (mU es kvs)
 |[],[],_=>.nil
 |e::es,p::ps,h=>by obtain⟨⟨_,⟨t,hk⟩,_⟩,h2⟩:=h;exact .cons (by rw[hk];exact kX P w p.1 t) rfl (pB h2)
 |[],_::_,h=>h.elim
 |_::_,[],h=>h.elim
theorem sF:∀{es:List DictEntry}{kvs:List (Str×Int)},zw w es kvs->∀e∈es,∃k,(bd P w).is k e.key=true/\e.hash=(bd P w).hash k
 |[],[],_,_,h=>by cases h
 |e::es,p::ps,h,x,hx=>by
  obtain⟨⟨hh,⟨t,hk⟩,_⟩,h2⟩:=h;rcases cB.mp hx with rfl|hx
  .exact⟨.inr p.1,by rw[hk];exact kX P w p.1 t,hh⟩
  .exact sF h2 x hx
 |[],_::_,h,_,_=>h.elim
 |_::_,[],h,_,_=>h.elim
theorem wf:∀{es:List DictEntry}{kvs:List (Str×Int)},zw w es kvs->(mU es kvs).map (·.1)=kvs.map λp=>(.inr p.1:b5)
 |[],[],_=>rfl
 |e::es,p::ps,h=>by unfold mU;rw[b8,b8,wf h.2]
 |[],_::_,h=>h.elim
 |_::_,[],h=>h.elim
theorem AV:∀{es:List DictEntry}{kvs:List (Str×Int)},zw w es kvs->jv kvs k=some v->∃u,valueAt (mU es kvs) (.inr k:b5)=some u/\RelV (.int v) u
 |[],[],_,e=>by cases e
 |e::es,p::ps,h,q=>by
  obtain⟨⟨_,_,⟨t,hv⟩⟩,h2⟩:=h;unfold jv at q;unfold mU valueAt;by_cases c:p.1=k
  .rw[ii,gh c]at q;have q:p.2=v:=by simpa using q
   refine⟨e.val,?_,t,by rw[hv,q]⟩;rw[ii,gh (by rw[c])];rfl
  .rw[ii,fm c]at q;obtain⟨u,e1,e2⟩:=AV h2 (show jv ps k=some v from q);refine⟨u,?_,e2⟩;rw[ii,fm (λz=>c (tT z))];exact e1
 |[],_::_,h,_=>h.elim
 |_::_,[],h,_=>h.elim
def Ku(hg:Gl X x)(hm:X.mg x=some (.ref a))(tb:xZ X.w X.K a kvs)(hi:PE X i ty)(hs:Dg i)(hd:dB x) :
 PE X (.Subscript (.Name x np) i pos) (λσ H Q=>ty σ H λy H2=>∃k v,y=.str k/\jv kvs k=some v/\Q (.int v) H2):=by
 intro ai s σ H Q I h;have hn:=vN (X:=X) (v:=.ref a) (pos:=np) hg hm rfl hd;refine AA PySem.F.slot_dict_getitem.lookup hs (dY (hn ai s σ H (λv H1=>v=.ref a/\H1=H) I ⟨rfl,rfl⟩) λu s1 ⟨x,H1,I1,rx,ex,eh⟩=>?_);subst ex eh;obtain rfl:u=Value.ref a:=rx;refine dY (hi ai s1 σ _ _ I1 h) λiv s2 ⟨y,H2,I2,ry,k,v,ey,ht,q⟩=>?_;subst ey;obtain⟨es,ep,lk,te,nd⟩:=tb;have dd:s2.heap.DictOf (bd X.prog X.w) a (mU es.toList kvs):=⟨_,es,ep,I2.vK _ _ lk,⟨rfl,rfl,rfl⟩,rfl,λe he=>sF te e (by simpa using he),pB te,by
  rw[wf te];have:((kvs.map (·.1)).map λn=>(.inr n:b5)).Nodup:=by rw[List.Nodup,o9];exact nd.imp λ{a b} h e=>h (tT e)
  rw[dQ]at this;exact this⟩
 obtain⟨w',hw,rw'⟩:=AV te ht;exact⟨dd.typeIs,wpAny_getItem_of (nW (k:=.inr k) ry) dd.mapOf hw ⟨.int v,H2,I2.tok _,rw',q⟩⟩
def zx(hg:Gl X x)(tb:∃a,X.mg x=some (.ref a)/\xZ X.w X.K a kvs)(hi:PD X E i f)(hs:Dg i)(hd:autoParam (dB x) RN) :
 PD X E (.Subscript (.Name x np) i pos) (Ef kvs f):=by
 obtain⟨a,hm,ta⟩:=tb;obtain⟨t,p1,s1⟩:=hi;refine⟨_,Ku hg hm ta p1 hs hd,λg M ρ env σ H Q rep p=>s1.gn rep p λr v M1 H1 e1 rep1 i1 q1=>?_⟩;unfold Co at q1;cases hq:r.d with
 |str k=>
  rw[hq]at q1 i1;dsimp only at q1;cases ht:jv kvs k with
  |none=>rw[ht]at q1;exact q1.elim
  |some n=>rw[ht]at q1;exact⟨k,n,i1,ht,q1 _ M1 H1 (Ext.refl _ _) rep1 rfl⟩
 |_=>rw[hq]at q1;exact q1.elim
def AW(i:Nat)(env:En)(ds:List D)(fr:Bool)(r:R):Res Fl:=match r with
 |.new es f2=>if ds.length+es.length<=lim then .ok (.nx (env.set i (some (.own (ds++es) (fr&&f2)))))else .stuck
 |.mG (.lst es)=>if ds.length+es.length<=lim/\D.aC es=true then .ok (.nx (env.set i (some (.own (ds++es) fr))))else .stuck
 |_=>.stuck
def x0(i:Nat)(f:En->Res R):En->Res Fl:=λenv=>match jq env i with
 |some (ds,fr)=>(f env).bind (AW i env ds fr)
 |none=>.stuck
def Eg(ha:PE X a (t7 i))(h:PD X E e f)
 (hbase:autoParam (attributeBase a "extend" X.env (eval a X.env)=eval a X.env) RQ)
 (hfew:autoParam (((backTo cpos (starEach [e] X.env)).all (λx=>!x.1)&&(backToKw cpos (keywordEach [] X.env)).all (λx=>x.1.isSome)
   && decide (([e]:List Expr).length+([]:List Keyword).length+(if([]:List Keyword).isEmpty then 0 else 1)<30))=true) RQ)
 (hline:autoParam ((apos.endLine==cpos.line)=true) RQ) (hs:autoParam (starEach [e] X.env=(false,eval e X.env)::starEach [] X.env) RQ) (hplain:autoParam (bT X cpos []) RQ)
 (hsw:autoParam (swapsWith (.Call (.Attribute a "extend" apos) [e] [] cpos) none pos.line X.env=pure false) RQ) :
 yW X E (.Expr (.Call (.Attribute a "extend" apos) [e] [] cpos) pos) (x0 i f):=by
 obtain⟨t,p1,s1⟩:=h;refine⟨_,nV (rW m_ PySem.F.slot_list_extend PySem.F.type_list_extend uI ha (d9 p1 gI hs) hbase hfew hline hs hplain) hsw,λg M ρ env σ H D rep p=>?_⟩;unfold x0 at p;cases e1:jq env i with
 |none=>rw[e1]at p;exact p.elim
 |some o=>
  obtain⟨ds,fr⟩:=o;rw[e1]at p;dsimp only at p;obtain⟨M0,ρ0,l,vs,m0,rep0,ev,k1,k2,k4,hi,_⟩:=rep.vI e1;refine⟨_,ev,.inl ⟨rfl,vs,SqL.of k1⟩,s1.rB rep p λr y M' H' e rep' ro p'=>?_⟩;have key:∀(es:List L3.D)(f2:Bool)(b:Addr)(ws:List V),y=.ref b->H' b=some (.lst ws)->IsAll H' (msk g M' f2) es ws->ds.length+es.length<=lim->
   PostS X.mg E g M' H' D (.ok (.nx (env.set i (some (.own (ds++es) (fr&&f2))))))->Ay (.ref l) [y] H' λv H''=>D.nx σ H'':=by
   intro es f2 b ws hy h1 h5 hc p';subst hy;obtain⟨M3,ρ3,l3,vs3,m3,rep3,ev3,j1,j2,j4,hi3,_⟩:=rep'.vI e1;rw[ev]at ev3;cases ev3;have hl:H' l=some (.lst vs):=e.h _ _ k1;rw[hl]at j1;cases j1;have pl:ρ3 i l:=(j2 l).mpr rfl;obtain⟨nl3,_⟩:=rep3.bQ i l pl;have is4:IsAll H' (msk g M3 (fr&&f2)) (ds++es) (vs++ws):=by refine IsAll.append (IsAll.weak (λb z=>⟨z.1,λq=>z.2 (by cases fr<;>simp_all)⟩) j4) (IsAll.weak (λb z=>⟨m3 b z.1,λq=>z.2 (by cases fr<;>simp_all)⟩) h5)
   have kp:∀b u,H' b=some u->(msk g M3 (fr&&f2) b\/gP u)->ck H' l (.lst (vs++ws)) b=some u:=λb u q z=>by
    rw[aJ]
    .exact q
    .rintro rfl;rcases z with z|z
     .exact nl3 z.1
     .rw[hl]at q;cases q;exact z
   obtain⟨f1,rep4⟩:=rep3.write (sl:=.own (ds++es) (fr&&f2)) (vs':=vs++ws) pl (by rw[lT];exact hi3) ev ⟨l,vs++ws,rfl,aY,j2,IsAll.mono kp (λ_ _ _ z=>z) is4⟩;rw[List.set_set]at rep4;refine⟨l,b,vs,ws,rfl,rfl,hl,h1,by rw[k4.length,h5.length];exact gJ hc,?_⟩;exact p' σ M3 ρ3 _ (nU.trans ⟨λa z=>m3 a z,λ_ _ q _=>q⟩ f1) rep4
  unfold AW at p';cases r with
  |new es f2=>
   dsimp only at p';by_cases hc:ds.length+es.length<=lim
   .rw[c5 hc]at p';obtain⟨b,ws,rfl,h1,h2,h3,h4,h5⟩:=ro;exact key es f2 b ws rfl h1 h5 hc p'
   .rw[dS hc]at p';exact p'.elim
  |mG d=>
   cases d with
   |lst es=>
    dsimp only at p';by_cases hc:ds.length+es.length<=lim/\L3.D.aC es=true
    .rw[c5 hc]at p';obtain⟨T,hT,b,ws,rfl,h1,h5⟩:=ro;have hb:H' b=some (.lst ws):=by
      rcases h1 with h1|⟨o,h1,t⟩
      .exact h1.1
      .obtain⟨_,_,⟨u,hu,mu⟩,_⟩:=hT b t;rw[h1]at hu;cases hu;exact mu.elim
     exact key es true b ws rfl hb (IsAll.weak (m:=λ_=>False) (λ_ z=>z.elim) (IsAll.flat hc.2 h5)) hc.1 (by rw[Bool.and_true];exact p')
    .rw[dS hc]at p';exact p'.elim
   |_=>exact p'.elim
  |_=>exact p'.elim
def wg(a b:R):Res R:=match a.d,b.d with
 |.str x,.str y=>.ok (.val (.bl (!(decide (y.cps.toList<x.cps.toList)))) true [])
 |_,_=>.stuck
def Kv:OpR X (compareOp .LtE) (λx y H Q=>∃i j,x=.str i/\y=.str j/\Q (.bl (!(decide (j.cps.toList<i.cps.toList)))) H):=by intro ai s σ H x y v u Q I rx ry h;obtain⟨i,j,rfl,rfl,q⟩:=h;obtain⟨t,rfl⟩:=rx;obtain⟨t',rfl⟩:=ry;exact P.le_str (JR I q rfl)
def wj:n6 X E (compareOp .LtE) wg:=by
 refine⟨_,Kv,λg M ρ env σ H Q ra rb x y rep i1 i2 p=>?_⟩;unfold wg at p;cases ha:ra.d with
 |str a=>
  cases hb:rb.d with
  |str b=>rw[ha,hb]at p;rw[ha]at i1;rw[hb]at i2;exact⟨a,b,i1,i2,p _ M H (Ext.refl _ _) rep rfl⟩
  |_=>rw[ha,hb]at p;exact p.elim
 |_=>rw[ha]at p;exact p.elim
def uf:List R->Res R
 |[r]=>match r.d with
  |.int i=>if i.natAbs<1000000 then .ok (.val (.str (toString i)) true [])else .stuck
  |.str x=>.ok (.val (.str x) true [])
  |_=>.stuck
 |_=>.stuck
def Cp:CallR X (.type "str") (λxs H Q=>(∃i,xs=[.int i]/\i.natAbs<1000000/\Q (.str (toString i)) H)\/∃x,xs=[.str x]/\Q (.str x) H):=by
 intro ai s σ H xs us Q I r h;rcases h with⟨i,rfl,hz,q⟩|⟨x,rfl,q⟩
 .obtain⟨u,rfl,t,rfl⟩:=i4 r;have:i.natAbs.log2<1920:=by
   by_cases h0:i.natAbs=0
   .rw[h0];decide
   .exact(Nat.log2_lt h0).mpr (fy hz (ib (by decide:1000000<=2^20) (Nat.pow_le_pow_right (by decide) (by decide))))
  exact PySem.P.str_of_int this ⟨.str _,H,I.tok _,⟨_,rfl⟩,q⟩
 .obtain⟨u,rfl,t,rfl⟩:=i4 r;exact PySem.P.str_of_str ⟨.str _,H,I,⟨_,rfl⟩,q⟩
def zy:jp X E (.type "str") uf:=by
 refine⟨_,Cp,λg M ρ env σ H Q rs vs rep i p=>?_⟩;rcases rs with _|⟨r,_|_⟩
 .exact p.elim
 rotate_left
 .exact p.elim
 obtain⟨v,w,rfl,i1,i2⟩:=i;cases i2;have i1:Is H (vmsk g M (bz [r]) ρ (bR [r])) r.d v:=i1;unfold uf at p;dsimp only at p;cases z:r.d with
 |int n=>
  rw[z]at p i1;dsimp only at p;by_cases hc:n.natAbs<1000000
  .rw[c5 hc]at p;cases(show v=.int n from i1);exact .inl ⟨n,rfl,hc,p _ M H (Ext.refl _ _) rep rfl⟩
  .rw[dS hc]at p;exact p.elim
 |str x=>rw[z]at p i1;cases(show v=.str x from i1);exact .inr ⟨x,rfl,p _ M H (Ext.refl _ _) rep rfl⟩
 |_=>rw[z]at p;exact p.elim
noncomputable def ku:List D->Option (List Str)
 |[]=>some []
 |.str x::ds=>(ku ds).map (x::·)
 |_::_=>none
theorem pC:∀xs:List Str,ku (xs.map .str)=some xs
 |[]=>rfl
 |x::xs=>by rw[b8];unfold ku;rw[pC xs];rfl
theorem sG:∀{ds:List D}{vs:List V}{xs:List Str},IsAll H m ds vs->ku ds=some xs->vs=xs.map V.str
 |[],_,_,h,e=>by cases h;cases e;rfl
 |.str x::ds,_,xs,h,e=>by
  obtain⟨v,r,rfl,h1,h2⟩:=h;unfold ku at e;cases q:ku ds with
  |none=>rw[q]at e;cases e
  |some ys=>rw[q]at e;cases e;rw[sG h2 q,b8,show v=.str x from h1]
 |.ig::_,_,_,_,e=>by cases e
 |.bl _::_,_,_,_,e=>by cases e
 |.int _::_,_,_,_,e=>by cases e
 |.tup _::_,_,_,_,e=>by cases e
 |.lst _::_,_,_,_,e=>by cases e
 |.lS _ _::_,_,_,_,e=>by cases e
theorem u4:∀{xs:List Str}{its:List RE},Vals (xs.map V.str) its->∃l:List (Str×Tok),its=strValues l/\l.map (·.1)=xs
 |[],its,h=>by cases h;exact⟨[],rfl,rfl⟩
 |x::xs,its,h=>by
  rw[b8]at h;cases h with
  |cons h1 h2=>obtain⟨t,rfl⟩:=h1;obtain⟨l,rfl,rfl⟩:=u4 h2;exact⟨(x,t)::l,rfl,rfl⟩
noncomputable def qf(sep:Str)(xs:List Str):Nat:=(xs.map (·.length)).sum+xs.length*sep.length
def Eh(h:qf sep xs<=1000000):JoinOk sep xs=true:=by
 unfold JoinOk;rw[Bool.not_eq_true'];unfold Builtin.Str.tooLong;rw[StrLaws.joinTotal];have:1000000<=sizeLine:=by decide
 unfold qf at h;exact fm (by lia)
def Ni:V->List V->Hp->VK->Prop:=λx vs H Q=>∃sep p xs,x=.str sep/\vs=[.ref p]/\Rd H p (.lst (xs.map V.str))/\qf sep xs<=1000000/\Q (.str (Txt.join sep xs)) H
def G6:ON X "str.join" Ni:=by intro ai s σ H x vs v us Q I rx rv h;obtain⟨sep,p,xs,rfl,rfl,hH,hj,q⟩:=h;obtain⟨t,rfl⟩:=rx;obtain⟨u,rfl,ru⟩:=rv.one;cases ru;obtain⟨z,its,n,r,e⟩:=(show ObjOk X.prog X.w H s.heap p (.lst (xs.map V.str))from Az I.bC hH);obtain⟨l,rfl,hl⟩:=u4 r;exact SC.join (l:=l) ⟨_,e,rfl,n,rfl⟩ hl (Eh hj) λt' k=>⟨.str _,H,I.tok _,⟨_,rfl⟩,q⟩
def pD(sep:Str)(r:R):Res R:=match r.d with
 |.lst ds=>(match ku ds with
  |some xs=>if qf sep xs<=1000000 then .ok (.val (.str (Txt.join sep xs)) true [])else .stuck
  |none=>.stuck)
 |_=>.stuck
def sH(fa:En->Res R)(env:En)(ra:R):Res R:=match ra.d with
 |.str sep=>(fa env).bind (pD sep)
 |_=>.stuck
def x8(fo fa:En->Res R):En->Res R:=λenv=>(fo env).bind (sH fa env)
def wn(ho:PD X E o fo)(ha:PD X E a fa)(hbase:autoParam (attributeBase o "join" X.env (eval o X.env)=eval o X.env) RQ)
 (hfew:autoParam (((backTo cpos (starEach [a] X.env)).all (λx=>!x.1)&&(backToKw cpos (keywordEach [] X.env)).all (λx=>x.1.isSome)&&decide (([a]:List Expr).length+([]:List Keyword).length+(if([]:List Keyword).isEmpty then 0 else 1)<30))=true) RQ)
 (hline:autoParam ((apos.endLine==cpos.line)=true) RQ) (hs:autoParam (starEach [a] X.env=(false,eval a X.env)::starEach [] X.env) RQ) (hplain:autoParam (bT X cpos []) RQ) :
 PD X E (.Call (.Attribute o "join" apos) [a] [] cpos) (x8 fo fa):=by
 obtain⟨to,p0,s0⟩:=ho;obtain⟨t,p1,s1⟩:=ha;refine⟨_,rW PySem.F.plainAttrs_str PySem.F.slot_str_join PySem.F.type_str_join G6 p0 (d9 p1 gI hs) hbase hfew hline hs hplain,λg M ρ env σ H Q rep p=>?_⟩;have p:PostE X.mg E g M ρ env σ H Q ((fo env).bind (sH fa env)):=p;refine s0.gn rep p λra v M1 H1 e1 rep1 i1 q1=>?_;unfold sH at q1;cases hq:ra.d with
 |str sep=>
  rw[hq]at q1 i1;dsimp only at q1;cases(show v=.str sep from i1);refine⟨rfl,s1.gn rep1 q1 λrb y M2 H2 e2 rep2 i2 q2=>?_⟩;unfold pD at q2;cases hr:rb.d with
  |lst ds=>
   rw[hr]at q2 i2;dsimp only at q2;obtain⟨b,ws,rfl,h,k⟩:=i2;cases hx:ku ds with
   |none=>rw[hx]at q2;exact q2.elim
   |some xs=>
    rw[hx]at q2;dsimp only at q2;by_cases hc:qf sep xs<=1000000
    .rw[c5 hc]at q2;cases sG k hx;exact⟨sep,b,xs,rfl,rfl,h.imp (λz=>z.1) (λ⟨o,z,_⟩=>⟨o,z⟩),hc,q2 _ M2 H2 (Ext.refl _ _) rep2 rfl⟩
    .rw[dS hc]at q2;exact q2.elim
  |_=>rw[hr]at q2;exact q2.elim
 |_=>rw[hq]at q1;exact q1.elim
def Kw:V->List V->Hp->VK->Prop:=λx vs H Q=>∃a b,x=.str a/\vs=[.str b]/\0<b.length/\a.length<=100000/\(Txt.split a b).length<=100000/\(Builtin.Str.partsBetween a (Builtin.Str.occurrences a b 0 a.length (a.length+1)) b.length).length<=100000/\∀p,H p=none->Q (.ref p) (ck H p (.lst ((Txt.split a b).map V.str)))
theorem oa:∀(l:List (Str×Tok)),Vals ((l.map (·.1)).map V.str) (strValues l)
 |[]=>.nil
 |(x,t)::l=>.cons ⟨t,rfl⟩ (oa l)
def Ei:ON X "str.split" Kw:=by
 intro ai s σ H x vs v us Q I rx rv h;obtain⟨a,b,rfl,rfl,hb,ha,hn,hp,q⟩:=h;obtain⟨t,rfl⟩:=rx;obtain⟨u,rfl,ru⟩:=rv.one;obtain⟨t',rfl⟩:=ru;have hz:100000<=sizeLine:=by decide
 have hy:(b.length==0)=false:=by grind
 have fin:∀(l:List (Str×Tok))(k:Nat),l.map (·.1)=Txt.split a b->EP X ai σ Q (.ref s.heap.objs.size) { s with heap:=s.heap.push { cls:=.type "list",data:=.seq (strValues l).toArray },toks:=k }:=λl k e=>by have hv:=oa l;rw[e]at hv;exact⟨.ref _,_,I.OF hv (by grind),rfl,q _ I.fresh⟩
 cases h1:(decide (a.length<b.length) || decide (Builtin.Str.strKind a<Builtin.Str.strKind b))
 .cases hf:(Builtin.Str.occurrences a b 0 a.length (a.length+1)).isEmpty
  .refine Ra F.slot_str_split (Ro _ _ _) F.entry_str_split (F.args_str_split_2 _ _) (meets_str_split_sep a b t t' h1 hy hf (by lia) (by lia)) ?_;show EP X ai σ Q _ { s with toks:=_,heap:=s.heap.push { cls:=.type "list",data:=.seq (strsFrom s.toks (Builtin.Str.partsBetween a (Builtin.Str.occurrences a b 0 a.length (a.length+1)) b.length)).toArray } };rw[strsFrom_eq];exact fin (numbered s.toks _) _ ((numbered_texts _ _).trans ((dS (Rg h1)).trans (dS (Rg hf))).symm)
  .exact Ra F.slot_str_split (Ro _ _ _) F.entry_str_split (F.args_str_split_2 _ _) (meets_str_split_not_found a b t t' h1 hy hf)
    (fin [(a,t)] _ ((dS (Rg h1)).trans (c5 hf)).symm)
 .exact Ra F.slot_str_split (Ro _ _ _) F.entry_str_split (F.args_str_split_2 _ _) (meets_str_split_cannot_occur a b t t' h1)
   (fin [(a,t)] _ (c5 h1).symm)
def md(a b:Str):Prop:=0<b.length/\a.length<=100000/\(Txt.split a b).length<=100000/\(Builtin.Str.partsBetween a (Builtin.Str.occurrences a b 0 a.length (a.length+1)) b.length).length<=100000
instance (a b:Str):Decidable (md a b):=by unfold md;infer_instance
def gS(a:Str)(r:R):Res R:=match r.d with
 |.str b=>if md a b then .ok (.new ((Txt.split a b).map .str) true)else .stuck
 |_=>.stuck
def oe(fa:En->Res R)(env:En)(ra:R):Res R:=match ra.d with
 |.str a=>(fa env).bind (gS a)
 |_=>.stuck
def nz(fo fa:En->Res R):En->Res R:=λenv=>(fo env).bind (oe fa env)
theorem sI:∀xs:List Str,IsAll H m (xs.map .str) (xs.map V.str)
 |[]=>rfl
 |x::xs=>⟨_,_,rfl,rfl,sI xs⟩
theorem sJ:∀xs:List Str,D.aC (xs.map .str)=true
 |[]=>rfl
 |x::xs=>by rw[b8];unfold D.aC;rw[sJ xs];rfl
def lv(ho:PD X E o fo)(ha:PD X E a fa)(hbase:autoParam (attributeBase o "split" X.env (eval o X.env)=eval o X.env) RQ)
 (hfew:autoParam (((backTo cpos (starEach [a] X.env)).all (λx=>!x.1)&&(backToKw cpos (keywordEach [] X.env)).all (λx=>x.1.isSome)&&decide (([a]:List Expr).length+([]:List Keyword).length+(if([]:List Keyword).isEmpty then 0 else 1)<30))=true) RQ)
 (hline:autoParam ((apos.endLine==cpos.line)=true) RQ) (hs:autoParam (starEach [a] X.env=(false,eval a X.env)::starEach [] X.env) RQ) (hplain:autoParam (bT X cpos []) RQ) :
 PD X E (.Call (.Attribute o "split" apos) [a] [] cpos) (nz fo fa):=by
 obtain⟨to,p0,s0⟩:=ho;obtain⟨t,p1,s1⟩:=ha;refine⟨_,rW PySem.F.plainAttrs_str PySem.F.slot_str_split PySem.F.type_str_split Ei p0 (d9 p1 gI hs) hbase hfew hline hs hplain,λg M ρ env σ H Q rep p=>?_⟩;have p:PostE X.mg E g M ρ env σ H Q ((fo env).bind (oe fa env)):=p;refine s0.gn rep p λra v M1 H1 e1 rep1 i1 q1=>?_;unfold oe at q1;cases hq:ra.d with
 |str a=>
  rw[hq]at q1 i1;dsimp only at q1;cases(show v=.str a from i1);refine⟨rfl,s1.gn rep1 q1 λrb y M2 H2 e2 rep2 i2 q2=>?_⟩;unfold gS at q2;cases hr:rb.d with
  |str b=>
   rw[hr]at q2 i2;dsimp only at q2;cases(show y=.str b from i2);by_cases hc:md a b
   .rw[c5 hc]at q2;obtain⟨c1,c2,c3,c4⟩:=hc;refine⟨a,b,rfl,rfl,c1,c2,c3,c4,λp hp=>?_⟩;have hf:D.aC ((Txt.split a b).map .str)=true:=sJ _;have q3:PostE X.mg E g M2 ρ env σ H2 Q (.ok (o_ ((Txt.split a b).map .str) true [])):=by unfold o_;rw[c5 hf];exact q2
    exact q3.lst rep2 hp (sI _)
   .rw[dS hc]at q2;exact q2.elim
  |_=>rw[hr]at q2;exact q2.elim
 |_=>rw[hq]at q1;exact q1.elim
noncomputable def PM(x:Str):It:=⟨λi _=>i<x.cps.size,λi H v H'=>H'=H/\∃c,x.cps[i]?=some c/\v=.str ⟨#[c]⟩,λi _=>x.cps.size<=i⟩
def u5{K:RC}{tg:Expr}(it:Addr)(x:Str)(ty:String)(t:Tok)(hty:["enumerate","zip","dict_itemiterator","dict_reverseitemiterator","odict_iterator","itertools.zip_longest","itertools.pairwise"].contains ty=false)
 (W:∀A':RF,A'.handled=none->Walks P w A' it [it] [it] x.cps.size (SignAt x) (λi h=>h.IsStrIter it ty x t i))
 (hself:∀(A:RF)(i:Nat)(s:RB)(Q:RE->RB->Prop)(E:RE->RB->Prop),s.heap.IsStrIter it ty x t i->Q (.ref it) s->wpAny (model P w) A (pyIter (.ref it)) Q E s):Turn P w K tg (PM x) [it] it (λi h=>i<=x.cps.size/\h.IsStrIter it ty x t i) where
 mem:=by simp
 obj:=λi h st b hb=>by
  have e:b=it:=by grind
  subst e;obtain⟨_,o,ho,hc,hd⟩:=st;exact⟨o,ho,λv z=>by grind⟩
 keep:=λi h h' st k=>⟨st.1,let ⟨o,ho,r⟩:=st.2;⟨o,k it (by simp) o ho,r⟩⟩
 item:=by intro X hP hw hK hc i ai s σ H E I hf st hg;subst hP hw hK;obtain⟨f0,f1,f2,f3,f4,f5⟩:=hf it (by simp);refine(W X.A (I.ok.hd hc)).item i s _ _ hg st.2 λv h' tk hv st' kk=>?_;obtain⟨c,u,hcu,rfl⟩:=hv;have I1:L2.Inv X ai σ H {s with heap:=h',toks:=tk}:=I.turned (λb o hb e=>kk b o (by grind) e) f0 f1 f3 f4 f5;obtain⟨o,ho,hoc,hod⟩:=st';exact⟨_,rfl,Av (s:={s with heap:=h',toks:=tk}) (n:=ty) ho hoc hod hty ⟨.str ⟨#[c]⟩,H,I1,⟨u,rfl⟩,⟨rfl,c,hcu,rfl⟩,⟨hg,o,ho,hoc,hod⟩,λb hb=>(hf b hb).1⟩⟩
 done:=by intro X hP hw hK hc i ai s σ H E I hf st hg;subst hP hw hK;obtain⟨f0,f1,f2,f3,f4,f5⟩:=hf it (by simp);have e:i=x.cps.size:=Nat.le_antisymm st.1 hg;have st2:=st.2;rw[e]at st2;exact(W X.A (I.ok.hd hc)).done s _ _ st2 λh' tk kk=>⟨rfl,I.turned (λb o hb e=>kk b o (by grind) e) f0 f1 f3 f4 f5⟩
 self:=λA i s Q E st h=>hself A i s Q E st.2 h
def Nj(tl:TE):TI:=λσ H R=>tl σ H λx H1=>∃z,x=.str z/\R (PM z) H1
def G7{tl:TE}(hl:PE X l tl):PI X tg l (Nj tl):=by
 intro ai s σ H R I h;refine dY (hl ai s σ H _ I h) λv s1 ⟨x,H1,I1,r1,z,ex,q⟩=>?_;subst ex;obtain⟨t,rfl⟩:=r1;have fp:∀b∈[s1.heap.objs.size],kM X ai H1 b:=λb hb=>by
  have e:b=s1.heap.objs.size:=by grind
  subst e;exact I1.uA (cC _) (I1.bC.fresh (cC _))
 cases ha:z.cps.all (·< 128)
 .refine wpAny_pyIter_wide ha ?_;exact⟨s1.heap.objs.size,[s1.heap.objs.size],_,_,H1,rfl,I1.kept (t':=s1.toks) λb o e=>cA _ e,u5 s1.heap.objs.size z "str_iterator" t (by decide) (λA' hA=>Walks.strWide hA _ z t) (λ_ _ _ _ _ st h=>wpAny_pyIter_striter_wide st h),⟨lY _,_,dO _ rfl,rfl,rfl⟩,fp,q⟩
 .refine wpAny_pyIter_ascii ha ?_;exact⟨s1.heap.objs.size,[s1.heap.objs.size],_,_,H1,rfl,I1.kept (t':=s1.toks) λb o e=>cA _ e,u5 s1.heap.objs.size z "str_ascii_iterator" t (by decide) (λA' hA=>Walks.strAscii hA _ z t) (λ_ _ _ _ _ st h=>wpAny_pyIter_striter_ascii st h),⟨lY _,_,dO _ rfl,rfl,rfl⟩,fp,q⟩
noncomputable def lw(z:Str):List D:=z.cps.toList.map λc=>.str ⟨#[c]⟩
def AX(r:R):Res Src:=match r.d with
 |.str z=>.ok ⟨lw z,true,[]⟩
 |_=>.stuck
def AY(f:En->Res R):En->Res Src:=λenv=>(f env).bind AX
def Cq(z:Str):Walk (PM z) m H (lw z):=by
 refine⟨λH' i d k e=>?_,λH' k=>by show z.cps.size<=(lw z).length;unfold lw;simp⟩;unfold lw at e;rw[iX]at e;obtain⟨c,hc,rfl⟩:=jM.mp e;have hi:=(cD.mp hc).1;refine⟨by show i<z.cps.size;simpa using hi,λx H'' y=>?_⟩;obtain⟨rfl,c',hc',rfl⟩:=y;have:c'=c:=by rw[Array.getElem?_toList]at hc;rw[hc]at hc';exact(ia hc').symm
 rw[this];exact⟨Same.refl _,rfl⟩
def x9(hl:PD X E l f):GR X E tg l (AY f):=by
 obtain⟨t,p1,s1⟩:=hl;refine⟨_,G7 p1,λg M ρ env σ H Rq rep p=>s1.one rep (P:=λM H r=>PostI X.mg E g M ρ env σ H Rq r) p (λ_ _ z=>z) (λ_ _ _ z=>z) (λ_ _ _ _ _ e p=>p.ext e) λr v M1 H1 e1 rep1 i1 q=>?_⟩;unfold AX at q;cases z:r.d with
 |str x=>rw[z]at i1 q;cases(show v=.str x from i1);exact⟨x,rfl,q _ M1 H1 (Ext.refl _ _) rep1 (Cq x)⟩
 |_=>rw[z]at q;exact q.elim
def x_:List R->Res R
 |[r]=>match r.d with
  |.str x=>(match PySem.intText? x with
   |some n=>if x.length<=100 then .ok (.val (.int n) true [])else .stuck
   |none=>.stuck)
  |_=>.stuck
 |_=>.stuck
def Cr:CallR X (.type "int") (λxs H Q=>∃x n,xs=[.str x]/\PySem.intText? x=some n/\x.length<=100/\Q (.int n) H):=by intro ai s σ H xs us Q I r h;obtain⟨x,n,rfl,hn,hl,q⟩:=h;obtain⟨u,rfl,t,rfl⟩:=i4 r;exact PySem.W.KIN.call_text hn (by lia) ⟨.int n,H,I.tok _,⟨_,rfl⟩,q⟩
def G8:jp X E (.type "int") x_:=by
 refine⟨_,Cr,λg M ρ env σ H Q rs vs rep i p=>?_⟩;rcases rs with _|⟨r,_|_⟩
 .exact p.elim
 rotate_left
 .exact p.elim
 obtain⟨v,w,rfl,i1,i2⟩:=i;cases i2;have i1:Is H (vmsk g M (bz [r]) ρ (bR [r])) r.d v:=i1;unfold x_ at p;dsimp only at p;cases z:r.d with
 |str x=>
  rw[z]at p i1;dsimp only at p;cases(show v=.str x from i1);cases hn:PySem.intText? x with
  |none=>rw[hn]at p;exact p.elim
  |some n=>
   rw[hn]at p;dsimp only at p;by_cases hc:x.length<=100
   .rw[c5 hc]at p;exact⟨x,n,rfl,hn,hc,p _ M H (Ext.refl _ _) rep rfl⟩
   .rw[dS hc]at p;exact p.elim
 |_=>rw[z]at p;exact p.elim
end
mutual
noncomputable def KtIs(K:RC):D->V->Prop
 |.str x,v=>v=.str x
 |.tup ds,v=>∃a vs,v=.ref a/\(∃p∈K,xm p.2=some (a,vs))/\KtAll K ds vs
 |_,_=>False
noncomputable def KtAll(K:RC):List D->List V->Prop
 |[],vs=>vs=[]
 |d::ds,vs=>∃v r,vs=v::r/\KtIs K d v/\KtAll K ds r
end
section
variable{K:RC}{H:Hp}{m:Addr->Prop}
mutual
theorem KtIs.is(kt:Mc K H):∀{d:D}{v:V},KtIs K d v->Is H m d v
 |.str _,_,h=>h
 |.tup ds,_,h=>by obtain⟨a,vs,e,⟨p,hp,hk⟩,r⟩:=h;exact⟨a,vs,e,kt p hp a vs hk,KtAll.is kt r⟩
 |.ig,_,h=>h.elim
 |.bl _,_,h=>h.elim
 |.int _,_,h=>h.elim
 |.lst _,_,h=>h.elim
 |.lS _ _,_,h=>h.elim
theorem KtAll.is(kt:Mc K H):∀{ds:List D}{vs:List V},KtAll K ds vs->IsAll H m ds vs
 |[],_,h=>h
 |d::ds,_,h=>by obtain⟨v,r,e,h1,h2⟩:=h;exact⟨v,r,e,KtIs.is kt h1,KtAll.is kt h2⟩
end
end
section
variable{X:Cx}{E:XK}
def IK(hg:Gl X x)(h:∃a,X.mg x=some (.ref a)/\KtIs X.K d (.ref a))(hd:autoParam (dB x) RN):PD X E (.Name x np) (vC d):=by obtain⟨a,hm,hk⟩:=h;refine⟨λσ H Q=>Mc X.K H->Q (.ref a) H,λai s σ H Q I h=>vN (v:=.ref a) hg hm rfl hd ai s σ H Q I (h I.kt),λg M ρ env σ H Q rep p kt=>?_⟩;exact p _ M H (Ext.refl M H) rep (hk.is kt)
def Ej(kvs:List (Str×Int))(r:R):Res R:=match r.d with
 |.str k=>.ok (.val (.bl (jv kvs k).isSome) true [])
 |_=>.stuck
def Ek(kvs:List (Str×Int))(f:En->Res R):En->Res R:=λenv=>(f env).bind (Ej kvs)
theorem AZ:∀{es:List DictEntry}{kvs:List (Str×Int)},zw w es kvs->(valueAt (mU es kvs) (.inr k:b5)).isSome=(jv kvs k).isSome
 |[],[],_=>rfl
 |e::es,p::ps,h=>by
  unfold jv mU valueAt;by_cases c:p.1=k
  .rw[ii,ii,gh c,gh (by rw[c])];rfl
  .rw[ii,ii,fm c,fm (λz=>c (tT z))];exact AZ h.2
 |[],_::_,h=>h.elim
 |_::_,[],h=>h.elim
def El(tb:xZ X.w X.K a kvs)(hs:(a==sysModules)=false):OpR X (compareOp .In) (λx y H Q=>∃k,x=.str k/\y=.ref a/\Q (.bl (jv kvs k).isSome) H):=by
 intro ai s σ H x y v u Q I rx ry h;obtain⟨k,rfl,rfl,q⟩:=h;cases ry;obtain⟨es,ep,lk,te,nd⟩:=tb;have dd:s.heap.DictOf (bd X.prog X.w) a (mU es.toList kvs):=⟨_,es,ep,I.vK _ _ lk,⟨rfl,rfl,rfl⟩,rfl,λe he=>sF te e (by simpa using he),pB te,by
  rw[wf te];have:((kvs.map (·.1)).map λn=>(.inr n:b5)).Nodup:=by rw[List.Nodup,o9];exact nd.imp λ{a b} h e=>h (tT e)
  rw[dQ]at this;exact this⟩
 refine wpAny_in_of (nW (k:=.inr k) rx) hs dd.mapOf ?_;rw[AZ te];exact⟨.bl _,H,I.tok _,rfl,q⟩
def Em(hg:Gl X x)(tb:∃a,X.mg x=some (.ref a)/\xZ X.w X.K a kvs)(ns:∀a,X.mg x=some (.ref a)->(a==sysModules)=false)(hi:PD X E i f)(hd:autoParam (dB x) RN)(hb:autoParam (behindInMarks .In (.Name x np)=false) RQ) :
 PD X E (.Compare i [.In] [.Name x np] pos) (Ek kvs f):=by
 obtain⟨a,hm,ta⟩:=tb;obtain⟨t,p1,s1⟩:=hi;refine⟨_,Aw (El ta (ns a hm)) p1 (vN (v:=.ref a) hg hm rfl hd) hb,λg M ρ env σ H Q rep p=>s1.gn rep p λr v M1 H1 e1 rep1 i1 q1=>?_⟩;unfold Ej at q1;cases hq:r.d with
 |str k=>rw[hq]at q1 i1;exact⟨k,i1,rfl,q1 _ M1 H1 (Ext.refl _ _) rep1 rfl⟩
 |_=>rw[hq]at q1;exact q1.elim
noncomputable def Nk(scope:Scope)(tN:List Str):Bool:=(scope.kind==.function)&&scope.names.all (λy=>y.2 != .cell&&y.2 != .free)&&scope.names.all (λy=>y.2 != .local || scope.names.lookup y.1==some .local)&&tN.all (λx=>scope.names.lookup x==some .local)&&decide tN.Nodup
def bq.nil(h:Nk scope tN=true):bq X scope tN [] []:=by unfold Nk at h;simp only[fq,g6,nR,tW,bne_iff_ne,gq,ne_eq]at h;obtain⟨⟨⟨⟨a1,a2⟩,a3⟩,a4⟩,a5⟩:=h;exact⟨a1,λy hy=>(a2 y hy).1,λy hy hl=>(a3 y hy).resolve_left λz=>z hl,a4,λy hy hf=>((a2 y hy).2 hf).elim,⟨λk y e=>by simp at e,λy hy=>by simp at hy,λy hy=>by simp at hy,rfl⟩,by simpa using a5⟩
def rH(r:R):Res R:=match r.d with
 |.lst ds=>(match ku ds with
  |some xs=>if xs.length<=1000 then .ok (.val (.int ((pr xs).length:Nat)) true [])else .stuck
  |none=>.stuck)
 |_=>.stuck
def wo(f:En->Res R):En->Res R:=λenv=>(f env).bind rH
def Cs(hc:X.calm=true)(h:PD X E e f)
 (hg1:Gl X x1) (hm1:X.mg x1=none) (hv1:bootBuiltins x1=some (.builtin "len")) (hg2:Gl X x2) (hm2:X.mg x2=none) (hv2:bootBuiltins x2=some (.type "set"))
 (hn1:autoParam (x1≠"__name__") RN) (hdb1:autoParam (dB x1) RN) (hn2:autoParam (x2≠"__name__") RN) (hdb2:autoParam (dB x2) RN)
 (he2:autoParam (starEach [e] X.env=(false,eval e X.env)::starEach [] X.env) RQ) (hpl2:autoParam (bT X pos2 []) RQ)
 (he1:autoParam (starEach [.Call (.Name x2 p2) [e] [] pos2] X.env=(false,eval (.Call (.Name x2 p2) [e] [] pos2) X.env)::starEach [] X.env) RQ) (hpl1:autoParam (bT X pos1 []) RQ) :
 PD X E (.Call (.Name x1 p1) [.Call (.Name x2 p2) [e] [] pos2] [] pos1) (wo f):=by
 obtain⟨t,p1,s1⟩:=h;refine⟨_,rT zj hg1 hm1 hv1 (d9 (uH (zi hc) hg2 hm2 hv2 (d9 p1 gI he2) hn2 hdb2 he2 hpl2) gI he1) hn1 hdb1 he1 hpl1,λg M ρ env σ H Q rep p=>?_⟩;refine s1.gn rep p λr v M1 H1 e1 rep1 i1 q1=>?_;unfold rH at q1;cases qd:r.d with
 |lst ds=>
  rw[qd]at q1 i1;dsimp only at q1;cases qt:ku ds with
  |none=>rw[qt]at q1;exact q1.elim
  |some xs=>
   rw[qt]at q1;dsimp only at q1;by_cases hz:xs.length<=1000
   .rw[c5 hz]at q1;obtain⟨a,vs,rfl,h1,h2⟩:=i1;cases sG h2 qt;refine⟨a,xs,rfl,h1.imp (·.1) (λ⟨o,z,_⟩=>⟨o,z⟩),hz,λb hb=>⟨b,xs,rfl,aY,hz,?_⟩⟩;have sm:Same H1 (ck H1 b (.ext λh=>Dp X.prog X.w h b xs)):=ca hb;exact q1 _ M1 _ ⟨λ_ z=>z,sm,λ_ z=>.inl z⟩ (rep1.grow sm) rfl
   .rw[dS hz]at q1;exact q1.elim
 |_=>rw[qd]at q1;exact q1.elim
noncomputable def Eo(env:En)(_:R):Res Fl:=.ok (.nx env)
def Ep(f:En->Res R):En->Res Fl:=λenv=>(f env).bind (Eo env)
def Er(h:PD X E e f)(hs:autoParam (swapsWith e none pos.line X.env=pure false) RQ):yW X E (.Expr e pos) (Ep f):=by obtain⟨t,p1,s1⟩:=h;refine⟨_,nV p1 hs,λg M ρ env σ H D rep p=>s1.rB rep p λr v M' H' e rep' ro p'=>?_⟩;exact p' σ M' ρ H' (Ext.refl _ _).cQ rep'
end
open Classical in
section
open Classical in
end
noncomputable abbrev IP:=Int×Int
noncomputable def dp(l:List IP)(x:IP):List IP:=if x∈l then l else l++[x]
def h1(ts:List QB):List IP:=(ts.map λt=>(t.1,t.2.1)).foldl dp []
end L3
namespace L3
open PySem PySem.Spec PyProof.Rows L2
def aZ{K KK:RC}{mg:Str->Option RE}{x:Str}{st:Stmt}{ps:List Str}{f:Addr}{oc:RE}{od an:Option Addr}{osl:Array (Option RE)}{kV doc pm cdv ct:RE}(U:nQ K KK)
 (l:K.lookup f=some ⟨oc,od,.func (fnOf x x (aK st) (aI st) (am st) .none kV doc pm an cdv ct),osl⟩) (c:codeIn K cdv x=true) (g:mg x=some (.ref f))
 (h:∀(kV doc pm:RE)(an:Option Addr)(cdv ct:RE)(us:List RE),us.length=ps.length->bindArgs (fnOf x x (aK st) (aI st) (am st) .none kV doc pm an cdv ct) ⟨us,[]⟩=pure (ps.zip us)) :
 Fn KK mg x st ps f (fnOf x x (aK st) (aI st) (am st) .none kV doc pm an cdv ct):=
 have F:Mk KK x x st f _:=J2 (U.look _ _ l (λ_ _ z=>nomatch z)) (U.code c) (U.keep l)
 ⟨F,F.binds h,g⟩
section
def ar{st:Stmt}(G:bE X.prog X.w X.K X.mg X.base CX k f fd ps (iZ X.mg ps.length F))(hr:kh k X.A)(hg:Gl X x)(h:Fn X.K X.mg x st ps f fd)(hx:ph CX X E)
 (ha:AJ X E (e::es) fs) (hl:∀env rs,fs env=.ok rs->rs.length=ps.length) (hdb:autoParam (dB x) RN) (he:autoParam (sE X e es) RQ) (hpl:autoParam (bT X pos es) RQ) :
 PD X E (.Call (.Name x p) (e::es) [] pos) (aN F fs):=GL G hr hg h.gl h.fu.kp h.bi hx ha hl hdb he hpl
end
end L3
namespace L3
open PySem L2
section
variable{env bp:En}{i j:Nat}{d:D}{ds es:List D}{f g:Bool}{al bl:List Nat}{x y:Int}
noncomputable def kS(k:En->Res Fl):Fl->Res Fl
 |.nx bp=>k bp
 |r=>.ok r
def ya(f k:En->Res Fl)(env:En):aG f k env=(f env).bind (kS k):=by rfl
def PN(k:En->Res Fl)(e:En):kS k (.nx e)=k e:=(rfl)
def PP(k:En->Res Fl)(r:R):kS k (.rt r)=.ok (.rt r):=(rfl)
noncomputable def PQ(a b:En->Res Fl)(env:En)(k:Bool):Res Fl:=if k then a env else b env
def Es(c:En->Res Bool)(a b:En->Res Fl)(env:En):eJ c a b env=(c env).bind (PQ a b env):=(rfl)
def Nl(a b:En->Res Fl)(env:En):PQ a b env true=a env:=(rfl)
def Nn(a b:En->Res Fl)(env:En):PQ a b env false=b env:=(rfl)
def Np(env:En):bu env=.ok (.nx env):=(rfl)
def Nq(r:R):Res Fl:=.ok (.rt r)
def Nr(a:En->Res R)(env:En):aX a env=(a env).bind Nq:=(rfl)
def Kx(r:R):Nq r=.ok (.rt r):=(rfl)
def Nt(i:Nat)(env:En)(r:R):Res Fl:=if i<env.length then .ok (.nx (put env i r))else .stuck
def Nu(i:Nat)(a:En->Res R)(env:En):bS i a env=(a env).bind (Nt i env):=(rfl)
def Ky(r:R)(h:i<env.length):Nt i env r=.ok (.nx (put env i r)):=c5 h
def Kz:put env i (.val d f [])=env.set i (some (.val d f)):=(rfl)
def KA:put env i (.new ds f)=env.set i (some (.own ds f)):=(rfl)
def Nv(i:Nat):Option (Option Sl)->Res R
 |some (some (.val d fr))=>.ok (lg d fr [])
 |some (some (.own ds fr))=>.ok (.val (.lst ds) fr [i])
 |some (some (.vL d))=>.ok (.val d true [i])
 |some (some (.pin d))=>.ok (.val d true [i])
 |some (some (.kJ d))=>.ok (.val d true [i])
 |some (some (.fix _ (.tr d)))=>.ok (.val d true [i])
 |some (some (.fix _ (.ds d)))=>.ok (.val d true [i])
 |_=>.stuck
def Nw(i:Nat)(env:En):aj i env=Nv i env[i]?:=by unfold aj Nv;rfl
def Nx:Nv i (some (some (.val d f)))=.ok (lg d f []):=(rfl)
def Ny:Nv i (some (some (.own ds f)))=.ok (.val (.lst ds) f [i]):=(rfl)
def G9:Nv i (some (some (.kJ d)))=.ok (.val d true [i]):=(rfl)
def QY(d:D)(env:En):vC d env=.ok (.val d true []):=(rfl)
def zA(h:d.flat=true):lg d f al=.val d true []:=by unfold lg;rw[c5 h]
def KB(h:d.flat=false):lg d f al=.val d f al:=by unfold lg;rw[dS (by rw[h];simp)]
def bJ(h:D.aC ds=true):o_ ds f al=.new ds true:=by unfold o_;rw[c5 h]
def cf:o_ ds true []=.new ds true:=by unfold o_;split<;>rfl
def QC(op:R->R->Res R)(fb:En->Res R)(env:En)(ra:R):Res R:=(fb env).bind (op ra)
def PR(op:R->R->Res R)(fa fb:En->Res R)(env:En):v2 op fa fb env=(fa env).bind (QC op fb env):=(rfl)
def Nz(op:R->R->Res R)(fb:En->Res R)(env:En)(ra:R):QC op fb env ra=(fb env).bind (op ra):=(rfl)
def NA:bn (.val (.int x) f al) (.val (.int y) g bl)=.ok (.val (.int (x+y)) true []):=(rfl)
def NB:xI (.val (.int x) f al) (.val (.int y) g bl)=.ok (.val (.int (x-y)) true []):=(rfl)
def KC(h1:-18446744073709551616<y)(h2:y<18446744073709551616):so (.val (.int x) f al) (.val (.int y) g bl)=.ok (.val (.int (x*y)) true []):=by
 have:DE x y=true:=by unfold DE;rw[nR,fq,fq];exact .inr ⟨gh (by lia),gh (by lia)⟩
 show(if DE x y=true then _ else _)=_;rw[c5 this]
def NC(h:0<y):ub (.val (.int x) f al) (.val (.int y) g bl)=.ok (.val (.int (x%y)) true []):=by show(if decide (0<y)=true then _ else _)=_;rw[c5 (gh h)]
def ND(h:0<y)(h2:y<1073741824):GK (.val (.int x) f al) (.val (.int y) g bl)=.ok (.val (.int (x/y)) true []):=by show(if(decide (0<y)&&decide (y<1073741824))=true then _ else _)=_;rw[c5 (by rw[gh h,gh h2];rfl)]
def PU:MV (.val (.int x) f al) (.val (.int y) g bl)=.ok (.val (.bl (decide (x<y))) true []):=(rfl)
def KD:C1 (.val (.int x) f al) (.val (.int y) g bl)=.ok (.val (.bl (decide (x<=y))) true []):=(rfl)
def PV:Pw (.val (.int x) f al) (.val (.int y) g bl)=.ok (.val (.bl (decide (y<x))) true []):=(rfl)
def PX:DG (.val (.int x) f al) (.val (.int y) g bl)=.ok (.val (.bl (decide (y<=x))) true []):=(rfl)
def cJ(h:a.d.dep<=50)(h2:b.d.dep<=50):gu a b=.ok (.val (.bl (b6 a.d b.d)) true []):=by unfold gu;rw[c5 ⟨h,h2⟩]
def zB(h:a.d.dep<=50)(h2:b.d.dep<=50):DI a b=.ok (.val (.bl (!b6 a.d b.d)) true []):=by unfold DI;rw[c5 ⟨h,h2⟩]
def il:b6 (.int x) (.int y)=(x==y):=(rfl)
def G_(xs ys:List D)(f:Bool)(al:List Nat):Res R:=if xs.length+ys.length<=lim then .ok (o_ (xs++ys) f al)else .stuck
def Hb:bn (.val (.lst ds) f al) (.new es g)=G_ ds es (f&&g) (al++[]):=(rfl)
def Hc:bn (.new ds f) (.val (.lst es) g bl)=G_ ds es (f&&g) ([]++bl):=(rfl)
def Hd:bn (.new ds f) (.new es g)=G_ ds es (f&&g) []:=(rfl)
def sK(h:ds.length+es.length<=1000000):G_ ds es f al=.ok (o_ (ds++es) f al):=c5 h
def IL(fs:En->Res (List R))(env:En)(r:R):Res (List R):=(fs env).bind (λrs=>.ok (r::rs))
def Et(r:R)(rs:List R):Res (List R):=.ok (r::rs)
def KF(env:En):ao env=.ok []:=(rfl)
def He(a:En->Res R)(fs:En->Res (List R))(env:En):ac a fs env=(a env).bind (IL fs env):=(rfl)
def Hf(fs:En->Res (List R))(env:En)(r:R):IL fs env r=(fs env).bind (Et r):=(rfl)
def Eu(r:R)(rs:List R):Et r rs=.ok (r::rs):=(rfl)
def NE(rs:List R):Res R:=if rs.length<=lim then .ok (lg (.tup (rs.map R.d)) (bz rs) (bR rs))else .stuck
def NF(fs:En->Res (List R))(env:En):bg fs env=(fs env).bind NE:=(rfl)
def KG(rs:List R)(h:rs.length<=1000000):NE rs=.ok (lg (.tup (rs.map R.d)) (bz rs) (bR rs)):=c5 h
def NG(rs:List R):Res R:=if rs.length<=lim then .ok (o_ (rs.map R.d) (bz rs) (bR rs))else .stuck
def NH(fs:En->Res (List R))(env:En):cH fs env=(fs env).bind NG:=(rfl)
def KH(rs:List R)(h:rs.length<=1000000):NG rs=.ok (o_ (rs.map R.d) (bz rs) (bR rs)):=c5 h
def Ew:bz []=true:=(rfl)
def u6(r:R)(rs:List R):bz (r::rs)=(r.fr&&bz rs):=(rfl)
def Ex:bR []=[]:=(rfl)
def Ct(r:R)(rs:List R):bR (r::rs)=r.al++bR rs:=(rfl)
def IM(F:List D->Res R)(rs:List R):Res R:=(F (rs.map R.d)).bind (λr=>.ok (fA rs r))
def Ey(rs:List R)(r:R):Res R:=.ok (fA rs r)
def KI(F:List D->Res R)(fs:En->Res (List R))(env:En):aN F fs env=(fs env).bind (IM F):=(rfl)
def Hg(F:List D->Res R)(rs:List R):IM F rs=(F (rs.map R.d)).bind (Ey rs):=(rfl)
def Ez(rs:List R)(r:R):Ey rs r=.ok (fA rs r):=(rfl)
def EA(rs:List R)(h:d.flat=true):fA rs (.val d f al)=.val d true []:=c5 h
def EB(rs:List R)(h:d.flat=false):fA rs (.val d true al)=.mG d:=by show F5 d true rs=_;unfold F5;rw[dS (by rw[h];simp),c5 rfl]
def yb(rs:List R)(h:d.flat=false):fA rs (.val d false al)=.val d (bz rs) (bR rs):=by show F5 d false rs=_;unfold F5;rw[dS (by rw[h];simp),dS (by simp)]
def yc(rs:List R)(h:D.aC ds=true):fA rs (.new ds f)=.new ds true:=by show(if D.aC ds=true then _ else _)=_;rw[c5 h]
def u7(rs:List R)(h:D.aC ds=false):fA rs (.new ds true)=.mG (.lst ds):=by show(if D.aC ds=true then _ else _)=_;rw[dS (by rw[h];simp),c5 rfl]
def PY(k:List R->Res R)(fs:En->Res (List R))(env:En):gR k fs env=(fs env).bind k:=(rfl)
def EC:D->Res R
 |.lst ds=>.ok (.val (.int ds.length) true [])
 |.tup ds=>.ok (.val (.int ds.length) true [])
 |.str z=>if z.length<=lim then .ok (.val (.int z.length) true [])else .stuck
 |_=>.stuck
def NI(r:R):db [r]=EC r.d:=by unfold db EC;rfl
def KJ:EC (.lst ds)=.ok (.val (.int ds.length) true []):=(rfl)
def KL:EC (.tup ds)=.ok (.val (.int ds.length) true []):=(rfl)
def ED(f:Bool)(al:List Nat):D->Res R
 |.lst ds=>.ok (o_ ds f al)
 |.tup ds=>.ok (o_ ds f al)
 |_=>.stuck
def KM(r:R):xK [r]=ED r.fr r.al r.d:=by unfold xK ED;rfl
def Hh:ED f al (.tup ds)=.ok (o_ ds f al):=(rfl)
def kB(ra:R):Res Bool:=match ra.d with
 |.bl b=>.ok b
 |_=>.stuck
def PZ(a:En->Res R)(env:En):vB a env=(a env).bind kB:=(rfl)
def P0(b:Bool):kB (.val (.bl b) f al)=.ok b:=(rfl)
def NJ(ra:R):Res Bool:=IE ra.d
def KN(a:En->Res R)(env:En):kQ a env=(a env).bind NJ:=(rfl)
def KO(b:Bool):NJ (.val (.bl b) f al)=.ok b:=(rfl)
noncomputable def IN(b:Bool):Res Bool:=.ok (!b)
def KP(a:En->Res Bool)(env:En):mI a env=(a env).bind IN:=(rfl)
def Hi(b:Bool):IN b=.ok (!b):=(rfl)
noncomputable def EE(b:En->Res Bool)(env:En)(k:Bool):Res Bool:=if k then b env else .ok false
noncomputable def KQ(b:En->Res Bool)(env:En)(k:Bool):Res Bool:=if k then .ok true else b env
def KR(a b:En->Res Bool)(env:En):su a b env=(a env).bind (EE b env):=(rfl)
def NK(a b:En->Res Bool)(env:En):xJ a b env=(a env).bind (KQ b env):=(rfl)
def KS(b:En->Res Bool)(env:En):EE b env true=b env:=(rfl)
def KU(b:En->Res Bool)(env:En):EE b env false=.ok false:=(rfl)
def NL(b:En->Res Bool)(env:En):KQ b env true=.ok true:=(rfl)
def NM(b:En->Res Bool)(env:En):KQ b env false=b env:=(rfl)
def EF(b:En->Res R)(env:En)(ra:R):Res R:=match ra.d with
 |.bl true=>b env
 |.bl false=>.ok (.val (.bl false) true [])
 |_=>.stuck
def KW(a b:En->Res R)(env:En):BZ a b env=(a env).bind (EF b env):=(rfl)
def Hj(b:En->Res R)(env:En):EF b env (.val (.bl true) f al)=b env:=(rfl)
def Hk(b:En->Res R)(env:En):EF b env (.val (.bl false) f al)=.ok (.val (.bl false) true []):=(rfl)
def IQ(ra:R):Res R:=match ra.d with
 |.bl b=>.ok (.val (.bl (!b)) true [])
 |_=>.stuck
def KY(a:En->Res R)(env:En):J9 a env=(a env).bind IQ:=(rfl)
def KZ(b:Bool):IQ (.val (.bl b) f al)=.ok (.val (.bl (!b)) true []):=(rfl)
def F6(f:Bool)(al:List Nat):Option D->Res R
 |some d=>.ok (lg d f al)
 |none=>.stuck
def pE(a b:D)(f:Bool)(al:List Nat):Res R:=match a,b with
 |.lst xs,.int i=>F6 f al (b0 xs i)
 |.tup xs,.int i=>F6 f al (b0 xs i)
 |.str z,.int i=>if z.length<=lim then(match b0 z.cps.toList i with
  |some c=>.ok (.val (.str ⟨#[c]⟩) true [])
  |none=>.stuck)else .stuck
 |_,_=>.stuck
def Cu(a b:R):uc a b=pE a.d b.d a.fr a.al:=by unfold uc pE F6;rfl
def NN:pE (.lst ds) (.int k) f al=F6 f al (b0 ds k):=(rfl)
def NO:pE (.tup ds) (.int k) f al=F6 f al (b0 ds k):=(rfl)
def NP:F6 f al (some d)=.ok (lg d f al):=(rfl)
def Hl(ds:List D)(fr:Bool)(rb:R):Res R:=match rb.d with
 |.int k=>match b0 ds k with
  |some d=>.ok (lg d fr [])
  |none=>.stuck
 |_=>.stuck
def EG(i:Nat)(fb:En->Res R)(env:En):Option (Option Sl)->Res R
 |some (some (.own ds fr))=>(fb env).bind (Hl ds fr)
 |_=>v2 uc (aj i) fb env
def NQ(i:Nat)(fb:En->Res R)(env:En):aE i fb env=EG i fb env env[i]?:=by unfold aE EG;rfl
def K1(fb:En->Res R):EG i fb env (some (some (.own ds f)))=(fb env).bind (Hl ds f):=(rfl)
def K3(fb:En->Res R):EG i fb env (some (some (.val d f)))=v2 uc (aj i) fb env:=(rfl)
def K4:Hl ds f (.val (.int k) g al)=F6 f [] (b0 ds k):=by unfold Hl F6;rfl
def Qx{α:Type}(a:α)(l:List α):b0 (a::l) 0=some a:=by unfold b0 t8;rw[c5 (by lia),c5 (by simp)];rfl
def QZ{α:Type}(a b:α)(l:List α):b0 (a::b::l) 1=some b:=by unfold b0 t8;rw[c5 (by lia),c5 (by simp;lia)];rfl
def Q0{α:Type}(a b c:α)(l:List α):b0 (a::b::c::l) 2=some c:=by unfold b0 t8;rw[c5 (by lia),c5 (by simp;lia)];rfl
def Q1{α:Type}(a b c d:α)(l:List α):b0 (a::b::c::d::l) 3=some d:=by unfold b0 t8;rw[c5 (by lia),c5 (by simp;lia)];rfl
def Q2{α:Type}{l:List α}{n:Nat}{a:α}(h:l[n]?=some a):b0 l (n:Int)=some a:=by have hn:=(cD.mp h).1;unfold b0 t8;rw[c5 (by lia),c5 (by lia)];exact h
def kO(r:R):Res (Option Int):=match r.d with
 |.int i=>.ok (some i)
 |_=>.stuck
def Hm(env:En):gL env=.ok none:=(rfl)
def Ho(a:En->Res R)(env:En):fX a env=(a env).bind kO:=(rfl)
def P1:kO (.val (.int x) f al)=.ok (some x):=(rfl)
def NR(T:String)(r:R):Res R:=.ok (.val (.bl (GV T r.d)) true [])
def NS(T:String)(a:En->Res R)(env:En):v_ T a env=(a env).bind (NR T):=(rfl)
def K5(T:String)(r:R):NR T r=.ok (.val (.bl (GV T r.d)) true []):=(rfl)
def K6:GV "int" (.int x)=true:=(rfl)
def K7:GV "bool" (.int x)=false:=(rfl)
def K8:GV "list" (.lst ds)=true:=(rfl)
def K9:GV "tuple" (.tup ds)=true:=(rfl)
def NT(asg:D->Bool->En->Option En)(body:En->Res Fl)(env:En)(s:Src):Res Fl:=cI asg s.fr body s.xs (cQ env s.al)
def NU(src:En->Res Src)(asg:D->Bool->En->Option En)(body:En->Res Fl)(env:En):jg src asg body env=(src env).bind (NT asg body env):=(rfl)
def K_(asg:D->Bool->En->Option En)(body:En->Res Fl)(env:En)(xs:List D):NT asg body env ⟨xs,f,al⟩=cI asg f body xs (cQ env al):=(rfl)
def Hq(r:R):Res Src:=match r.d with
 |.lst ds=>.ok ⟨ds,r.fr,r.al⟩
 |.tup ds=>.ok ⟨ds,r.fr,r.al⟩
 |_=>.stuck
def zC(a:En->Res R)(env:En):fB a env=(a env).bind Hq:=(rfl)
def EH:Hq (.val (.lst ds) f al)=.ok ⟨ds,f,al⟩:=(rfl)
def EI:Hq (.val (.tup ds) f al)=.ok ⟨ds,f,al⟩:=(rfl)
def Hr:Hq (.new ds f)=.ok ⟨ds,f,[]⟩:=(rfl)
def QD(rs:List R):Res Src:=match rs.map R.d with
 |[.int j]=>if cR j then .ok ⟨i8 0 j.toNat,true,[]⟩else .stuck
 |_=>.stuck
def NV(fs:En->Res (List R))(env:En):IH fs env=(fs env).bind QD:=(rfl)
def NW(h1:-4611686018427387904<=x)(h2:x<4611686018427387904):cR x=true:=by unfold cR;rw[fq];exact⟨gh (by lia),gh (by lia)⟩
def u9(h1:-4611686018427387904<=x)(h2:x<4611686018427387904):QD [.val (.int x) f al]=.ok ⟨i8 0 x.toNat,true,[]⟩:=c5 (NW h1 h2)
def IR(rs:List R):Res Src:=match rs with
 |[r]=>match r.d with
  |.lst ds=>.ok ⟨fC 0 ds,r.fr,r.al⟩
  |_=>.stuck
 |_=>.stuck
def Hs(fs:En->Res (List R))(env:En):uW fs env=(fs env).bind IR:=(rfl)
def EJ:IR [.val (.lst ds) f al]=.ok ⟨fC 0 ds,f,al⟩:=(rfl)
def zD:cQ env []=env:=(rfl)
def La(h:i<env.length):gN i d f env=some (env.set i (some (.val d f))):=c5 h
def A0(n:Nat)(caps:List Nat)(asg:D->Bool->En->Option En)(test:En->Res Bool)(elt:En->Res R)(env:En)(s:Src):Res R:=if s.xs.length<=lim then
 (ij (λd=>asg d s.fr (dv env n caps)) test elt s.xs).QK.bind λrs=>.ok (o_ (rs.map R.d) (bz rs) (s.al++caps.filter (i6 env)))else .stuck
def wq(n:Nat)(caps:List Nat)(src:En->Res Src)(asg:D->Bool->En->Option En)(test:En->Res Bool)(elt:En->Res R)(env:En) :
 cm n caps src asg test elt env=(src env).bind (A0 n caps asg test elt env):=(rfl)
def bI(hl:xs.length<=1000000)
 (h:ij (λd=>asg d f (dv env n caps)) test elt xs=.ok rs):A0 n caps asg test elt env ⟨xs,f,al⟩=.ok (o_ (rs.map R.d) (bz rs) (al++caps.filter (i6 env))):=by
 unfold A0;dsimp only;rw[c5 (show xs.length<=lim from hl),h];rfl
theorem bb{α:Type}{mk:D->Option En}{test:En->Res Bool}{elt:En->Res R}(g:α->D)(k:α->R):∀(xs:List α),(∀a∈xs,∃e,mk (g a)=some e/\test e=.ok true/\elt e=.ok (k a))->ij mk test elt (xs.map g)=.ok (xs.map k)
 |[],_=>rfl
 |a::r,h=>by obtain⟨e,h1,h2,h3⟩:=h a (by simp);rw[b8,b8];unfold ij;rw[h1];dsimp only;rw[h2];dsimp only[Res.bind];rw[c5 rfl,h3,bb g k r λb hb=>h b (by simp[hb])]
theorem og{α:Type}{mk:D->Option En}{test:En->Res Bool}{elt:En->Res R}(g:α->D)(p:α->Bool)(k:α->R):∀(xs:List α),(∀a∈xs,∃e,mk (g a)=some e/\test e=.ok (p a)/\(p a=true->elt e=.ok (k a)))->ij mk test elt (xs.map g)=.ok ((xs.filter p).map k)
 |[],_=>rfl
 |a::r,h=>by
  obtain⟨e,h1,h2,h3⟩:=h a (by simp);rw[b8];unfold ij;rw[h1];dsimp only;rw[h2];dsimp only[Res.bind];have ih:=og g p k r λb hb=>h b (by simp[hb]);cases hp:p a with
  |true=>rw[c5 rfl,h3 hp,qQ,c5 hp,ih];rfl
  |false=>rw[dS (by simp),qQ,dS (by rw[hp];simp),ih]
def EK(i:Nat)(env:En)(ds:List D)(fr:Bool)(r:R):Res Fl:=if ds.length<lim/\¬i∈r.al then .ok (.nx ((cQ env r.al).set i (some (.own (ds++[r.d]) (fr&&r.fr)))))else .stuck
def EL(i:Nat)(a:En->Res R)(env:En):Option (Option Sl)->Res Fl
 |some (some (.own ds fr))=>(a env).bind (EK i env ds fr)
 |some (some (.vL (.lst ds)))=>(a env).bind (EK i env ds true)
 |_=>.stuck
def NY(a:En->Res R)(env:En):xN i a env=EL i a env env[i]?:=by
 unfold xN jq EL;cases env[i]? with
 |none=>rfl
 |some o=>cases o with
  |none=>rfl
  |some s=>cases s with
   |vL d=>cases d<;>rfl
   |_=>rfl
def Lb(a:En->Res R):EL i a env (some (some (.own ds f)))=(a env).bind (EK i env ds f):=(rfl)
def pF(h:ds.length<1000000)(hr:r.al=[]):EK i env ds f r=.ok (.nx (env.set i (some (.own (ds++[r.d]) (f&&r.fr))))):=by unfold EK;rw[hr];rw[c5 ⟨h,by simp⟩];rfl
end
def gz(x:Int):(D.int x).flat=true:=(rfl)
def Hu(x:Bool):(D.bl x).flat=true:=(rfl)
def yd(x:Str):(D.str x).flat=true:=(rfl)
def EM:D.ig.flat=true:=(rfl)
def dZ(ds:List D):(D.tup ds).flat=D.aC ds:=(rfl)
def oh(ds:List D):(D.lst ds).flat=false:=(rfl)
def jy:D.aC []=true:=(rfl)
def be(d:D)(ds:List D):D.aC (d::ds)=(d.flat&&D.aC ds):=(rfl)
def Hv(x:Int):(D.int x).dep=0:=(rfl)
def Hw(x:Str):(D.str x).dep=0:=(rfl)
def Hx(ds:List D):(D.tup ds).dep=D.gH ds+1:=(rfl)
def wt(ds:List D):(D.lst ds).dep=D.gH ds+1:=(rfl)
def ye:D.gH []=0:=(rfl)
def u_(d:D)(ds:List D):D.gH (d::ds)=max d.dep (D.gH ds):=(rfl)
def Lc(r:R):js (.ok (.rt r))=.ok r:=(rfl)
def Ld(e:En):js (.ok (.nx e))=.ok (.val .ig true []):=(rfl)
def wu(d:D)(f:Bool)(al:List Nat):(R.val d f al).d=d:=(rfl)
def ww(ds:List D)(f:Bool):(R.new ds f).d=.lst ds:=(rfl)
def Hy(d:D):(R.mG d).d=d:=(rfl)
def EN(d:D)(f:Bool)(al:List Nat):(R.val d f al).fr=f:=(rfl)
def EO(ds:List D)(f:Bool):(R.new ds f).fr=f:=(rfl)
def EQ(d:D):(R.mG d).fr=true:=(rfl)
def ER(d:D)(f:Bool)(al:List Nat):(R.val d f al).al=al:=(rfl)
def ES(ds:List D)(f:Bool):(R.new ds f).al=[]:=(rfl)
def ET(d:D):(R.mG d).al=[]:=(rfl)
def qU{α β:Type}(a:α)(k:α->Res β):(Res.ok a).bind k=k a:=(rfl)
def NZ:D->Res R
 |.lst ds=>match ik ds with
  |some bs=>.ok (.val (.bl (bs.all id)) true [])
  |none=>.stuck
 |_=>.stuck
def EU(r:R):zo [r]=NZ r.d:=by rcases r with⟨d,f,al⟩|⟨ds,f⟩|⟨d⟩<;>first|rfl|(cases d<;>rfl)
def pG{α:Type}(xs:List α):NZ (.lst (xs.map λ_=>D.bl true))=.ok (.val (.bl true) true []):=by
 have:∀xs:List α,ik (xs.map λ_=>D.bl true)=some (xs.map λ_=>true):=by
  intro xs;induction xs with
  |nil=>rfl
  |cons a r ih=>rw[b8];unfold ik;rw[ih];rfl
 show(match ik (xs.map λ_=>D.bl true)with|some bs=>Res.ok (R.val (D.bl (bs.all id)) true [])|none=>Res.stuck)=_;rw[this];dsimp only;congr 3;rw[g6];intro x hx;obtain⟨_,_,rfl⟩:=dP.mp hx;rfl
def Q3:((0:Nat):Int)=0:=(rfl)
def Q4:((2:Nat):Int)=2:=(rfl)
noncomputable def P2:D->Res R
 |.int i=>.ok (.val (.int (-i)) true [])
 |_=>.stuck
def N0(r:R):Res R:=P2 r.d
def N1(fa:En->Res R)(env:En):zp fa env=(fa env).bind N0:=by unfold zp;congr 1
def Le:N0 (.val (.int x) f al)=.ok (.val (.int (-x)) true []):=(rfl)
def IS:Kh [.val (.int x) f al,.val (.int y) g bl]=.ok (.val (.int (if y>x then y else x)) true []):=(rfl)
def EV(asg:D->Bool->En->Option En)(env:En)(r:R):Res Fl:=match asg r.d r.fr (cQ env r.al)with
 |some bp=>.ok (.nx bp)
 |none=>.stuck
def N2(f:En->Res R)(asg:D->Bool->En->Option En)(env:En):Kb f asg env=(f env).bind (EV asg env):=(rfl)
def Lf(h:asg r.d r.fr (cQ env r.al)=some bp):EV asg env r=.ok (.nx bp):=by unfold EV;rw[h]
def ug(neg:Bool)(a b:D):Res R:=match b with
 |.lS ks _=>D6 neg a ks
 |.lst ds=>IJ neg a ds
 |.tup ds=>IJ neg a ds
 |_=>.stuck
def IT(neg:Bool)(a b:R):Cd neg a b=ug neg a.d b.d:=by unfold Cd zr ug;cases b.d<;>rfl
def P3(a b:R):Ce a b=ug false a.d b.d:=IT false a b
def A1(a b:R):jT a b=ug true a.d b.d:=IT true a b
def EX(i:Nat)(a:En->Res R)(env:En):Option (Option Sl)->Res Fl
 |some (some (.own ds fr))=>(a env).bind λr=>match r with
  |.new es f2=>if ds.length+es.length<=lim then .ok (.nx (env.set i (some (.own (ds++es) (fr&&f2)))))else .stuck
  |_=>.stuck
 |some (some (.vL (.lst ds)))=>(a env).bind λr=>match r with
  |.new es f2=>if ds.length+es.length<=lim then .ok (.nx (env.set i (some (.own (ds++es) (true&&f2)))))else .stuck
  |_=>.stuck
 |_=>.stuck
def N3(i:Nat)(a:En->Res R)(env:En):D8 i a env=EX i a env env[i]?:=by
 unfold D8 jq EX;cases env[i]? with
 |none=>rfl
 |some o=>cases o with
  |none=>rfl
  |some s=>cases s with
   |vL d=>cases d<;>rfl
   |_=>rfl
def N4(i:Nat)(env:En)(ds:List D)(fr:Bool)(r:R):Res Fl:=match r with
 |.new es f2=>if ds.length+es.length<=lim then .ok (.nx (env.set i (some (.own (ds++es) (fr&&f2)))))else .stuck
 |_=>.stuck
def Lg:EX i a env (some (some (.own ds fr)))=(a env).bind (N4 i env ds fr):=(rfl)
def Lh(h:ds.length+es.length<=1000000):N4 i env ds fr (.new es f2)=.ok (.nx (env.set i (some (.own (ds++es) (fr&&f2))))):=c5 h
def zE(xs ys:List D)(f:Bool)(al:List Nat):Res R:=if xs.length+ys.length<=lim/\xs≠[]then .ok (lg (.tup (xs++ys)) f al)else .stuck
def Li:bn (.val (.tup xs) f al) (.val (.tup ys) g bl)=zE xs ys (f&&g) (al++bl):=(rfl)
def A2(h:xs.length+ys.length<=1000000)(h2:xs≠[]):zE xs ys f al=.ok (lg (.tup (xs++ys)) f al):=c5 ⟨h,h2⟩
def vb(h:d.flat=false):fA rs (.mG d)=.mG d:=by show F5 d true rs=_;unfold F5;rw[dS (by rw[h];simp),c5 rfl]
theorem vc:∀k:List Int,p9 (k.map .int)=some k
 |[]=>rfl
 |a::r=>by rw[b8];unfold p9;rw[vc r];rfl
def IU(i:Nat)(env:En)(r:R):Res Fl:=if i<env.length then .ok (.nx ((cQ env r.al).set i (some (.val r.d r.fr))))else .stuck
def wx(i:Nat)(a:En->Res R)(env:En):cn i a env=(a env).bind (IU i env):=(rfl)
def me(h:i<env.length):IU i env r=.ok (.nx ((cQ env r.al).set i (some (.val r.d r.fr)))):=c5 h
def EY(h0:0<=j)(h1:j<=1000):rG [.val (.int j) f al]=.ok (.new (i8 0 j.toNat) true):=c5 ⟨h0,h1⟩
def Lj(h:ra.d=.lS ks ds)(hk:ue rk.d=some x)(ha:ks.all (zt x)=true)(hg:getD ks ds x=some d):sB ra rk=.ok (lg d ra.fr ra.al):=by unfold sB;rw[h];dsimp only;rw[hk];dsimp only;rw[c5 ha,hg]
def IV(fl fh:En->Res (Option Int))(env:En)(r:R):Res R:=(fl env).bind λlo=>(fh env).bind λhi=>mT r lo hi
def IW(fh:En->Res (Option Int))(env:En)(r:R)(lo:Option Int):Res R:=(fh env).bind λhi=>mT r lo hi
def EZ(fa:En->Res R)(fl fh:En->Res (Option Int))(env:En):ce fa fl fh env=(fa env).bind (IV fl fh env):=(rfl)
def Hz(fl fh:En->Res (Option Int))(env:En)(r:R):IV fl fh env r=(fl env).bind (IW fh env r):=(rfl)
def HA(fh:En->Res (Option Int))(env:En)(r:R)(lo:Option Int):IW fh env r lo=(fh env).bind (mT r lo):=(rfl)
def HB(lo hi:Option Int):mT (.val (.lst ds) f al) lo hi=.ok (o_ (dw ds lo hi) f al):=(rfl)
def HC(lo hi:Option Int):mT (.val (.tup ds) f al) lo hi=.ok (lg (.tup (dw ds lo hi)) f al):=(rfl)
def HD(lo hi:Option Int)(h:z.length<=1000000):mT (.val (.str z) f al) lo hi=.ok (.val (.str (Txt.slice z lo hi)) true []):=c5 h
def HE:G1 (.val (.int 10) f al) (.val (.int 60) g bl)=.ok (.val (.int 1000000000000000000000000000000000000000000000000000000000000) true []):=(rfl)
def N5(i:Nat)(env:En)(s:Src):Res Fl:=if s.xs.length<=lim/\i<env.length then .ok (.nx (env.set i (some (.kJ (.lst (s.xs.map λ_=>.lst []))))))else .stuck
def N6(i:Nat)(src:En->Res Src)(env:En):G3 i src env=(src env).bind (N5 i env):=(rfl)
def Lk(h:xs.length<=1000000)(h2:i<env.length):N5 i env ⟨xs,f,al⟩=.ok (.nx (env.set i (some (.kJ (.lst (xs.map λ_=>.lst [])))))):=c5 ⟨h,h2⟩
def sL(i:Nat)(fe fv:En->Res R)(env:En):Option (Option Sl)->Res Fl
 |some (some (.kJ (.lst ds)))=>(fe env).bind (ju i fv env ds)
 |_=>.stuck
def E1(i:Nat)(fe fv:En->Res R)(env:En):n_ i fe fv env=sL i fe fv env env[i]?:=by unfold n_ sL;rfl
def zF:sL i fe fv env (some (some (.kJ (.lst ds))))=(fe env).bind (ju i fv env ds):=(rfl)
def zG(h:t8 ds.length k=some j)(h2:ds[j]?=some (.lst es)):ju i fv env ds (.val (.int k) f al)=(fv env).bind (lu i env ds j es):=by show n9 i fv env ds (t8 ds.length k)=_;rw[h];unfold n9;dsimp only;rw[h2]
def zH(h:r.d.flat=true)(h2:es.length<1000000)(h3:ds.all ma=true):lu i env ds j es r=.ok (.nx (env.set i (some (.kJ (.lst (ds.set j (.lst (es++[r.d])))))))):=c5 ⟨h,h2,h3⟩
def HF(fs:En->Res (List R))(env:En):xY fs env=(fs env).bind xX:=(rfl)
def E2:xX [.val (.lst ds) f al,.val (.lst es) g bl]=.ok ⟨mJ ds es,f&&g,al++bl⟩:=(rfl)
def E3:EG i fb env (some (some (.kJ d)))=v2 uc (aj i) fb env:=(rfl)
def N7(fo fa:En->Res R)(env:En):Ks fo fa env=(fo env).bind (u3 fa env):=(rfl)
def E4(fa:En->Res R)(env:En):D->Res R
 |.lst ds=>(fa env).bind (u0 ds)
 |_=>.stuck
def HG(fa:En->Res R)(env:En)(ra:R):u3 fa env ra=E4 fa env ra.d:=by unfold u3 E4;rfl
def N8(kvs:List (Str×Int))(f:En->Res R)(env:En):Ef kvs f env=(f env).bind (Co kvs):=(rfl)
def E5(h:jv kvs k=some v):Co kvs (.val (.str k) f al)=.ok (.val (.int v) true []):=by show(match jv kvs k with|some v=>(Res.ok (R.val (.int v) true []):Res R)|none=>.stuck)=_;rw[h]
end L3
local macro_rules|`(tactic| simp_arith[$as,*] $[$l:location]?)=>do
 let ls←("L3.cb L3.nw L3.N7 L3.HG L3.N8 L3.E5 L3.E3 L3.G9 L3.EZ L3.Hz L3.HA L3.HB L3.HC L3.HD L3.HE L3.N6 L3.Lk L3.E1 L3.zF L3.HF L3.E2 L3.wx L3.me decide_true decide_false List.map_cons List.map_nil List.length_cons List.length_nil List.replicate List.cons_append List.nil_append List.append_nil Nat.reduceAdd Nat.max_self Nat.zero_max Nat.max_zero Nat.zero_add Nat.reduceSub L3.ya L3.Nu L3.PR L3.Nz L3.Nw L3.Nx L3.Ny L3.zA L3.KB L3.gz L3.Hu L3.yd L3.EM L3.dZ L3.oh L3.jy L3.be L3.Hv L3.Hw L3.Hx L3.wt L3.ye L3.u_ L3.QY L3.qU List.getElem?_cons_zero List.getElem?_cons_succ L3.NC L3.ND L3.NA L3.NB L3.KC Int.reduceLT Int.reduceLE Int.reduceNeg L3.Ky L3.Kz L3.KA L3.PN L3.PP List.set_cons_zero List.set_cons_succ Nat.reduceLT Nat.reduceLeDiff L3.Es L3.Nl L3.Nn L3.Np L3.Nr L3.Kx L3.PU L3.KD L3.PV L3.PX L3.il L3.Hb L3.Hc L3.Hd L3.KF L3.He L3.Hf L3.Eu L3.NF L3.KG L3.NH L3.KH L3.Ew L3.u6 L3.Ex L3.Ct L3.KI L3.Hg L3.Ez L3.EA L3.EB L3.yb L3.yc L3.u7 L3.PY L3.NI L3.KJ L3.KL L3.KM L3.Hh L3.PZ L3.P0 L3.KN L3.KO L3.KP L3.Hi L3.KR L3.NK L3.KS L3.KU L3.NL L3.NM L3.KW L3.Hj L3.Hk L3.KY L3.KZ L3.Cu L3.NN L3.NO L3.NP L3.NQ L3.K1 L3.K3 L3.K4 L3.Qx L3.QZ L3.Q0 L3.Q1 L3.Hm L3.Ho L3.P1 L3.NS L3.K5 L3.K6 L3.K7 L3.K8 L3.K9 L3.NU L3.K_ L3.zC L3.EH L3.EI L3.Hr L3.NV L3.Hs L3.EJ L3.zD L3.N1 L3.Le L3.IS L3.N2 L3.Q3 L3.Q4 Int.reduceBEq L3.EU Bool.not_not Nat.reduceEqDiff L3.wq L3.NY L3.Lb L3.wu L3.ww L3.Hy L3.EN L3.EO L3.EQ L3.ER L3.ES L3.ET Bool.and_true Bool.true_and Bool.and_false Bool.false_and Bool.and_self Bool.not_true Bool.not_false L3.Lc L3.Ld L3.bJ L3.cf L3.P3 L3.A1 L3.N3 L3.Lg L3.Li L3.vb".splitOn " ").toArray.mapM λs=>`(Lean.Parser.Tactic.simpLemma| $(Lean.mkIdent s.toName):ident)
 `(tactic| simp only[$[$ls:simpLemma],*,$as,*] $[$l]?)
local macro_rules|`(tactic| simp_arith $[$l:location]?)=>`(tactic| simp_arith[L3.qU] $[$l]?)
namespace L3
open PySem L2
def sM{α β:Type}(g:α->β)(xs:List α)(lo hi:Option Int):dw (xs.map g) lo hi=(dw xs lo hi).map g:=by unfold dw;rw[bH,List.map_take,List.map_drop]
def yh{α:Type}(xs:List α)(lo hi:Option Int):(dw xs lo hi).length<=xs.length:=by unfold dw;rw[kj,By];lia
def sN{α:Type}(xs:List α):dw xs (some 1) none=xs.tail:=by
 unfold dw;have h1:HT.sIx xs.length 0 (some 1)=min 1 xs.length:=HT.sIx_nat xs.length 0 1;have h2:HT.sIx xs.length xs.length none=xs.length:=rfl;rw[h1,h2];cases xs with
 |nil=>rfl
 |cons a r=>
  have:min 1 (a::r).length=1:=by simp
  rw[this];simp
def cT:(∀d∈ds,d.flat=true)->D.aC ds=true:=by
 induction ds with
 |nil=>intro _;rfl
 |cons d r ih=>intro h;rw[be,h d (by simp),ih λx hx=>h x (by simp[hx])];rfl
def aV{α:Type}(g:α->D)(xs:List α)(h:∀a,(g a).flat=true):D.aC (xs.map g)=true:=cT λd hd=>by obtain⟨a,_,rfl⟩:=dP.mp hd;exact h a
def bc(xs:List Int):D.aC (xs.map D.int)=true:=aV _ _ gz
def HH:(∀d∈ds,d.dep<=n)->D.gH ds<=n:=by
 induction ds with
 |nil=>intro _;rw[ye];lia
 |cons d r ih=>intro h;have h1:=h d (by simp);have h2:=ih λx hx=>h x (by simp[hx]);rw[u_];lia
def yi{α:Type}{g:α->D}{xs:List α}{n:Nat}(h:∀a,(g a).dep<=n):D.gH (xs.map g)<=n:=HH λd hd=>by obtain⟨a,_,rfl⟩:=dP.mp hd;exact h a
def Cv(xs:List Int):D.gH (xs.map D.int)<=0:=yi λ_=>cC 0
def E6{α:Type}(g:α->D)(xs:List α):bz (xs.map λa=>.val (g a) true [])=true:=by unfold bz;rw[g6];intro r h;obtain⟨a,_,rfl⟩:=dP.mp h;rfl
def eV{α:Type}(g:α->D)(fr:Bool)(al:List Nat)(xs:List α):(xs.map λa=>R.val (g a) fr al).map R.d=xs.map g:=by rw[dQ];rfl
theorem mf{α:Type}(g:α->D):∀(xs:List α)(n:Nat),fC n (xs.map g)=(xs.zipIdx n).map λp=>.tup [.int (p.2:Nat),g p.1]
 |[],_=>rfl
 |a::r,n=>by rw[b8,Bz,b8];unfold fC;rw[mf g r (n+1)]
def jU(n:Nat):i8 0 n=(List.range n).map λk=>.int (k:Nat):=by unfold i8;congr 1;funext k;simp
theorem eB{α:Type}(g:α->D){asg:D->Bool->En->Option En}{fr:Bool}{body:En->Res Fl}(all:List α)(P:List α->En->Prop):∀(xs pre:List α)(env:En),all=pre++xs->P pre env->
 (∀(pre post:List α)(a:α)(env:En),all=pre++a::post->P pre env->∃env1 env2,asg (g a) fr env=some env1/\body env1=.ok (.nx env2)/\P (pre++[a]) env2)->
 ∃bp,cI asg fr body (xs.map g) env=.ok (.nx bp)/\P all bp
 |[],pre,env,e,h,_=>⟨env,rfl,by rw[e,kH];exact h⟩
 |a::r,pre,env,e,h,st=>by obtain⟨env1,env2,h1,h2,h3⟩:=st pre r a env e h;obtain⟨bp,e1,e2⟩:=eB g all P r (pre++[a]) env2 (by rw[e];simp) h3 st;refine⟨bp,?_,e2⟩;rw[b8];unfold cI;rw[h1];dsimp only;rw[h2];exact e1
def wy(f:D->Bool->En->Option En)(fs:List D->Bool->En->Option En)(d:D)(ds:List D)(fr:Bool)(env:En):ay f fs (d::ds) fr env=(f d fr env).bind λe=>fs ds fr e:=(rfl)
def HI(h:cQ env al=env1)(hi:i<env1.length)(hj:j<env1.length)(hk:k<env1.length):EV (gT 3 (ay (gN i) (ay (gN j) (ay (gN k) bA)))) env (.val (.tup [a,b,c]) f al)=.ok (.nx (((env1.set i (some (.val a f))).set j (some (.val b f))).set k (some (.val c f)))):=by refine Lf ?_;show(ay (gN i) (ay (gN j) (ay (gN k) bA))) [a,b,c] f (cQ env al)=_;rw[h,wy,La hi];show(ay (gN j) (ay (gN k) bA)) [b,c] f _=_;rw[wy,La (by rw[lT];exact hj)];show(ay (gN k) bA) [c] f _=_;rw[wy,La (by rw[lT,lT];exact hk)];rfl
def rJ{α β:Type}(g:α->β)(xs:List α)(k:Int):b0 (xs.map g) k=(b0 xs k).map g:=by
 unfold b0;rw[bH];cases t8 xs.length k with
 |none=>rfl
 |some j=>simp
def sO{α:Type}{xs:List α}{k:Int}(h0:0<=k)(h:k<xs.length):∃a,b0 xs k=some a/\xs[k.toNat]?=some a:=by
 unfold b0 t8;rw[c5 h0,c5 h];have:k.toNat<xs.length:=by lia
 exact⟨xs[k.toNat],by simp[this],by simp[this]⟩
structure Rl where
 room:Int
 sign:Int
 to:Int
 put:List Int
def Rl.d(r:Rl):D:=.tup [.int r.room,.int r.sign,.int r.to,.tup (r.put.map .int)]
theorem Rl.flat(r:Rl):r.d.flat=true:=by unfold Rl.d;simp only[dZ,be,gz,bc,jy,Q_]
end L3
namespace W
open PySem PySem.Spec PyProof.Rows L2 L3
def top(i:Nat):Stmt:=PySem.Challenge.pw_callwalk_k56_whole_program_runs.main.body.getD i (.Pass ⟨0,0,0,0⟩)
abbrev cp:Stmt:=top 40
noncomputable abbrev lx:List Str:=["_law_script","_law_k"]
noncomputable abbrev df:List Str:=["_law_script","_law_k"]
def qV:aP lx df (am cp):=⟨rfl,rfl,rfl,by decide +kernel,rfl,by decide +kernel,by decide +kernel⟩
def im:En->Res Fl:=
 (aG (eJ (vB (v2 MV (aj 1) (gR db (ac (aj 0) ao)))) (aX (v2 ub (aE 0 (aj 1)) (v2 G1 (vC (.int 10)) (vC (.int 60))))) bu)
 (aX (vC (.int 0))))
def cq:List D->Res R:=cb lx im
abbrev dy:Stmt:=top 41
noncomputable abbrev oi:List Str:=["_law_cell","_law_prime","_law_many"]
noncomputable abbrev fF:List Str:=["_law_cell","_law_prime","_law_many"]
def uh:aP oi fF (am dy):=⟨rfl,rfl,rfl,by decide +kernel,rfl,by decide +kernel,by decide +kernel⟩
def oj:En->Res Fl:=(aX (v2 ub (v2 ub (v2 bn (v2 so (v2 ub (aj 0) (v2 G1 (vC (.int 10)) (vC (.int 60)))) (vC (.int 48271))) (vC (.int 11))) (aj 1)) (aj 2)))
def aT:List D->Res R:=cb oi oj
abbrev dz:Stmt:=top 42
noncomputable abbrev om:List Str:=["_law_cell","_law_others","_law_size","_law_base","_law_k","_law_spot","_law_lot","_law_sign_here","_law_name","_law_at"]
noncomputable abbrev fG:List Str:=["_law_cell"]
def sc__law_names:aP om fG (am dz):=⟨rfl,rfl,rfl,by decide +kernel,rfl,by decide +kernel,by decide +kernel⟩
def fH:En->Res Fl:=λenv=>(bS 3 (v2 bn (aj 3) (v2 uc (vC (.str "abcdefghijklmnopqrstuvwxyz")) (aN aT (ac (v2 bn (aj 0) (v2 so (v2 so (vC (.int 5)) (aj 4)) (aj 4))) (ac (vC (.int 1093)) (ac (vC (.int 26)) ao))))))) env
def cr:En->Res Fl:=λenv=>
 (aG (bS 7 (v2 uc (vC (.str "bcdefghjklopqrstuvwxyz")) (v2 ub (v2 bn (aj 0) (v2 so (aj 4) (v2 bn (vC (.int 1)) (v2 ub (v2 GK (aj 0) (vC (.int 22))) (vC (.int 7)))))) (vC (.int 22)))))
 (aG (bS 8 (v2 bn (v2 bn (ce (aj 3) gL (fX (aj 5))) (aj 7)) (ce (aj 3) (fX (v2 bn (aj 5) (vC (.int 1)))) gL)))
 (aG (eJ (vB (v2 gu (aj 6) (vC (.int 2)))) (bS 8 (v2 bn (vC (.str "main")) (aj 7))) bu)
 (aG (eJ (vB (v2 gu (aj 6) (vC (.int 3)))) (bS 8 (ce (vC (.str "main")) gL (fX (v2 bn (vC (.int 1)) (aj 4))))) bu)
 (xN 1 (aj 8)))))) env
def oo:En->Res Fl:=
 (aG (bS 1 (cH ao))
 (aG (bS 2 (v2 bn (vC (.int 1)) (aN aT (ac (aj 0) (ac (vC (.int 1063)) (ac (vC (.int 8)) ao))))))
 (aG (bS 3 (vC (.str "")))
 (aG (jg (IH (ac (aj 2) ao)) (gN 4) fH)
 (aG (cn 5 (aN aT (ac (aj 0) (ac (vC (.int 1069)) (ac (aj 2) ao)))))
 (aG (cn 6 (aN aT (ac (aj 0) (ac (vC (.int 1087)) (ac (vC (.int 4)) ao)))))
 (aG (jg (IH (ac (aN aT (ac (aj 0) (ac (vC (.int 1061)) (ac (vC (.int 4)) ao)))) ao)) (gN 4) cr)
 (aG (cn 9 (aN aT (ac (aj 0) (ac (vC (.int 1091)) (ac (v2 bn (gR db (ac (aj 1) ao)) (vC (.int 1))) ao)))))
 (aX (v2 bn (v2 bn (ce (aj 1) gL (fX (aj 9))) (cH (ac (vC (.str "main")) ao))) (ce (aj 1) (fX (aj 9)) gL)))))))))))
def gU:List D->Res R:=cb om oo
abbrev f6:Stmt:=top 43
noncomputable abbrev sP:List Str:=["_law_cell","_law_values","_law_many","_law_names_here","_law_last","_law_lot","_law_side","_law_which","_law_number","_law_goal"]
noncomputable abbrev io:List Str:=["_law_cell","_law_values","_law_many","_law_names_here","_law_last"]
def sc__law_row:aP sP io (am f6):=⟨rfl,rfl,rfl,by decide +kernel,rfl,by decide +kernel,by decide +kernel⟩
def ui:En->Res Fl:=λenv=>(aX (bg (ac (vC (.str "skip")) ao))) env
def uj:En->Res Fl:=λenv=>
 (aG (eJ (vB (v2 DG (aj 5) (vC (.int 10)))) (aX (bg (ac (v2 uc (cH (ac (vC (.str "back")) (ac (vC (.str "stop")) ao))) (v2 xI (aj 5) (vC (.int 10)))) ao))) bu)
 ui) env
def uk:En->Res Fl:=λenv=>
 (aG (eJ (su (vB (v2 DG (aj 5) (vC (.int 7)))) (vB (v2 C1 (aj 5) (vC (.int 9))))) (aX (bg (ac (v2 uc (cH (ac (vC (.str "go")) (ac (vC (.str "fork")) (ac (vC (.str "fork")) ao)))) (v2 xI (aj 5) (vC (.int 7)))) (ac (aj 9) ao)))) bu)
 uj) env
def ul:En->Res Fl:=λenv=>
 (aG (eJ (xJ (vB (v2 gu (aj 5) (vC (.int 5)))) (vB (v2 gu (aj 5) (vC (.int 6))))) (aX (bg (ac (vC (.str "if")) (ac (aj 7) (ac (aj 8) (ac (aj 9) ao)))))) bu)
 uk) env
def wz:En->Res Fl:=λenv=>
 (aG (eJ (xJ (vB (v2 gu (aj 5) (vC (.int 3)))) (vB (v2 gu (aj 5) (vC (.int 4))))) (aX (bg (ac (v2 uc (cH (ac (vC (.str "any")) (ac (vC (.str "turn")) ao))) (v2 xI (aj 5) (vC (.int 3)))) (ac (aj 7) ao)))) bu)
 ul) env
def wA:En->Res Fl:=λenv=>
 (aG (eJ (xJ (vB (v2 gu (aj 5) (vC (.int 1)))) (vB (v2 gu (aj 5) (vC (.int 2))))) (aX (bg (ac (vC (.str "set")) (ac (aj 7) (ac (aj 8) ao))))) bu)
 wz) env
def jV:En->Res Fl:=λenv=>
 (aG (eJ (vB (v2 DG (aj 5) (vC (.int 12)))) (aX (bg (ac (vC (.str "call")) (ac (aE 3 (aN aT (ac (aj 0) (ac (vC (.int 1031)) (ac (gR db (ac (aj 3) ao)) ao))))) ao)))) bu)
 wA) env
def oq:En->Res Fl:=λenv=>
 (aG (cn 9 (aN aT (ac (aj 0) (ac (vC (.int 1021)) (ac (aj 2) ao)))))
 jV) env
def ou:En->Res Fl:=λenv=>
 (aG (cn 8 (aN aT (ac (aj 0) (ac (vC (.int 1019)) (ac (aE 1 (aj 6)) ao)))))
 oq) env
def ox:En->Res Fl:=λenv=>
 (aG (bS 7 (v2 uc (cH (ac (vC (.str "shared")) (ac (vC (.str "own")) ao))) (aj 6)))
 ou) env
def jW:En->Res Fl:=λenv=>
 (aG (cn 6 (aN aT (ac (aj 0) (ac (vC (.int 1013)) (ac (vC (.int 2)) ao)))))
 ox) env
def jX:En->Res Fl:=λenv=>
 (aG (eJ (kQ (aj 4)) (bS 5 (v2 uc (cH (ac (vC (.int 7)) (ac (vC (.int 10)) (ac (vC (.int 11)) ao)))) (aN aT (ac (aj 0) (ac (vC (.int 1009)) (ac (vC (.int 3)) ao)))))) bu)
 jW) env
def nA:En->Res Fl:=
 (aG (cn 5 (aN aT (ac (aj 0) (ac (vC (.int 1009)) (ac (vC (.int 14)) ao)))))
 jX)
def ip:List D->Res R:=cb sP nA
abbrev bU:Stmt:=top 44
noncomputable abbrev ir:List Str:=["_law_cells","_law_values","_law_names_here","_law_seed","_law_dealt","_law_cell","_law_procedures","_law_k","_law_name","_law_own","_law_rows","_law_at"]
noncomputable abbrev dh:List Str:=["_law_cells","_law_values","_law_names_here","_law_seed"]
def sc__law_program:aP ir dh (am bU):=⟨rfl,rfl,rfl,by decide +kernel,rfl,by decide +kernel,by decide +kernel⟩
def nB:((["_law_name"]:List Str)++([]:List Str)).Nodup:=by decide +kernel
def dA:En->Res Fl:=λenv=>(n_ 4 (aN aT (ac (aj 5) (ac (vC (.int 1051)) (ac (gR db (ac (aj 2) ao)) ao)))) (aj 5)) env
def dC:En->Res Fl:=λenv=>(xN 10 (aN ip (ac (aj 5) (ac (aj 1) (ac (gR db (ac (aj 9) ao)) (ac (aj 2) (ac (v2 gu (aj 11) (v2 xI (gR db (ac (aj 9) ao)) (vC (.int 1)))) ao))))))) env
def dD:En->Res Fl:=λenv=>
 (aG (bS 9 (v2 bn (aE 4 (aj 7)) (cH (ac (v2 bn (aj 3) (v2 so (v2 so (vC (.int 7)) (aj 7)) (aj 7))) ao))))
 (aG (bS 10 (cH ao))
 (aG (jg (uW (ac (aj 9) ao)) (gT 2 (ay (gN 11) (ay (gN 5) bA))) dC)
 (xN 6 (bg (ac (aj 8) (ac (aj 10) ao))))))) env
def lz:En->Res Fl:=
 (aG (G3 4 (fB (aj 2)))
 (aG (jg (fB (aj 0)) (gN 5) dA)
 (aG (bS 6 (cH ao))
 (aG (jg (uW (ac (aj 2) ao)) (gT 2 (ay (gN 7) (ay (gN 8) bA))) dD)
 (aX (bg (ac (aE 1 (vC (.int 0))) (ac (aE 1 (vC (.int 1))) (ac (aj 6) ao)))))))))
def fJ:List D->Res R:=cb ir lz
abbrev eY:Stmt:=top 45
noncomputable abbrev qg:List Str:=["_law_script","_law_room","_law_cell","_law_values","_law_names_here","_law_most"]
noncomputable abbrev gA:List Str:=["_law_script","_law_room"]
def sc__law_made:aP qg gA (am eY):=⟨rfl,rfl,rfl,by decide +kernel,rfl,by decide +kernel,by decide +kernel⟩
def qh:En->Res Fl:=
 (aG (cn 2 (aN cq (ac (aj 0) (ac (vC (.int 0)) ao))))
 (aG (bS 3 (cH (ac (v2 bn (vC (.int 1)) (aN aT (ac (aj 2) (ac (vC (.int 1033)) (ac (vC (.int 4)) ao))))) (ac (v2 bn (vC (.int 1)) (aN aT (ac (aj 2) (ac (vC (.int 1039)) (ac (vC (.int 4)) ao))))) ao))))
 (aG (cn 4 (aN gU (ac (aN cq (ac (aj 0) (ac (vC (.int 1)) ao))) ao)))
 (aG (bS 5 (gR Kh (ac (vC (.int 2)) (ac (v2 xI (v2 GK (aj 1) (v2 so (aE 3 (vC (.int 0))) (aE 3 (vC (.int 1))))) (vC (.int 4))) ao))))
 (aX (aN fJ (ac (ce (aj 0) (fX (vC (.int 2))) (fX (v2 bn (vC (.int 2)) (aj 5)))) (ac (aj 3) (ac (aj 4) (ac (aj 2) ao))))))))))
def i9:List D->Res R:=cb qg qh
abbrev cL:Stmt:=top 16
noncomputable abbrev jY:List Str:=["text","form","words","rest"]
noncomputable abbrev fK:List Str:=["text","form"]
def sc_words_kept:aP jY fK (am cL):=⟨rfl,rfl,rfl,by decide +kernel,rfl,by decide +kernel,by decide +kernel⟩
def jz:((["letter","word"]:List Str)++([]:List Str)).Nodup:=by decide +kernel
def cv:En->Res R:=λenv=>(OR (vB (v2 Ce (aj 0) (bg (ac (vC (.str "F")) (ac (vC (.str "V")) ao))))) (aj 1) (gR x_ (ac (aj 1) ao))) env
def oy:En->Res Fl:=
 (aG (bS 2 (nz (aj 0) (vC (.str " "))))
 (aG (bS 3 (cm 2 [] (xY (ac (ce (aj 1) (fX (vC (.int 1))) gL) (ac (ce (aj 2) (fX (vC (.int 1))) gL) ao))) (gT 2 (ay (gN 0) (ay (gN 1) bA))) (λ_=>.ok true) cv))
 (aX (gR wc (ac (v2 bn (ce (aj 2) gL (fX (vC (.int 1)))) (aj 3)) ao)))))
def dE:List D->Res R:=cb jY oy
abbrev f7:Stmt:=top 11
noncomputable abbrev pH:List Str:=["word"]
noncomputable abbrev jA:List Str:=["word"]
def zI:aP pH jA (am f7):=⟨rfl,rfl,rfl,by decide +kernel,rfl,by decide +kernel,by decide +kernel⟩
def um:((["sign"]:List Str)++([]:List Str)).Nodup:=by decide +kernel
def ql:En->Res R:=λenv=>(jh wg wg (vC (.str "a")) (aj 0) (vC (.str "z"))) env
def ve:En->Res Fl:=(aX (BZ (jh C1 C1 (vC (.int 1)) (gR db (ac (aj 0) ao)) (vC (.int 8))) (gR zo (ac (cm 1 [] (AY (aj 0)) (gN 0) (λ_=>.ok true) ql) ao))))
def jB:List D->Res R:=cb pH ve
abbrev eL:Stmt:=top 12
noncomputable abbrev nC:List Str:=["word"]
noncomputable abbrev iy:List Str:=["word"]
def yj:aP nC iy (am eL):=⟨rfl,rfl,rfl,by decide +kernel,rfl,by decide +kernel,by decide +kernel⟩
def sQ:((["sign"]:List Str)++([]:List Str)).Nodup:=by decide +kernel
def wB:En->Res R:=λenv=>(jh wg wg (vC (.str "0")) (aj 0) (vC (.str "9"))) env
def zJ:En->Res Fl:=
 (aG (eJ (xJ (mI (vB (jh C1 C1 (vC (.int 1)) (gR db (ac (aj 0) ao)) (vC (.int 3))))) (mI (kQ (gR zo (ac (cm 1 [] (AY (aj 0)) (gN 0) (λ_=>.ok true) wB) ao))))) (aX (vC (.bl false))) bu)
 (aX (Qy (v2 gu (aj 0) (vC (.str "0"))) (v2 DI (aE 0 (vC (.int 0))) (vC (.str "0"))))))
def iz:List D->Res R:=cb nC zJ
abbrev f9:Stmt:=top 13
noncomputable abbrev sR:List Str:=["letter","word"]
noncomputable abbrev iA:List Str:=["letter","word"]
def yk:aP sR iA (am f9):=⟨rfl,rfl,rfl,by decide +kernel,rfl,by decide +kernel,by decide +kernel⟩
def jZ:En->Res Fl:=
 (aG (eJ (vB (v2 gu (aj 0) (vC (.str "F")))) (aX (aN jB (ac (aj 1) ao))) bu)
 (aG (eJ (vB (v2 gu (aj 0) (vC (.str "V")))) (aX (Ek [("shared",0),("own",1)] (aj 1))) bu)
 (aG (eJ (vB (v2 gu (aj 0) (vC (.str "S")))) (aX (v2 Ce (aj 1) (bg (ac (vC (.str "1")) (ac (vC (.str "2")) (ac (vC (.str "3")) (ac (vC (.str "4")) ao))))))) bu)
 (aX (aN iz (ac (aj 1) ao))))))
def cM:List D->Res R:=cb sR jZ
abbrev eM:Stmt:=top 14
noncomputable abbrev nE:List Str:=["words","form"]
noncomputable abbrev iB:List Str:=["words","form"]
def ym:aP nE iB (am eM):=⟨rfl,rfl,rfl,by decide +kernel,rfl,by decide +kernel,by decide +kernel⟩
def lA:((["letter","word"]:List Str)++([]:List Str)).Nodup:=by decide +kernel
def j3:En->Res R:=λenv=>(aN cM (ac (aj 0) (ac (aj 1) ao))) env
def j6:En->Res Fl:=
 (aG (eJ (xJ (vB (v2 DI (gR db (ac (aj 0) ao)) (gR db (ac (aj 1) ao)))) (vB (v2 DI (aE 0 (vC (.int 0))) (aE 1 (vC (.int 0)))))) (aX (vC (.bl false))) bu)
 (aX (gR zo (ac (cm 2 [] (xY (ac (ce (aj 1) (fX (vC (.int 1))) gL) (ac (ce (aj 0) (fX (vC (.int 1))) gL) ao))) (gT 2 (ay (gN 0) (ay (gN 1) bA))) (λ_=>.ok true) j3) ao))))
def di:List D->Res R:=cb nE j6
abbrev dF:Stmt:=top 15
noncomputable abbrev oz:List Str:=["text","forms","words","form"]
noncomputable abbrev fL:List Str:=["text","forms"]
def sc_form_among:aP oz fL (am dF):=⟨rfl,rfl,rfl,by decide +kernel,rfl,by decide +kernel,by decide +kernel⟩
def cw:En->Res Fl:=λenv=>(eJ (kQ (aN di (ac (aj 2) (ac (aj 3) ao)))) (aX (aj 3)) bu) env
def oA:En->Res Fl:=
 (aG (bS 2 (nz (aj 0) (vC (.str " "))))
 (aG (jg (fB (aj 1)) (gN 3) cw)
 (fE "NoText" (ac (vC (.str "words that are none of those that may stand here")) ao))))
def cO:List D->Res R:=cb oz oA
abbrev jC:Stmt:=top 17
noncomputable abbrev yn:List Str:=["text"]
noncomputable abbrev lB:List Str:=["text"]
def Cw:aP yn lB (am jC):=⟨rfl,rfl,rfl,by decide +kernel,rfl,by decide +kernel,by decide +kernel⟩
def yo:En->Res Fl:=(aX (aN dE (ac (aj 0) (ac (aN cO (ac (aj 0) (ac (vC (.tup [.tup [.str "skip"],.tup [.str "set",.str "V",.str "N"],.tup [.str "any",.str "V"],.tup [.str "turn",.str "V"],.tup [.str "if",.str "V",.str "N",.str "K"],.tup [.str "go",.str "K"],.tup [.str "fork",.str "K"],.tup [.str "call",.str "F"],.tup [.str "back"],.tup [.str "stop"]])) ao))) ao))))
def oB:List D->Res R:=cb yn yo
abbrev bV:Stmt:=top 18
noncomputable abbrev iC:List Str:=["part","halves"]
noncomputable abbrev dj:List Str:=["part"]
def sc_procedure_in:aP iC dj (am bV):=⟨rfl,rfl,rfl,by decide +kernel,rfl,by decide +kernel,by decide +kernel⟩
def nF:((["row"]:List Str)++([]:List Str)).Nodup:=by decide +kernel
def f_:En->Res R:=λenv=>(aN oB (ac (aj 0) ao)) env
def lC:En->Res Fl:=
 (aG (bS 1 (nz (aj 0) (vC (.str ": "))))
 (aG (eJ (xJ (vB (v2 DI (gR db (ac (aj 1) ao)) (vC (.int 2)))) (mI (kQ (aN jB (ac (aE 1 (vC (.int 0))) ao))))) (fE "NoText" (ac (vC (.str "a part that is no procedure")) ao)) bu)
 (aX (bg (ac (aE 1 (vC (.int 0))) (ac (cm 1 [] (fB (nz (aE 1 (vC (.int 1))) (vC (.str ", ")))) (gN 0) (λ_=>.ok true) f_) ao))))))
def fM:List D->Res R:=cb iC lC
abbrev dk:Stmt:=top 19
noncomputable abbrev lD:List Str:=["text","parts","values"]
noncomputable abbrev gB:List Str:=["text"]
def sc_formed_in:aP lD gB (am dk):=⟨rfl,rfl,rfl,by decide +kernel,rfl,by decide +kernel,by decide +kernel⟩
def qW:((["part"]:List Str)++([]:List Str)).Nodup:=by decide +kernel
def ji:En->Res R:=λenv=>(aN fM (ac (aj 0) ao)) env
def qm:En->Res Fl:=
 (aG (eJ (mI (kQ (v_ "str" (aj 0)))) (fE "NoText" (ac (vC (.str "the program is no text")) ao)) bu)
 (aG (bS 1 (nz (aj 0) (vC (.str "; "))))
 (aG (cn 2 (aN dE (ac (aE 1 (vC (.int 0))) (ac (aN cO (ac (aE 1 (vC (.int 0))) (ac (bg (ac (vC (.tup [.str "values",.str "S",.str "S"])) ao)) ao))) ao))))
 (aG (eJ (vB (v2 gu (gR db (ac (aj 1) ao)) (vC (.int 1)))) (fE "NoText" (ac (vC (.str "the program has no procedure")) ao)) bu)
 (aX (bg (ac (aE 2 (vC (.int 1))) (ac (aE 2 (vC (.int 2))) (ac (cm 1 [] (fB (ce (aj 1) (fX (vC (.int 1))) gL)) (gN 0) (λ_=>.ok true) ji) ao)))))))))
def i_:List D->Res R:=cb lD qm
abbrev bG:Stmt:=top 20
noncomputable abbrev iD:List Str:=["program","names","rows","place","row"]
noncomputable abbrev bW:List Str:=["program","names","rows","place"]
def sc_refuse_wrong_row:aP iD bW (am bG):=⟨rfl,rfl,rfl,by decide +kernel,rfl,by decide +kernel,by decide +kernel⟩
def eO:En->Res Fl:=
 (aG (bS 4 (aE 2 (aj 3)))
 (aG (eJ (su (vB (v2 gu (aE 4 (vC (.int 0))) (vC (.str "call")))) (vB (v2 jT (aE 4 (vC (.int 1))) (aj 1)))) (fE "NoName" (ac (vC (.str "a procedure is called that is not there")) ao)) bu)
 (aG (eJ (su (vB (v2 Ce (aE 4 (vC (.int 0))) (bg (ac (vC (.str "set")) (ac (vC (.str "if")) ao))))) (vB (v2 DG (aE 4 (vC (.int 2))) (aE 0 (Ef [("shared",0),("own",1)] (aE 4 (vC (.int 1)))))))) (fE "NoValue" (ac (vC (.str "a row tells a value that is not there")) ao)) bu)
 (aG (eJ (su (vB (v2 Ce (aE 4 (vC (.int 0))) (bg (ac (vC (.str "if")) (ac (vC (.str "go")) (ac (vC (.str "fork")) ao)))))) (vB (v2 DG (aE 4 (zp (vC (.int 1)))) (gR db (ac (aj 2) ao))))) (fE "NoRow" (ac (vC (.str "a row goes on with one that is not there")) ao)) bu)
 (eJ (su (vB (v2 gu (aj 3) (v2 xI (gR db (ac (aj 2) ao)) (vC (.int 1))))) (vB (v2 jT (aE 4 (vC (.int 0))) (bg (ac (vC (.str "go")) (ac (vC (.str "back")) (ac (vC (.str "stop")) ao))))))) (fE "NoRow" (ac (vC (.str "behind the last row there is none to go on with")) ao)) bu)))))
def cP:List D->Res R:=cb iD eO
abbrev nG:Stmt:=top 21
noncomputable abbrev zK:List Str:=["text","program","names","name","rows","place"]
noncomputable abbrev sS:List Str:=["text"]
def sc_read:aP zK sS (am nG):=⟨rfl,rfl,rfl,by decide +kernel,rfl,by decide +kernel,by decide +kernel⟩
def sT:((["name","rows"]:List Str)++([]:List Str)).Nodup:=by decide +kernel
def sU:En->Res R:=λenv=>(aj 0) env
def oC:En->Res Fl:=λenv=>(Ep (aN cP (ac (aj 1) (ac (aj 2) (ac (aj 4) (ac (aj 5) ao)))))) env
def oD:En->Res Fl:=λenv=>(jg (IH (ac (gR db (ac (aj 4) ao)) ao)) (gN 5) oC) env
def E7:En->Res Fl:=
 (aG (cn 1 (aN i_ (ac (aj 0) ao)))
 (aG (bS 2 (cm 2 [] (fB (aE 1 (vC (.int 2)))) (gT 2 (ay (gN 0) (ay (gN 1) bA))) (λ_=>.ok true) sU))
 (aG (eJ (vB (v2 MV (wo (aj 2)) (gR db (ac (aj 2) ao)))) (fE "Twice" (ac (vC (.str "two procedures have one name")) ao)) bu)
 (aG (eJ (vB (v2 jT (vC (.str "main")) (aj 2))) (fE "NoName" (ac (vC (.str "no procedure is main")) ao)) bu)
 (aG (jg (fB (aE 1 (vC (.int 2)))) (gT 2 (ay (gN 3) (ay (gN 4) bA))) oD)
 (aX (aj 1)))))))
def wC:List D->Res R:=cb zK E7
abbrev dn:Stmt:=top 46
noncomputable abbrev lE:List Str:=["_law_program_here","_law_parts","_law_name","_law_rows"]
noncomputable abbrev gC:List Str:=["_law_program_here"]
def sc__law_text:aP lE gC (am dn):=⟨rfl,rfl,rfl,by decide +kernel,rfl,by decide +kernel,by decide +kernel⟩
def qX:((["_law_row_here"]:List Str)++([]:List Str)).Nodup:=by decide +kernel
def qY:((["_law_word"]:List Str)++([]:List Str)).Nodup:=by decide +kernel
def jj:En->Res R:=λenv=>(gR uf (ac (aj 0) ao)) env
def d3:En->Res R:=λenv=>(x8 (vC (.str " ")) (cm 1 [] (fB (aj 0)) (gN 0) (λ_=>.ok true) jj)) env
def gx:En->Res Fl:=λenv=>(xN 1 (v2 bn (v2 bn (aj 2) (vC (.str ": "))) (x8 (vC (.str ", ")) (cm 1 [] (fB (aj 3)) (gN 0) (λ_=>.ok true) d3)))) env
def qo:En->Res Fl:=
 (aG (bS 1 (cH (ac (v2 bn (v2 bn (v2 bn (vC (.str "values ")) (gR uf (ac (aE 0 (vC (.int 0))) ao))) (vC (.str " "))) (gR uf (ac (aE 0 (vC (.int 1))) ao))) ao)))
 (aG (jg (fB (aE 0 (vC (.int 2)))) (gT 2 (ay (gN 2) (ay (gN 3) bA))) gx)
 (aX (x8 (vC (.str "; ")) (aj 1)))))
def ja:List D->Res R:=cb lE qo
abbrev ga:Stmt:=top 23
noncomputable abbrev sV:List Str:=["program","name","row","first","other","rows"]
noncomputable abbrev iE:List Str:=["program","name","row"]
def sc_point_of:aP sV iE (am ga):=⟨rfl,rfl,rfl,by decide +kernel,rfl,by decide +kernel,by decide +kernel⟩
def fN:En->Res Fl:=λenv=>
 (aG (eJ (vB (v2 gu (aj 4) (aj 1))) (aG (eJ (xJ (vB (v2 MV (aj 2) (vC (.int 0)))) (vB (v2 DG (aj 2) (gR db (ac (aj 5) ao))))) (fE "NoRow" (ac (vC (.str "the procedure has no row of this number")) ao)) bu)
 (aX (v2 bn (aj 3) (aj 2)))) bu)
 (bS 3 (v2 bn (aj 3) (gR db (ac (aj 5) ao))))) env
def sW:En->Res Fl:=
 (aG (bS 3 (vC (.int 0)))
 (aG (jg (fB (aE 0 (vC (.int 2)))) (gT 2 (ay (gN 4) (ay (gN 5) bA))) fN)
 (fE "NoName" (ac (vC (.str "no procedure has this name")) ao))))
def iF:List D->Res R:=cb sV sW
abbrev bX:Stmt:=top 25
noncomputable abbrev iG:List Str:=["program"]
noncomputable abbrev dq:List Str:=["program"]
def qZ:aP iG dq (am bX):=⟨rfl,rfl,rfl,by decide +kernel,rfl,by decide +kernel,by decide +kernel⟩
def iH:((["name","rows"]:List Str)++(["program"]:List Str)).Nodup:=by decide +kernel
def gb:En->Res R:=λenv=>(bg (ac (aj 0) (ac (aN iF (ac (aj 2) (ac (aj 0) (ac (vC (.int 0)) ao)))) ao))) env
def lF:En->Res Fl:=(aX (gR sC (ac (cm 2 [0] (fB (aE 0 (vC (.int 2)))) (gT 2 (ay (gN 0) (ay (gN 1) bA))) (λ_=>.ok true) gb) ao)))
def fP:List D->Res R:=cb iG lF
abbrev hJ:Stmt:=top 24
noncomputable abbrev vg:List Str:=["program","point","own"]
noncomputable abbrev jD:List Str:=["program","point","own"]
def zL:aP vg jD (am hJ):=⟨rfl,rfl,rfl,by decide +kernel,rfl,by decide +kernel,by decide +kernel⟩
def vh:En->Res Fl:=(aX (v2 bn (v2 so (aj 1) (aE 0 (vC (.int 1)))) (aj 2)))
def dG:List D->Res R:=cb vg vh
abbrev cX:Stmt:=top 27
noncomputable abbrev mV:List Str:=["row","place","values"]
noncomputable abbrev d4:List Str:=["row","place","values"]
def sX:aP mV d4 (am cX):=⟨rfl,rfl,rfl,by decide +kernel,rfl,by decide +kernel,by decide +kernel⟩
def jk:En->Res Fl:=
 (aG (eJ (vB (v2 gu (aE 0 (vC (.int 0))) (vC (.str "go")))) (aX (cH (ac (aE 0 (vC (.int 1))) ao))) bu)
 (aG (eJ (vB (v2 gu (aE 0 (vC (.int 0))) (vC (.str "fork")))) (aX (cH (ac (v2 bn (aj 1) (vC (.int 1))) (ac (aE 0 (vC (.int 1))) ao)))) bu)
 (aG (eJ (su (vB (v2 gu (aE 0 (vC (.int 0))) (vC (.str "if")))) (vB (v2 gu (aE 2 (Ef [("shared",0),("own",1)] (aE 0 (vC (.int 1))))) (aE 0 (vC (.int 2)))))) (aX (cH (ac (aE 0 (vC (.int 3))) ao))) bu)
 (aX (cH (ac (v2 bn (aj 1) (vC (.int 1))) ao))))))
def d5:List D->Res R:=cb mV jk
abbrev cY:Stmt:=top 26
noncomputable abbrev mW:List Str:=["row","value","count"]
noncomputable abbrev d6:List Str:=["row","value","count"]
def sY:aP mW d6 (am cY):=⟨rfl,rfl,rfl,by decide +kernel,rfl,by decide +kernel,by decide +kernel⟩
def jl:En->Res Fl:=
 (aG (eJ (vB (v2 gu (aE 0 (vC (.int 0))) (vC (.str "set")))) (aX (cH (ac (aE 0 (vC (.int 2))) ao))) bu)
 (aG (eJ (vB (v2 gu (aE 0 (vC (.int 0))) (vC (.str "turn")))) (aX (cH (ac (v2 ub (v2 bn (aj 1) (vC (.int 1))) (aj 2)) ao))) bu)
 (aX (gR rG (ac (aj 2) ao)))))
def d7:List D->Res R:=cb mW jl
abbrev hU:Stmt:=top 28
noncomputable abbrev vi:List Str:=["values","which","value"]
noncomputable abbrev jE:List Str:=["values","which","value"]
def zM:aP vi jE (am hU):=⟨rfl,rfl,rfl,by decide +kernel,rfl,by decide +kernel,by decide +kernel⟩
def pI:En->Res Fl:=(aX (OR (vB (v2 gu (aj 1) (vC (.int 0)))) (bg (ac (aj 2) (ac (aE 0 (vC (.int 1))) ao))) (bg (ac (aE 0 (vC (.int 0))) (ac (aj 2) ao)))))
def hW:List D->Res R:=cb vi pI
abbrev eZ:Stmt:=top 29
noncomputable abbrev mh:List Str:=["program","row","place","values","which","made"]
noncomputable abbrev jF:List Str:=["program","row","place","values"]
def sc_goes_on:aP mh jF (am eZ):=⟨rfl,rfl,rfl,by decide +kernel,rfl,by decide +kernel,by decide +kernel⟩
def uq:((["other"]:List Str)++(["values"]:List Str)).Nodup:=by decide +kernel
def ur:((["value"]:List Str)++(["place","values","which"]:List Str)).Nodup:=by decide +kernel
def lG:En->Res R:=λenv=>(bg (ac (aj 0) (ac (aj 1) ao))) env
def gD:En->Res R:=λenv=>(bg (ac (v2 bn (aj 1) (vC (.int 1))) (ac (aN hW (ac (aj 2) (ac (aj 3) (ac (aj 0) ao)))) ao))) env
def mj:En->Res Fl:=
 (aG (eJ (vB (v2 jT (aE 1 (vC (.int 0))) (bg (ac (vC (.str "set")) (ac (vC (.str "any")) (ac (vC (.str "turn")) ao)))))) (aX (cm 1 [3] (fB (aN d5 (ac (aj 1) (ac (aj 2) (ac (aj 3) ao))))) (gN 0) (λ_=>.ok true) lG)) bu)
 (aG (bS 4 (Ef [("shared",0),("own",1)] (aE 1 (vC (.int 1)))))
 (aG (cn 5 (aN d7 (ac (aj 1) (ac (aE 3 (aj 4)) (ac (aE 0 (aj 4)) ao)))))
 (aX (cm 1 [2,3,4] (fB (aj 5)) (gN 0) (λ_=>.ok true) gD)))))
def h7:List D->Res R:=cb mh mj
abbrev eQ:Stmt:=top 30
noncomputable abbrev nH:List Str:=["program","firsts","first","row","place","values","called","ahead"]
noncomputable abbrev iI:List Str:=["program","firsts","first","row","place","values"]
def sc_leads_to:aP nH iI (am eQ):=⟨rfl,rfl,rfl,by decide +kernel,rfl,by decide +kernel,by decide +kernel⟩
def lH:((["other","there"]:List Str)++(["program","first"]:List Str)).Nodup:=by decide +kernel
def j7:En->Res R:=λenv=>(bg (ac (aE 1 (vC (.int 0))) (ac (bg (ac (aN dG (ac (aj 2) (ac (v2 bn (aj 3) (aj 0)) (ac (aE 1 (vC (.int 1))) ao)))) ao)) ao))) env
def nI:En->Res Fl:=
 (aG (eJ (vB (v2 gu (aE 3 (vC (.int 0))) (vC (.str "stop")))) (aX (cH ao)) bu)
 (aG (eJ (vB (v2 gu (aE 3 (vC (.int 0))) (vC (.str "back")))) (aX (cH (ac (bg (ac (aE 5 (vC (.int 0))) (ac (bg ao) ao))) ao))) bu)
 (aG (eJ (vB (v2 gu (aE 3 (vC (.int 0))) (vC (.str "call")))) (aG (cn 6 (aN dG (ac (aj 0) (ac (v2 sB (aj 1) (aE 3 (vC (.int 1)))) (ac (aE 5 (vC (.int 1))) ao)))))
 (aX (cH (ac (bg (ac (aE 5 (vC (.int 0))) (ac (bg (ac (aj 6) (ac (aN dG (ac (aj 0) (ac (v2 bn (v2 bn (aj 2) (aj 4)) (vC (.int 1))) (ac (aE 5 (vC (.int 1))) ao)))) ao))) ao))) ao)))) bu)
 (aG (cn 7 (aN h7 (ac (aj 0) (ac (aj 3) (ac (aj 4) (ac (aj 5) ao))))))
 (aX (cm 2 [0,2] (fB (aj 7)) (gT 2 (ay (gN 0) (ay (gN 1) bA))) (λ_=>.ok true) j7))))))
def iJ:List D->Res R:=cb nH nI
abbrev eR:Stmt:=top 31
noncomputable abbrev nJ:List Str:=["program","firsts","first","row","place","rules","own","sign","shared","ahead"]
noncomputable abbrev iL:List Str:=["program","firsts","first","row","place"]
def sc_rules_at:aP nJ iL (am eR):=⟨rfl,rfl,rfl,by decide +kernel,rfl,by decide +kernel,by decide +kernel⟩
def lI:((["room","put"]:List Str)++(["sign","shared"]:List Str)).Nodup:=by decide +kernel
def j8:En->Res R:=λenv=>(bg (ac (aj 3) (ac (aj 2) (ac (aj 0) (ac (aj 1) ao))))) env
def gV:En->Res Fl:=λenv=>
 (aG (cn 9 (aN iJ (ac (aj 0) (ac (aj 1) (ac (aj 2) (ac (aj 3) (ac (aj 4) (ac (bg (ac (aj 8) (ac (aj 6) ao))) ao))))))))
 (D8 5 (cm 2 [7,8] (fB (aj 9)) (gT 2 (ay (gN 0) (ay (gN 1) bA))) (λ_=>.ok true) j8))) env
def j9:En->Res Fl:=λenv=>
 (aG (cn 7 (aN dG (ac (aj 0) (ac (v2 bn (aj 2) (aj 4)) (ac (aj 6) ao)))))
 (jg (IH (ac (aE 0 (vC (.int 0))) ao)) (gN 8) gV)) env
def sZ:En->Res Fl:=
 (aG (bS 5 (cH ao))
 (aG (jg (IH (ac (aE 0 (vC (.int 1))) ao)) (gN 6) j9)
 (aX (aj 5))))
def j_:List D->Res R:=cb nJ sZ
abbrev eS:Stmt:=top 32
noncomputable abbrev nK:List Str:=["program","firsts","rules","name","rows","place","row","points"]
noncomputable abbrev iM:List Str:=["program"]
def sc_house_of:aP nK iM (am eS):=⟨rfl,rfl,rfl,by decide +kernel,rfl,by decide +kernel,by decide +kernel⟩
def lJ:((["name","rows"]:List Str)++([]:List Str)).Nodup:=by decide +kernel
def gW:En->Res Fl:=λenv=>(x0 2 (aN j_ (ac (aj 0) (ac (aj 1) (ac (v2 sB (aj 1) (aj 3)) (ac (aj 6) (ac (aj 5) ao))))))) env
def gX:En->Res Fl:=λenv=>(jg (uW (ac (aj 4) ao)) (gT 2 (ay (gN 5) (ay (gN 6) bA))) gW) env
def kc:En->Res R:=λenv=>(gR db (ac (aj 1) ao)) env
def s_:En->Res Fl:=
 (aG (cn 1 (aN fP (ac (aj 0) ao)))
 (aG (bS 2 (cH ao))
 (aG (jg (fB (aE 0 (vC (.int 2)))) (gT 2 (ay (gN 3) (ay (gN 4) bA))) gX)
 (aG (bS 7 (gR G2 (ac (cm 2 [] (fB (aE 0 (vC (.int 2)))) (gT 2 (ay (gN 0) (ay (gN 1) bA))) (λ_=>.ok true) kc) ao)))
 (aX (bg (ac (aE 0 (vC (.int 0))) (ac (aN dG (ac (aj 0) (ac (aj 7) (ac (vC (.int 0)) ao)))) (ac (aj 2) ao)))))))))
def ke:List D->Res R:=cb nK s_
abbrev e_:Stmt:=top 33
noncomputable abbrev qp:List Str:=["program"]
noncomputable abbrev gE:List Str:=["program"]
def wD:aP qp gE (am e_):=⟨rfl,rfl,rfl,by decide +kernel,rfl,by decide +kernel,by decide +kernel⟩
def qq:En->Res Fl:=(aX (bg (ac (vC (.int 0)) (ac (cH (ac (aN dG (ac (aj 0) (ac (aN iF (ac (aj 0) (ac (vC (.str "main")) (ac (vC (.int 0)) ao)))) (ac (vC (.int 0)) ao)))) ao)) ao))))
def gF:List D->Res R:=cb qp qq
abbrev dH:Stmt:=top 51
noncomputable abbrev oE:List Str:=["_law_found"]
noncomputable abbrev fQ:List Str:=["_law_found"]
def uu:aP oE fQ (am dH):=⟨rfl,rfl,rfl,by decide +kernel,rfl,by decide +kernel,by decide +kernel⟩
def oF:En->Res Fl:=(aX (BZ (v_ "int" (aj 0)) (J9 (v_ "bool" (aj 0)))))
def dI:List D->Res R:=cb oE oF
abbrev fg:Stmt:=top 50
noncomputable abbrev qu:List Str:=["_law_program_here","_law_frame","_law_count","_law_name","_law_rows"]
noncomputable abbrev gG:List Str:=["_law_program_here","_law_frame"]
def sc__law_sign:aP qu gG (am fg):=⟨rfl,rfl,rfl,by decide +kernel,rfl,by decide +kernel,by decide +kernel⟩
def d8:En->Res Fl:=λenv=>
 (aG (eJ (vB (v2 gu (aj 3) (aE 1 (vC (.int 0))))) (aX (v2 bn (v2 so (v2 bn (aj 2) (aE 1 (vC (.int 1)))) (aE 0 (vC (.int 1)))) (aE 1 (vC (.int 2))))) bu)
 (bS 2 (v2 bn (aj 2) (gR db (ac (aj 4) ao))))) env
def qx:En->Res Fl:=
 (aG (bS 2 (vC (.int 0)))
 (aG (jg (fB (aE 0 (vC (.int 2)))) (gT 2 (ay (gN 3) (ay (gN 4) bA))) d8)
 (aX (zp (vC (.int 1))))))
def jb:List D->Res R:=cb qu qx
abbrev bD:Stmt:=top 52
noncomputable abbrev eF:List Str:=["_law_found","_law_program_here","_law_now"]
noncomputable abbrev cU:List Str:=["_law_found","_law_program_here","_law_now"]
def pJ:aP eF cU (am bD):=⟨rfl,rfl,rfl,by decide +kernel,rfl,by decide +kernel,by decide +kernel⟩
def mK:((["_law_sign_here"]:List Str)++([]:List Str)).Nodup:=by decide +kernel
def mL:((["_law_frame"]:List Str)++(["_law_program_here"]:List Str)).Nodup:=by decide +kernel
def c8:En->Res R:=λenv=>(aN dI (ac (aj 0) ao)) env
def c9:En->Res R:=λenv=>(aN jb (ac (aj 1) (ac (aj 0) ao))) env
def ky:En->Res Fl:=
 (aG (eJ (xJ (mI (kQ (v_ "tuple" (aj 0)))) (xJ (vB (v2 DI (gR db (ac (aj 0) ao)) (vC (.int 2)))) (mI (kQ (v_ "list" (aE 0 (vC (.int 1)))))))) (aX (vC (.bl false))) bu)
 (aG (eJ (xJ (mI (kQ (aN dI (ac (aE 0 (vC (.int 0))) ao)))) (mI (kQ (gR zo (ac (cm 1 [] (fB (aE 0 (vC (.int 1)))) (gN 0) (λ_=>.ok true) c8) ao))))) (aX (vC (.bl false))) bu)
 (aX (BZ (v2 gu (aE 0 (vC (.int 0))) (aE 2 (vC (.int 0)))) (v2 gu (aE 0 (vC (.int 1))) (cm 1 [1] (fB (aE 2 (vC (.int 1)))) (gN 0) (λ_=>.ok true) c9))))))
def cW:List D->Res R:=cb eF ky
abbrev cx:Stmt:=top 47
noncomputable abbrev lK:List Str:=["_law_program_here","_law_name","_law_known","_law_rows"]
noncomputable abbrev dr:List Str:=["_law_program_here","_law_name"]
def sc__law_rows_of:aP lK dr (am cx):=⟨rfl,rfl,rfl,by decide +kernel,rfl,by decide +kernel,by decide +kernel⟩
def cy:En->Res Fl:=λenv=>(eJ (vB (v2 gu (aj 2) (aj 1))) (aX (aj 3)) bu) env
def lL:En->Res Fl:=
 (aG (jg (fB (aE 0 (vC (.int 2)))) (gT 2 (ay (gN 2) (ay (gN 3) bA))) cy)
 (aX (cH ao)))
def fR:List D->Res R:=cb lK lL
abbrev bY:Stmt:=top 48
noncomputable abbrev iN:List Str:=["_law_row_here","_law_now","_law_many"]
noncomputable abbrev dt:List Str:=["_law_row_here","_law_now","_law_many"]
def q_:aP iN dt (am bY):=⟨rfl,rfl,rfl,by decide +kernel,rfl,by decide +kernel,by decide +kernel⟩
def nL:((["_law_value"]:List Str)++([]:List Str)).Nodup:=by decide +kernel
def gc:En->Res R:=λenv=>(aj 0) env
def iO:En->Res Fl:=
 (aG (eJ (vB (v2 gu (aE 0 (vC (.int 0))) (vC (.str "set")))) (aX (cH (ac (aE 0 (vC (.int 2))) ao))) bu)
 (aG (eJ (vB (v2 gu (aE 0 (vC (.int 0))) (vC (.str "any")))) (aX (cm 1 [] (IH (ac (aj 2) ao)) (gN 0) (λ_=>.ok true) gc)) bu)
 (aX (cH (ac (v2 ub (v2 bn (aj 1) (vC (.int 1))) (aj 2)) ao)))))
def cz:List D->Res R:=cb iN iO
abbrev cg:Stmt:=top 49
noncomputable abbrev gY:List Str:=["_law_program_here","_law_now","_law_shared","_law_name","_law_at","_law_own","_law_rest","_law_row_here","_law_after"]
noncomputable abbrev fS:List Str:=["_law_program_here","_law_now"]
def sc__law_moves:aP gY fS (am cg):=⟨rfl,rfl,rfl,by decide +kernel,rfl,by decide +kernel,by decide +kernel⟩
def pK:((["_law_value"]:List Str)++(["_law_rest","_law_after"]:List Str)).Nodup:=by decide +kernel
def pL:((["_law_value"]:List Str)++(["_law_shared","_law_name","_law_at","_law_rest"]:List Str)).Nodup:=by decide +kernel
def iP:En->Res R:=λenv=>(bg (ac (aj 0) (ac (v2 bn (bg (ac (aj 2) ao)) (aj 1)) ao))) env
def iQ:En->Res R:=λenv=>(bg (ac (aj 1) (ac (v2 bn (bg (ac (bg (ac (aj 2) (ac (v2 bn (aj 3) (vC (.int 1))) (ac (aj 0) ao)))) ao)) (aj 4)) ao))) env
def kz:En->Res Fl:=λenv=>(aX (cm 1 [2,3,4,6] (fB (aN cz (ac (aj 7) (ac (aj 5) (ac (aE 0 (vC (.int 1))) ao))))) (gN 0) (λ_=>.ok true) iQ)) env
def eG:En->Res Fl:=λenv=>
 (aG (eJ (vB (v2 gu (aE 7 (vC (.int 1))) (vC (.str "shared")))) (aX (cm 1 [6,8] (fB (aN cz (ac (aj 7) (ac (aj 2) (ac (aE 0 (vC (.int 0))) ao))))) (gN 0) (λ_=>.ok true) iP)) bu)
 kz) env
def rf:En->Res Fl:=λenv=>
 (aG (eJ (vB (v2 gu (aE 7 (vC (.int 0))) (vC (.str "if")))) (aG (eJ (vB (v2 gu (v2 uc (cH (ac (aj 2) (ac (aj 5) ao))) (Ks (cH (ac (vC (.str "shared")) (ac (vC (.str "own")) ao))) (aE 7 (vC (.int 1))))) (aE 7 (vC (.int 2))))) (aX (cH (ac (bg (ac (aj 2) (ac (v2 bn (bg (ac (bg (ac (aj 3) (ac (aE 7 (vC (.int 3))) (ac (aj 5) ao)))) ao)) (aj 6)) ao))) ao))) bu)
 (aX (cH (ac (bg (ac (aj 2) (ac (v2 bn (bg (ac (aj 8) ao)) (aj 6)) ao))) ao)))) bu)
 eG) env
def rg:En->Res Fl:=λenv=>
 (aG (eJ (vB (v2 gu (aE 7 (vC (.int 0))) (vC (.str "fork")))) (aX (cH (ac (bg (ac (aj 2) (ac (v2 bn (bg (ac (aj 8) ao)) (aj 6)) ao))) (ac (bg (ac (aj 2) (ac (v2 bn (bg (ac (bg (ac (aj 3) (ac (aE 7 (vC (.int 1))) (ac (aj 5) ao)))) ao)) (aj 6)) ao))) ao)))) bu)
 rf) env
def rh:En->Res Fl:=λenv=>
 (aG (eJ (vB (v2 gu (aE 7 (vC (.int 0))) (vC (.str "go")))) (aX (cH (ac (bg (ac (aj 2) (ac (v2 bn (bg (ac (bg (ac (aj 3) (ac (aE 7 (vC (.int 1))) (ac (aj 5) ao)))) ao)) (aj 6)) ao))) ao))) bu)
 rg) env
def ri:En->Res Fl:=λenv=>
 (aG (eJ (vB (v2 gu (aE 7 (vC (.int 0))) (vC (.str "call")))) (aX (cH (ac (bg (ac (aj 2) (ac (v2 bn (bg (ac (bg (ac (aE 7 (vC (.int 1))) (ac (vC (.int 0)) (ac (aj 5) ao)))) (ac (aj 8) ao))) (aj 6)) ao))) ao))) bu)
 rh) env
def tf:En->Res Fl:=λenv=>
 (aG (eJ (vB (v2 gu (aE 7 (vC (.int 0))) (vC (.str "skip")))) (aX (cH (ac (bg (ac (aj 2) (ac (v2 bn (bg (ac (aj 8) ao)) (aj 6)) ao))) ao))) bu)
 ri) env
def tj:En->Res Fl:=λenv=>
 (aG (eJ (vB (v2 gu (aE 7 (vC (.int 0))) (vC (.str "back")))) (aX (cH (ac (bg (ac (aj 2) (ac (aj 6) ao))) ao))) bu)
 tf) env
def fT:En->Res Fl:=λenv=>
 (aG (eJ (vB (v2 gu (aE 7 (vC (.int 0))) (vC (.str "stop")))) (aX (cH ao)) bu)
 tj) env
def lM:En->Res Fl:=λenv=>
 (aG (bS 8 (bg (ac (aj 3) (ac (v2 bn (aj 4) (vC (.int 1))) (ac (aj 5) ao)))))
 fT) env
def lN:En->Res Fl:=λenv=>
 (aG (bS 7 (v2 uc (aN fR (ac (aj 0) (ac (aj 3) ao))) (aj 4)))
 lM) env
def lO:En->Res Fl:=λenv=>
 (aG (bS 6 (ce (aE 1 (vC (.int 1))) (fX (vC (.int 1))) gL))
 lN) env
def lP:En->Res Fl:=λenv=>
 (aG (Kb (v2 uc (aE 1 (vC (.int 1))) (vC (.int 0))) (gT 3 (ay (gN 3) (ay (gN 4) (ay (gN 5) bA)))))
 lO) env
def iR:En->Res Fl:=λenv=>
 (aG (eJ (vB (v2 gu (gR db (ac (aE 1 (vC (.int 1))) ao)) (vC (.int 0)))) (aX (cH ao)) bu)
 lP) env
def kf:En->Res Fl:=
 (aG (bS 2 (aE 1 (vC (.int 0))))
 iR)
def ci:List D->Res R:=cb gY kf
abbrev h8:Stmt:=top 35
noncomputable abbrev vj:List Str:=["rule"]
noncomputable abbrev jG:List Str:=["rule"]
def zN:aP vj jG (am h8):=⟨rfl,rfl,rfl,by decide +kernel,rfl,by decide +kernel,by decide +kernel⟩
def vk:En->Res Fl:=(aX (bg (ac (aE 0 (vC (.int 0))) (ac (aE 0 (vC (.int 1))) ao))))
def ml:List D->Res R:=cb vj vk
abbrev pM:Stmt:=top 36
noncomputable abbrev E8:List Str:=["rule","standing","stack"]
noncomputable abbrev tm:List Str:=["rule","standing"]
def sc_fits:aP E8 tm (am pM):=⟨rfl,rfl,rfl,by decide +kernel,rfl,by decide +kernel,by decide +kernel⟩
def zO:En->Res Fl:=
 (aG (bS 2 (aE 1 (vC (.int 1))))
 (aX (BZ (v2 Pw (gR db (ac (aj 2) ao)) (vC (.int 0))) (v2 gu (aN ml (ac (aj 0) ao)) (bg (ac (aE 1 (vC (.int 0))) (ac (aE 2 (vC (.int 0))) ao)))))))
def tp:List D->Res R:=cb E8 zO
abbrev h9:Stmt:=top 37
noncomputable abbrev vn:List Str:=["rule","standing"]
noncomputable abbrev jH:List Str:=["rule","standing"]
def zP:aP vn jH (am h9):=⟨rfl,rfl,rfl,by decide +kernel,rfl,by decide +kernel,by decide +kernel⟩
def vo:En->Res Fl:=(aX (bg (ac (aE 0 (vC (.int 2))) (ac (v2 bn (gR xK (ac (aE 0 (vC (.int 3))) ao)) (ce (aE 1 (vC (.int 1))) (fX (vC (.int 1))) gL)) ao))))
def mn:List D->Res R:=cb vn vo
abbrev kg:Stmt:=top 38
noncomputable abbrev wF:List Str:=["house","standing"]
noncomputable abbrev oG:List Str:=["house","standing"]
def E9:aP wF oG (am kg):=⟨rfl,rfl,rfl,by decide +kernel,rfl,by decide +kernel,by decide +kernel⟩
def qy:((["number","rule"]:List Str)++(["standing"]:List Str)).Nodup:=by decide +kernel
def mq:En->Res Bool:=λenv=>(kQ (aN tp (ac (aj 1) (ac (aj 2) ao)))) env
def mr:En->Res R:=λenv=>(bg (ac (aj 0) (ac (aN mn (ac (aj 1) (ac (aj 2) ao))) ao))) env
def A3:En->Res Fl:=(aX (cm 2 [1] (uW (ac (aE 0 (vC (.int 2))) ao)) (gT 2 (ay (gN 0) (ay (gN 1) bA))) mq mr))
def mw:List D->Res R:=cb wF A3
abbrev dJ:Stmt:=top 53
noncomputable abbrev oH:List Str:=["_law_found","_law_program_here","_law_ways","_law_count","_law_last","_law_one","_law_move"]
noncomputable abbrev fU:List Str:=["_law_found","_law_program_here","_law_ways","_law_count"]
def sc__law_steps:aP oH fU (am dJ):=⟨rfl,rfl,rfl,by decide +kernel,rfl,by decide +kernel,by decide +kernel⟩
def fV:En->Res Fl:=λenv=>
 (aG (eJ (xJ (mI (kQ (v_ "tuple" (aj 5)))) (xJ (vB (v2 DI (gR db (ac (aj 5) ao)) (vC (.int 2)))) (mI (kQ (aN dI (ac (aE 5 (vC (.int 0))) ao)))))) (aX (vC (.bl false))) bu)
 (aG (eJ (xJ (vB (v2 C1 (aE 5 (vC (.int 0))) (aj 4))) (xJ (vB (v2 DG (aE 5 (vC (.int 0))) (aj 3))) (mI (kQ (aN cW (ac (aE 5 (vC (.int 1))) (ac (aj 1) (ac (aj 6) ao)))))))) (aX (vC (.bl false))) bu)
 (bS 4 (aE 5 (vC (.int 0)))))) env
def oJ:En->Res Fl:=
 (aG (eJ (xJ (mI (kQ (v_ "list" (aj 0)))) (vB (v2 DI (gR db (ac (aj 0) ao)) (gR db (ac (aj 2) ao))))) (aX (vC (.bl false))) bu)
 (aG (bS 4 (zp (vC (.int 1))))
 (aG (jg (xY (ac (aj 0) (ac (aj 2) ao))) (gT 2 (ay (gN 5) (ay (gN 6) bA))) fV)
 (aX (vC (.bl true))))))
def dL:List D->Res R:=cb oH oJ
abbrev vp:Stmt:=top 54
noncomputable abbrev IX:List Str:=["_law_script","_law_program_here","_law_told","_law_house","_law_standing_here","_law_now","_law_cell","_law_ways","_law_found","_law_at"]
noncomputable abbrev yp:List Str:=["_law_script"]
def sc_law:aP IX yp (am vp):=⟨rfl,rfl,rfl,by decide +kernel,rfl,by decide +kernel,by decide +kernel⟩
def oK:En->Res Fl:=λenv=>
 (aG (cn 7 (aN ci (ac (aj 1) (ac (aj 5) ao))))
 (aG (cn 8 (aN mw (ac (aj 3) (ac (aj 4) ao))))
 (aG (eJ (mI (kQ (aN dL (ac (aj 8) (ac (aj 1) (ac (aj 7) (ac (gR db (ac (aE 3 (vC (.int 2))) ao)) ao))))))) (aX (vC (.bl false))) bu)
 (eJ (vB (v2 gu (gR db (ac (aj 7) ao)) (vC (.int 0)))) (aG (bS 5 (bg (ac (vC (.int 0)) (ac (bg (ac (bg (ac (vC (.str "main")) (ac (vC (.int 0)) (ac (vC (.int 0)) ao)))) ao)) ao))))
 (cn 4 (aN gF (ac (aj 2) ao)))) (aG (cn 9 (aN aT (ac (aj 6) (ac (vC (.int 1193)) (ac (gR db (ac (aj 7) ao)) ao)))))
 (aG (bS 5 (aE 7 (aj 9)))
 (bS 4 (v2 uc (aE 8 (aj 9)) (vC (.int 1)))))))))) env
def A4:En->Res Fl:=λenv=>(aX (aN dL (ac (aN mw (ac (aj 3) (ac (aj 4) ao))) (ac (aj 1) (ac (aN ci (ac (aj 1) (ac (aj 5) ao))) (ac (gR db (ac (aE 3 (vC (.int 2))) ao)) ao)))))) env
def A5:En->Res Fl:=λenv=>
 (aG (jg (fB (ce (aj 0) gL (fX (vC (.int 90))))) (gN 6) oK)
 A4) env
def A6:En->Res Fl:=λenv=>
 (aG (eJ (mI (kQ (aN cW (ac (aj 4) (ac (aj 1) (ac (aj 5) ao)))))) (aX (vC (.bl false))) bu)
 A5) env
def A7:En->Res Fl:=λenv=>
 (aG (bS 5 (bg (ac (vC (.int 0)) (ac (bg (ac (bg (ac (vC (.str "main")) (ac (vC (.int 0)) (ac (vC (.int 0)) ao)))) ao)) ao))))
 A6) env
def A8:En->Res Fl:=λenv=>
 (aG (cn 4 (aN gF (ac (aj 2) ao)))
 A7) env
def A9:En->Res Fl:=λenv=>
 (aG (cn 3 (aN ke (ac (aj 2) ao)))
 A8) env
def A_:En->Res Fl:=λenv=>
 (aG (cn 2 (aN wC (ac (aN ja (ac (aj 1) ao)) ao)))
 A9) env
def IY:En->Res Fl:=
 (aG (cn 1 (aN i9 (ac (aj 0) (ac (vC (.int 90)) ao))))
 A_)
def yq:List D->Res R:=cb IX IY
set_option genInjectivity false in
structure Tx(w:World) (K:RC) (mg:Str->Option RE) where
 f_a:Addr
 fd_a:FuncData
 h_a:Fn K mg "_law_cell_at" cp df f_a fd_a
 f_b:Addr
 fd_b:FuncData
 h_b:Fn K mg "_law_digit" dy fF f_b fd_b
 f_c:Addr
 fd_c:FuncData
 h_c:Fn K mg "_law_names" dz fG f_c fd_c
 f_d:Addr
 fd_d:FuncData
 h_d:Fn K mg "_law_row" f6 io f_d fd_d
 f_e:Addr
 fd_e:FuncData
 h_e:Fn K mg "_law_program" bU dh f_e fd_e
 f_f:Addr
 fd_f:FuncData
 h_f:Fn K mg "_law_made" eY gA f_f fd_f
 f_g:Addr
 fd_g:FuncData
 h_g:Fn K mg "words_kept" cL fK f_g fd_g
 f_h:Addr
 fd_h:FuncData
 h_h:Fn K mg "is_name" f7 jA f_h fd_h
 f_i:Addr
 fd_i:FuncData
 h_i:Fn K mg "is_count" eL iy f_i fd_i
 f_j:Addr
 fd_j:FuncData
 h_j:Fn K mg "is_meant" f9 iA f_j fd_j
 f_k:Addr
 fd_k:FuncData
 h_k:Fn K mg "has_form" eM iB f_k fd_k
 f_l:Addr
 fd_l:FuncData
 h_l:Fn K mg "form_among" dF fL f_l fd_l
 f_m:Addr
 fd_m:FuncData
 h_m:Fn K mg "row_in" jC lB f_m fd_m
 f_n:Addr
 fd_n:FuncData
 h_n:Fn K mg "procedure_in" bV dj f_n fd_n
 f_o:Addr
 fd_o:FuncData
 h_o:Fn K mg "formed_in" dk gB f_o fd_o
 f_p:Addr
 fd_p:FuncData
 h_p:Fn K mg "refuse_wrong_row" bG bW f_p fd_p
 f_q:Addr
 fd_q:FuncData
 h_q:Fn K mg "read" nG sS f_q fd_q
 f_r:Addr
 fd_r:FuncData
 h_r:Fn K mg "_law_text" dn gC f_r fd_r
 f_s:Addr
 fd_s:FuncData
 h_s:Fn K mg "point_of" ga iE f_s fd_s
 f_t:Addr
 fd_t:FuncData
 h_t:Fn K mg "first_points" bX dq f_t fd_t
 f_u:Addr
 fd_u:FuncData
 h_u:Fn K mg "sign_of" hJ jD f_u fd_u
 f_v:Addr
 fd_v:FuncData
 h_v:Fn K mg "rows_behind" cX d4 f_v fd_v
 f_w:Addr
 fd_w:FuncData
 h_w:Fn K mg "values_made" cY d6 f_w fd_w
 f_x:Addr
 fd_x:FuncData
 h_x:Fn K mg "changed" hU jE f_x fd_x
 f_y:Addr
 fd_y:FuncData
 h_y:Fn K mg "goes_on" eZ jF f_y fd_y
 f_z:Addr
 fd_z:FuncData
 h_z:Fn K mg "leads_to" eQ iI f_z fd_z
 f_A:Addr
 fd_A:FuncData
 h_A:Fn K mg "rules_at" eR iL f_A fd_A
 f_B:Addr
 fd_B:FuncData
 h_B:Fn K mg "house_of" eS iM f_B fd_B
 f_C:Addr
 fd_C:FuncData
 h_C:Fn K mg "beginning" e_ gE f_C fd_C
 f_D:Addr
 fd_D:FuncData
 h_D:Fn K mg "_law_whole" dH fQ f_D fd_D
 f_E:Addr
 fd_E:FuncData
 h_E:Fn K mg "_law_sign" fg gG f_E fd_E
 f_F:Addr
 fd_F:FuncData
 h_F:Fn K mg "_law_standing" bD cU f_F fd_F
 f_G:Addr
 fd_G:FuncData
 h_G:Fn K mg "_law_rows_of" cx dr f_G fd_G
 f_H:Addr
 fd_H:FuncData
 h_H:Fn K mg "_law_changed" bY dt f_H fd_H
 f_I:Addr
 fd_I:FuncData
 h_I:Fn K mg "_law_moves" cg fS f_I fd_I
 f_J:Addr
 fd_J:FuncData
 h_J:Fn K mg "head_of" h8 jG f_J fd_J
 f_K:Addr
 fd_K:FuncData
 h_K:Fn K mg "fits" pM tm f_K fd_K
 f_L:Addr
 fd_L:FuncData
 h_L:Fn K mg "stepped" h9 jH f_L fd_L
 f_M:Addr
 fd_M:FuncData
 h_M:Fn K mg "steps" kg oG f_M fd_M
 f_N:Addr
 fd_N:FuncData
 h_N:Fn K mg "_law_steps" dJ fU f_N fd_N
 f_O:Addr
 fd_O:FuncData
 h_O:Fn K mg "law" vp yp f_O fd_O
 xc:mg "all"=none
 Ir:mg "bool"=none
 Iz:mg "dict"=none
 g9:mg "enumerate"=none
 FW:mg "int"=none
 cj:mg "isinstance"=none
 bt:mg "len"=none
 rP:mg "list"=none
 L9:mg "max"=none
 iW:mg "range"=none
 Mb:mg "set"=none
 w_:mg "str"=none
 L7:mg "sum"=none
 tV:mg "tuple"=none
 Ar:mg "zip"=none
 oV:Addr
 Iv:XC K mg "Twice" oV
 l7:Addr
 tR:XC K mg "NoName" l7
 lU:Addr
 oY:XC K mg "NoText" lU
 jP:Addr
 CY:XC K mg "NoValue" jP
 oX:Addr
 xb:XC K mg "NoRow" oX
 CU:∃a,mg "VALUES"=some (.ref a)/\KtIs K (.tup [.str "values",.str "S",.str "S"]) (.ref a)
 Iu:∃a,mg "ROWS"=some (.ref a)/\KtIs K (.tup [.tup [.str "skip"],.tup [.str "set",.str "V",.str "N"],.tup [.str "any",.str "V"],.tup [.str "turn",.str "V"],.tup [.str "if",.str "V",.str "N",.str "K"],.tup [.str "go",.str "K"],.tup [.str "fork",.str "K"],.tup [.str "call",.str "F"],.tup [.str "back"],.tup [.str "stop"]]) (.ref a)
 CW:∀a,mg "PLACES"=some (.ref a)->(a==sysModules)=false
 mF:∃a,mg "PLACES"=some (.ref a)/\xZ w K a [("shared",0),("own",1)]
section
variable{P:RD}{w:World}{K:RC}{mg:Str->Option RE}{base:Heap}
def kA(t:Tx w K mg):bE P w K mg base (g_ P w) 1 t.f_a t.fd_a df (iZ mg 2 cq):=
 bw t.h_a.fu qV λcdv A outer s H E hr=>
  have hu:=hr.units
  (ah (aO (az (DH) (qv 1) (aQ bx (by rfl) t.bt (by decide +kernel) (aa (qv 0) af)) (aH _)) (ak (au (aM li (ap (pv 0) (qv 1) (λ_ _=>rfl)) (aM Eb ag ag)))) ax)
    (ak (au ag)))
def aU(t:Tx w K mg):bE P w K mg base (g_ P w) 1 t.f_b t.fd_b fF (iZ mg 3 aT):=
 bw t.h_b.fu uh λcdv A outer s H E hr=>
  have hu:=hr.units
  (ak (au (aM li (aM li (aM aR (aM jR (aM li (qv 0) (aM Eb ag ag)) ag) ag) (qv 1)) (qv 2))))
def uv(t:Tx w K mg):bE P w K mg base (g_ P w) 2 t.f_c t.fd_c fG (iZ mg 1 gU):=
 bw t.h_c.fu sc__law_names λcdv A outer s H E hr=>
  have hu:=hr.units
  (ah (aS sc__law_names.nd rfl (.inl rfl) (a_ af))
    (ah (aS sc__law_names.nd rfl (.inl rfl) (aM aR ag (ar (aU t) (hr.mono (by decide)) (by rfl) t.h_b aB (aa (qv 0) (aa ag (aa ag af))) (ae (ae (ae aq))))))
    (ah (aS sc__law_names.nd rfl (.inl rfl) av)
    (ah (bZ kP rfl (fZ (by rfl) t.iW (aa (qv 2) af)) (aw sc__law_names.nd rfl (.inl rfl)) (ak (aS sc__law_names.nd rfl (.inl rfl) (aM aR (qv 3) (lj av (ar (aU t) (hr.mono (by decide)) (by rfl) t.h_b aB (aa (aM aR (qv 0) (aM jR (aM jR ag (qv 4)) (qv 4))) (aa ag (aa ag af))) (ae (ae (ae aq)))) (λ_ _=>rfl))))))
    (ah (ba sc__law_names.nd rfl (.inl rfl) (ar (aU t) (hr.mono (by decide)) (by rfl) t.h_b aB (aa (qv 0) (aa ag (aa (qv 2) af))) (ae (ae (ae aq)))))
    (ah (ba sc__law_names.nd rfl (.inl rfl) (ar (aU t) (hr.mono (by decide)) (by rfl) t.h_b aB (aa (qv 0) (aa ag (aa ag af))) (ae (ae (ae aq)))))
    (ah (bZ kP rfl (fZ (by rfl) t.iW (aa (ar (aU t) (hr.mono (by decide)) (by rfl) t.h_b aB (aa (qv 0) (aa ag (aa ag af))) (ae (ae (ae aq)))) af)) (aw sc__law_names.nd rfl (.inl rfl)) (ah (aS sc__law_names.nd rfl (.inl rfl) (lj av (aM li (aM aR (qv 0) (aM jR (qv 4) (aM aR ag (aM li (aM DF (qv 0) ag) ag)))) ag) (λ_ _=>rfl)))
    (ah (aS sc__law_names.nd rfl (.inl rfl) (aM aR (aM aR (bF (qv 3) cc (bL (qv 5))) (qv 7)) (bF (qv 3) (bL (aM aR (qv 5) ag)) cc)))
    (ah (aO (az (bh hu) (qv 6) ag (aH _)) (ak (aS sc__law_names.nd rfl (.inl rfl) (aM aR av (qv 7)))) ax)
    (ah (aO (az (bh hu) (qv 6) ag (aH _)) (ak (aS sc__law_names.nd rfl (.inl rfl) (bF av cc (bL (aM aR ag (qv 4)))))) ax)
    (ak (rF (pv 1) (qv 8))))))))
    (ah (ba sc__law_names.nd rfl (.inl rfl) (ar (aU t) (hr.mono (by decide)) (by rfl) t.h_b aB (aa (qv 0) (aa ag (aa (aM aR (aQ bx (by rfl) t.bt (by decide +kernel) (aa (qv 1) af)) ag) af))) (ae (ae (ae aq)))))
    (ak (au (aM aR (aM aR (bF (qv 1) cc (bL (qv 9))) (a_ (aa av af))) (bF (qv 1) (bL (qv 9)) cc))))))))))))
def yr(t:Tx w K mg):bE P w K mg base (g_ P w) 2 t.f_d t.fd_d io (iZ mg 5 ip):=
 bw t.h_d.fu sc__law_row λcdv A outer s H E hr=>
  have hu:=hr.units
  (ah (ba sc__law_row.nd rfl (.inl rfl) (ar (aU t) (hr.mono (by decide)) (by rfl) t.h_b aB (aa (qv 0) (aa ag (aa ag af))) (ae (ae (ae aq)))))
    (ah (aO (dW (qv 4)) (ak (aS sc__law_row.nd rfl (.inl rfl) (lj (a_ (aa ag (aa ag (aa ag af)))) (ar (aU t) (hr.mono (by decide)) (by rfl) t.h_b aB (aa (qv 0) (aa ag (aa ag af))) (ae (ae (ae aq)))) (λ_ _=>rfl)))) ax)
    (ah (ba sc__law_row.nd rfl (.inl rfl) (ar (aU t) (hr.mono (by decide)) (by rfl) t.h_b aB (aa (qv 0) (aa ag (aa ag af))) (ae (ae (ae aq)))))
    (ah (aS sc__law_row.nd rfl (.inl rfl) (lj (a_ (aa av (aa av af))) (qv 6) (λ_ _=>rfl)))
    (ah (ba sc__law_row.nd rfl (.inl rfl) (ar (aU t) (hr.mono (by decide)) (by rfl) t.h_b aB (aa (qv 0) (aa ag (aa (ap (pv 1) (qv 6) (λ_ _=>rfl)) af))) (ae (ae (ae aq)))))
    (ah (ba sc__law_row.nd rfl (.inl rfl) (ar (aU t) (hr.mono (by decide)) (by rfl) t.h_b aB (aa (qv 0) (aa ag (aa (qv 2) af))) (ae (ae (ae aq)))))
    (ah (aO (az (sq) (qv 5) ag (aH _)) (ak (au (aF (aa av (aa (ap (pv 3) (ar (aU t) (hr.mono (by decide)) (by rfl) t.h_b aB (aa (qv 0) (aa ag (aa (aQ bx (by rfl) t.bt (by decide +kernel) (aa (qv 3) af)) af))) (ae (ae (ae aq)))) (λ_ _=>rfl)) af))))) ax)
    (ah (aO (PWD.pt (eI (az (bh hu) (qv 5) ag (aH _)) (d_ (az (bh hu) (qv 5) ag (aH _))))) (ak (au (aF (aa av (aa (qv 7) (aa (qv 8) af)))))) ax)
    (ah (aO (PWD.pt (eI (az (bh hu) (qv 5) ag (aH _)) (d_ (az (bh hu) (qv 5) ag (aH _))))) (ak (au (aF (aa (lj (a_ (aa av (aa av af))) (aM pw (qv 5) ag) (λ_ _=>rfl)) (aa (qv 7) af))))) ax)
    (ah (aO (PWD.pt (eI (az (bh hu) (qv 5) ag (aH _)) (d_ (az (bh hu) (qv 5) ag (aH _))))) (ak (au (aF (aa av (aa (qv 7) (aa (qv 8) (aa (qv 9) af))))))) ax)
    (ah (aO (PWD.pt (l9 (az (sq) (qv 5) ag (aH _)) (jo (az (uP) (qv 5) ag (aH _))))) (ak (au (aF (aa (lj (a_ (aa av (aa av (aa av af)))) (aM pw (qv 5) ag) (λ_ _=>rfl)) (aa (qv 9) af))))) ax)
    (ah (aO (az (sq) (qv 5) ag (aH _)) (ak (au (aF (aa (lj (a_ (aa av (aa av af))) (aM pw (qv 5) ag) (λ_ _=>rfl)) af)))) ax)
    (ak (au (aF (aa av af))))))))))))))))
def rj(t:Tx w K mg):bE P w K mg base (g_ P w) 3 t.f_e t.fd_e dh (iZ mg 4 fJ):=
 bw t.h_e.fu sc__law_program λcdv A outer s H E hr=>
  have hu:=hr.units
  (ah (G4 rfl (bq.of (osc:=am bU) (N:=ir) (tN:=["_law_name"]) (capN:=[]) (caps:=[]) rfl rfl (by decide +kernel)) sc__law_program.nd rfl rfl (br (qv 2)) (λcl C s3 H3 fp=>Au nB rfl (.inl rfl)) (by decide))
    (ah (bZ kP rfl (br (qv 0)) (aw sc__law_program.nd rfl (.inl rfl)) (ak (zv (pv 4) (ar (aU t) (hr.mono (by decide)) (by rfl) t.h_b aB (aa (qv 5) (aa ag (aa (aQ bx (by rfl) t.bt (by decide +kernel) (aa (qv 2) af)) af))) (ae (ae (ae aq)))) (qv 5) (λ_ _=>rfl))))
    (ah (aS sc__law_program.nd rfl (.inl rfl) (a_ af))
    (ah (bZ kP rfl (n8 (by rfl) t.g9 (aa (qv 2) af)) (bN rfl (aD (aw sc__law_program.nd rfl (.inl rfl)) (aD (aw sc__law_program.nd rfl (.inl rfl)) bB (λ_ a _ b=>aL a b)) (λ_ a _ b=>aL a b))) (ah (aS sc__law_program.nd rfl (.inl rfl) (aM aR (ap (pv 4) (qv 7) (λ_ _=>rfl)) (a_ (aa (aM aR (qv 3) (aM jR (aM jR ag (qv 7)) (qv 7))) af))))
    (ah (aS sc__law_program.nd rfl (.inl rfl) (a_ af))
    (ah (bZ kP rfl (n8 (by rfl) t.g9 (aa (qv 9) af)) (bN rfl (aD (aw sc__law_program.nd rfl (.inl rfl)) (aD (aw sc__law_program.nd rfl (.inl rfl)) bB (λ_ a _ b=>aL a b)) (λ_ a _ b=>aL a b))) (ak (rF (pv 10) (ar (yr t) (hr.mono (by decide)) (by rfl) t.h_d aB (aa (qv 5) (aa (qv 1) (aa (aQ bx (by rfl) t.bt (by decide +kernel) (aa (qv 9) af)) (aa (qv 2) (aa (lh (bh hu) (qv 11) (aM pw (aQ bx (by rfl) t.bt (by decide +kernel) (aa (qv 9) af)) ag) (aH _)) af))))) (ae (ae (ae (ae (ae aq)))))))))
    (ak (rF (pv 6) (aF (aa (qv 8) (aa (qv 10) af)))))))))
    (ak (au (aF (aa (ap (pv 1) ag (λ_ _=>rfl)) (aa (ap (pv 1) ag (λ_ _=>rfl)) (aa (qv 6) af))))))))))
def wG(t:Tx w K mg):bE P w K mg base (g_ P w) 4 t.f_f t.fd_f gA (iZ mg 2 i9):=
 bw t.h_f.fu sc__law_made λcdv A outer s H E hr=>
  have hu:=hr.units
  (ah (ba sc__law_made.nd rfl (.inl rfl) (ar (kA t) (hr.mono (by decide)) (by rfl) t.h_a aB (aa (qv 0) (aa ag af)) (ae (ae aq))))
    (ah (aS sc__law_made.nd rfl (.inl rfl) (a_ (aa (aM aR ag (ar (aU t) (hr.mono (by decide)) (by rfl) t.h_b aB (aa (qv 2) (aa ag (aa ag af))) (ae (ae (ae aq))))) (aa (aM aR ag (ar (aU t) (hr.mono (by decide)) (by rfl) t.h_b aB (aa (qv 2) (aa ag (aa ag af))) (ae (ae (ae aq))))) af))))
    (ah (ba sc__law_made.nd rfl (.inl rfl) (ar (uv t) (hr.mono (by decide)) (by rfl) t.h_c aB (aa (ar (kA t) (hr.mono (by decide)) (by rfl) t.h_a aB (aa (qv 0) (aa ag af)) (ae (ae aq))) af) (ae aq)))
    (ah (aS sc__law_made.nd rfl (.inl rfl) (aQ (Ki (by rfl)) (by rfl) t.L9 (by decide +kernel) (aa ag (aa (aM pw (aM DF (qv 1) (aM jR (ap (pv 3) ag (λ_ _=>rfl)) (ap (pv 3) ag (λ_ _=>rfl)))) ag) af))))
    (ak (au (ar (rj t) (hr.mono (by decide)) (by rfl) t.h_e aB (aa (bF (qv 0) (bL ag) (bL (aM aR ag (qv 5)))) (aa (qv 3) (aa (qv 4) (aa (qv 2) af)))) (ae (ae (ae (ae aq)))))))))))
def mX(t:Tx w K mg):bE P w K mg base (g_ P w) 1 t.f_g t.fd_g fK (iZ mg 2 dE):=
 bw t.h_g.fu sc_words_kept λcdv A outer s H E hr=>
  have hu:=hr.units
  (ah (aS sc_words_kept.nd rfl (.inl rfl) (lv (qv 0) av))
    (ah (xQ rfl (bq.of (osc:=am cL) (N:=jY) (tN:=["letter","word"]) (capN:=[]) (caps:=[]) rfl rfl (by decide +kernel)) sc_words_kept.nd rfl rfl (sD (by rfl) t.Ar (aa (bF (qv 1) (bL ag) cc) (aa (bF (qv 2) (bL ag) cc) af))) (by decide) (λcl C s3 H3 fp=>(bN rfl (aD (aw jz rfl (.inl rfl)) (aD (aw jz rfl (.inl rfl)) bB (λ_ a _ b=>aL a b)) (λ_ a _ b=>aL a b)))) (λcl C s3 H3 fp=>bv) (λcl C s3 H3 fp=>(IF (az (wb hu) (qv 0) (aF (aa av (aa av af))) (by rfl)) (qv 1) (fY G8 (by rfl) t.FW (by decide +kernel) (aa (qv 1) af)))))
    (ak (au (fY D9 (by rfl) t.tV (by decide +kernel) (aa (aM aR (bF (qv 2) cc (bL ag)) (qv 3)) af))))))
def tq(t:Tx w K mg):bE P w K mg base (g_ P w) 1 t.f_h t.fd_h jA (iZ mg 1 jB):=
 bw t.h_h.fu zI λcdv A outer s H E hr=>
  have hu:=hr.units
  (ak (au (v5 (sA (uP) (uP) ag (aQ bx (by rfl) t.bt (by decide +kernel) (aa (qv 0) af)) ag) (ss (aQ (wa (by rfl)) (by rfl) t.xc (by decide +kernel) (aa (bO rfl (bq.of (osc:=am f7) (N:=pH) (tN:=["sign"]) (capN:=[]) (caps:=[]) rfl rfl (by decide +kernel)) (x9 (qv 0)) (by decide) (λcl C s3 H3 fp=>(aw um rfl (.inl rfl))) (λcl C s3 H3 fp=>bv) (λcl C s3 H3 fp=>(sA (wj) (wj) av (qv 0) av))) af))))))
def yt(t:Tx w K mg):bE P w K mg base (g_ P w) 1 t.f_i t.fd_i iy (iZ mg 1 iz):=
 bw t.h_i.fu yj λcdv A outer s H E hr=>
  have hu:=hr.units
  (ah (aO (PWD.pt (eI (c7 (Cg (uP) (uP) ag (aQ bx (by rfl) t.bt (by decide +kernel) (aa (qv 0) af)) ag)) (d_ (c7 (dW (aQ (wa (by rfl)) (by rfl) t.xc (by decide +kernel) (aa (bO rfl (bq.of (osc:=am eL) (N:=nC) (tN:=["sign"]) (capN:=[]) (caps:=[]) rfl rfl (by decide +kernel)) (x9 (qv 0)) (by decide) (λcl C s3 H3 fp=>(aw sQ rfl (.inl rfl))) (λcl C s3 H3 fp=>bv) (λcl C s3 H3 fp=>(sA (wj) (wj) av (qv 0) av))) af))))))) (ak (au mR)) ax)
    (ak (au (MY (lh (bh hu) (qv 0) av (aH _)) (ss (lh (sr hu) (ap (pv 0) ag (λ_ _=>rfl)) av (aH _)))))))
def yu(t:Tx w K mg):bE P w K mg base (g_ P w) 2 t.f_j t.fd_j iA (iZ mg 2 cM):=
 bw t.h_j.fu yk λcdv A outer s H E hr=>
  have hu:=hr.units
  (ah (aO (az (bh hu) (qv 0) av (aH _)) (ak (au (ar (tq t) (hr.mono (by decide)) (by rfl) t.h_h aB (aa (qv 1) af) (ae aq)))) ax)
    (ah (aO (az (bh hu) (qv 0) av (aH _)) (ak (au (Em (by rfl) t.mF t.CW (qv 1)))) ax)
    (ah (aO (az (bh hu) (qv 0) av (aH _)) (ak (au (lh (wb hu) (qv 1) (aF (aa av (aa av (aa av (aa av af))))) (by rfl)))) ax)
    (ak (au (ar (yt t) (hr.mono (by decide)) (by rfl) t.h_i aB (aa (qv 1) af) (ae aq)))))))
def yw(t:Tx w K mg):bE P w K mg base (g_ P w) 3 t.f_k t.fd_k iB (iZ mg 2 di):=
 bw t.h_k.fu ym λcdv A outer s H E hr=>
  have hu:=hr.units
  (ah (aO (PWD.pt (eI (az (sr hu) (aQ bx (by rfl) t.bt (by decide +kernel) (aa (qv 0) af)) (aQ bx (by rfl) t.bt (by decide +kernel) (aa (qv 1) af)) (aH _)) (d_ (az (sr hu) (ap (pv 0) ag (λ_ _=>rfl)) (ap (pv 1) ag (λ_ _=>rfl)) (aH _))))) (ak (au mR)) ax)
    (ak (au (aQ (wa (by rfl)) (by rfl) t.xc (by decide +kernel) (aa (bO rfl (bq.of (osc:=am eM) (N:=nE) (tN:=["letter","word"]) (capN:=[]) (caps:=[]) rfl rfl (by decide +kernel)) (sD (by rfl) t.Ar (aa (bF (qv 1) (bL ag) cc) (aa (bF (qv 0) (bL ag) cc) af))) (by decide) (λcl C s3 H3 fp=>(bN rfl (aD (aw lA rfl (.inl rfl)) (aD (aw lA rfl (.inl rfl)) bB (λ_ a _ b=>aL a b)) (λ_ a _ b=>aL a b)))) (λcl C s3 H3 fp=>bv) (λcl C s3 H3 fp=>(ar (yu t) (hr.mono (by decide)) (by rfl) t.h_j mS (aa (qv 0) (aa (qv 1) af)) (ae (ae aq))))) af)))))
def mY(t:Tx w K mg):bE P w K mg base (g_ P w) 4 t.f_l t.fd_l fL (iZ mg 2 cO):=
 bw t.h_l.fu sc_form_among λcdv A outer s H E hr=>
  have hu:=hr.units
  (ah (aS sc_form_among.nd rfl (.inl rfl) (lv (qv 0) av))
    (ah (bZ kP rfl (br (qv 1)) (aw sc_form_among.nd rfl (.inl rfl)) (ak (aO (dW (ar (yw t) (hr.mono (by decide)) (by rfl) t.h_k aB (aa (qv 2) (aa (qv 3) af)) (ae (ae aq)))) (ak (au (qv 3))) ax)))
    (ak (b7 t.oY (by rfl) (aa av af)))))
def Cy(t:Tx w K mg):bE P w K mg base (g_ P w) 5 t.f_m t.fd_m lB (iZ mg 1 oB):=
 bw t.h_m.fu Cw λcdv A outer s H E hr=>
  have hu:=hr.units
  (ak (au (ar (mX t) (hr.mono (by decide)) (by rfl) t.h_g aB (aa (qv 0) (aa (ar (mY t) (hr.mono (by decide)) (by rfl) t.h_l aB (aa (qv 0) (aa (IK (by rfl) t.Iu) af)) (ae (ae aq))) af)) (ae (ae aq)))))
def rn(t:Tx w K mg):bE P w K mg base (g_ P w) 6 t.f_n t.fd_n dj (iZ mg 1 fM):=
 bw t.h_n.fu sc_procedure_in λcdv A outer s H E hr=>
  have hu:=hr.units
  (ah (aS sc_procedure_in.nd rfl (.inl rfl) (lv (qv 0) av))
    (ah (aO (PWD.pt (eI (az (sr hu) (aQ bx (by rfl) t.bt (by decide +kernel) (aa (qv 1) af)) ag (aH _)) (d_ (c7 (dW (ar (tq t) (hr.mono (by decide)) (by rfl) t.h_h aB (aa (ap (pv 1) ag (λ_ _=>rfl)) af) (ae aq))))))) (ak (b7 t.oY (by rfl) (aa av af))) ax)
    (ak (au (aF (aa (ap (pv 1) ag (λ_ _=>rfl)) (aa (bO rfl (bq.of (osc:=am bV) (N:=iC) (tN:=["row"]) (capN:=[]) (caps:=[]) rfl rfl (by decide +kernel)) (br (lv (ap (pv 1) ag (λ_ _=>rfl)) av)) (by decide) (λcl C s3 H3 fp=>(aw nF rfl (.inl rfl))) (λcl C s3 H3 fp=>bv) (λcl C s3 H3 fp=>(ar (Cy t) (hr.mono (by decide)) (by rfl) t.h_m mS (aa (qv 0) af) (ae aq)))) af)))))))
def wH(t:Tx w K mg):bE P w K mg base (g_ P w) 7 t.f_o t.fd_o gB (iZ mg 1 i_):=
 bw t.h_o.fu sc_formed_in λcdv A outer s H E hr=>
  have hu:=hr.units
  (ah (aO (c7 (dW (ny DU (by rfl) t.cj (by rfl) t.w_ (by decide +kernel) (qv 0)))) (ak (b7 t.oY (by rfl) (aa av af))) ax)
    (ah (aS sc_formed_in.nd rfl (.inl rfl) (lv (qv 0) av))
    (ah (ba sc_formed_in.nd rfl (.inl rfl) (ar (mX t) (hr.mono (by decide)) (by rfl) t.h_g aB (aa (ap (pv 1) ag (λ_ _=>rfl)) (aa (ar (mY t) (hr.mono (by decide)) (by rfl) t.h_l aB (aa (ap (pv 1) ag (λ_ _=>rfl)) (aa (aF (aa (IK (by rfl) t.CU) af)) af)) (ae (ae aq))) af)) (ae (ae aq))))
    (ah (aO (az (bh hu) (aQ bx (by rfl) t.bt (by decide +kernel) (aa (qv 1) af)) ag (aH _)) (ak (b7 t.oY (by rfl) (aa av af))) ax)
    (ak (au (aF (aa (ap (pv 2) ag (λ_ _=>rfl)) (aa (ap (pv 2) ag (λ_ _=>rfl)) (aa (bO rfl (bq.of (osc:=am dk) (N:=lD) (tN:=["part"]) (capN:=[]) (caps:=[]) rfl rfl (by decide +kernel)) (br (bF (qv 1) (bL ag) cc)) (by decide) (λcl C s3 H3 fp=>(aw qW rfl (.inl rfl))) (λcl C s3 H3 fp=>bv) (λcl C s3 H3 fp=>(ar (rn t) (hr.mono (by decide)) (by rfl) t.h_n mS (aa (qv 0) af) (ae aq)))) af))))))))))
def mM(t:Tx w K mg):bE P w K mg base (g_ P w) 1 t.f_p t.fd_p bW (iZ mg 4 cP):=
 bw t.h_p.fu sc_refuse_wrong_row λcdv A outer s H E hr=>
  have hu:=hr.units
  (ah (aS sc_refuse_wrong_row.nd rfl (.inl rfl) (ap (pv 2) (qv 3) (λ_ _=>rfl)))
    (ah (aO (PWD.pt (l9 (az (bh hu) (ap (pv 4) ag (λ_ _=>rfl)) av (aH _)) (jo (az (l_ hu) (ap (pv 4) ag (λ_ _=>rfl)) (qv 1) (by rfl))))) (ak (b7 t.tR (by rfl) (aa av af))) ax)
    (ah (aO (PWD.pt (l9 (az (wb hu) (ap (pv 4) ag (λ_ _=>rfl)) (aF (aa av (aa av af))) (by rfl)) (jo (az (sq) (ap (pv 4) ag (λ_ _=>rfl)) (ap (pv 0) (zx (by rfl) t.mF (ap (pv 4) ag (λ_ _=>rfl)) (λ_ _=>rfl)) (λ_ _=>rfl)) (aH _))))) (ak (b7 t.CY (by rfl) (aa av af))) ax)
    (ah (aO (PWD.pt (l9 (az (wb hu) (ap (pv 4) ag (λ_ _=>rfl)) (aF (aa av (aa av (aa av af)))) (by rfl)) (jo (az (sq) (ap (pv 4) (zq ag) (λ_ _=>rfl)) (aQ bx (by rfl) t.bt (by decide +kernel) (aa (qv 2) af)) (aH _))))) (ak (b7 t.xb (by rfl) (aa av af))) ax)
    (ak (aO (PWD.pt (l9 (az (bh hu) (qv 3) (aM pw (aQ bx (by rfl) t.bt (by decide +kernel) (aa (qv 2) af)) ag) (aH _)) (jo (az (l_ hu) (ap (pv 4) ag (λ_ _=>rfl)) (aF (aa av (aa av (aa av af)))) (by rfl))))) (ak (b7 t.xb (by rfl) (aa av af))) ax))))))
def HJ(t:Tx w K mg):bE P w K mg base (g_ P w) 8 t.f_q t.fd_q sS (iZ mg 1 wC):=
 bw t.h_q.fu sc_read λcdv A outer s H E hr=>
  have hu:=hr.units
  (ah (ba sc_read.nd rfl (.inl rfl) (ar (wH t) (hr.mono (by decide)) (by rfl) t.h_o aB (aa (qv 0) af) (ae aq)))
    (ah (xQ rfl (bq.of (osc:=am nG) (N:=zK) (tN:=["name","rows"]) (capN:=[]) (caps:=[]) rfl rfl (by decide +kernel)) sc_read.nd rfl rfl (br (ap (pv 1) ag (λ_ _=>rfl))) (by decide) (λcl C s3 H3 fp=>(bN rfl (aD (aw sT rfl (.inl rfl)) (aD (aw sT rfl (.inl rfl)) bB (λ_ a _ b=>aL a b)) (λ_ a _ b=>aL a b)))) (λcl C s3 H3 fp=>bv) (λcl C s3 H3 fp=>(qv 0)))
    (ah (aO (az (DH) (Cs (by rfl) (qv 2) (by rfl) t.bt (by decide +kernel) (by rfl) t.Mb (by decide +kernel)) (aQ bx (by rfl) t.bt (by decide +kernel) (aa (qv 2) af)) (aH _)) (ak (b7 t.Iv (by rfl) (aa av af))) ax)
    (ah (aO (az (l_ hu) av (qv 2) (by rfl)) (ak (b7 t.tR (by rfl) (aa av af))) ax)
    (ah (bZ kP rfl (br (ap (pv 1) ag (λ_ _=>rfl))) (bN rfl (aD (aw sc_read.nd rfl (.inl rfl)) (aD (aw sc_read.nd rfl (.inl rfl)) bB (λ_ a _ b=>aL a b)) (λ_ a _ b=>aL a b))) (ak (bZ kP rfl (fZ (by rfl) t.iW (aa (aQ bx (by rfl) t.bt (by decide +kernel) (aa (qv 4) af)) af)) (aw sc_read.nd rfl (.inl rfl)) (ak (Er (ar (mM t) (hr.mono (by decide)) (by rfl) t.h_p aB (aa (qv 1) (aa (qv 2) (aa (qv 4) (aa (qv 5) af)))) (ae (ae (ae (ae aq))))))))))
    (ak (au (qv 1))))))))
def wI(t:Tx w K mg):bE P w K mg base (g_ P w) 1 t.f_r t.fd_r gC (iZ mg 1 ja):=
 bw t.h_r.fu sc__law_text λcdv A outer s H E hr=>
  have hu:=hr.units
  (ah (aS sc__law_text.nd rfl (.inl rfl) (a_ (aa (aM aR (aM aR (aM aR av (fY zy (by rfl) t.w_ (by decide +kernel) (aa (ap (pv 0) ag (λ_ _=>rfl)) af))) av) (fY zy (by rfl) t.w_ (by decide +kernel) (aa (ap (pv 0) ag (λ_ _=>rfl)) af))) af)))
    (ah (bZ kP rfl (br (ap (pv 0) ag (λ_ _=>rfl))) (bN rfl (aD (aw sc__law_text.nd rfl (.inl rfl)) (aD (aw sc__law_text.nd rfl (.inl rfl)) bB (λ_ a _ b=>aL a b)) (λ_ a _ b=>aL a b))) (ak (rF (pv 1) (aM aR (aM aR (qv 2) av) (wn av (bO rfl (bq.of (osc:=am dn) (N:=lE) (tN:=["_law_row_here"]) (capN:=[]) (caps:=[]) rfl rfl (by decide +kernel)) (br (qv 3)) (by decide) (λcl C s3 H3 fp=>(aw qX rfl (.inl rfl))) (λcl C s3 H3 fp=>bv) (λcl C s3 H3 fp=>(wn av (bO rfl (bq.nil (tN:=["_law_word"]) (by decide +kernel)) (br (qv 0)) (by decide) (λcl C s3 H3 fp=>(aw qY rfl (.inl rfl))) (λcl C s3 H3 fp=>bv) (λcl C s3 H3 fp=>(fY zy (by rfl) t.w_ (by decide +kernel) (aa (qv 0) af))))))))))))
    (ak (au (wn av (qv 1))))))
def qz(t:Tx w K mg):bE P w K mg base (g_ P w) 1 t.f_s t.fd_s iE (iZ mg 3 iF):=
 bw t.h_s.fu sc_point_of λcdv A outer s H E hr=>
  have hu:=hr.units
  (ah (aS sc_point_of.nd rfl (.inl rfl) ag)
    (ah (bZ kP rfl (br (ap (pv 0) ag (λ_ _=>rfl))) (bN rfl (aD (aw sc_point_of.nd rfl (.inl rfl)) (aD (aw sc_point_of.nd rfl (.inl rfl)) bB (λ_ a _ b=>aL a b)) (λ_ a _ b=>aL a b))) (ah (aO (az (bh hu) (qv 4) (qv 1) (aH _)) (ah (aO (PWD.pt (eI (az (DH) (qv 2) ag (aH _)) (d_ (az (sq) (qv 2) (aQ bx (by rfl) t.bt (by decide +kernel) (aa (qv 5) af)) (aH _))))) (ak (b7 t.xb (by rfl) (aa av af))) ax)
    (ak (au (aM aR (qv 3) (qv 2))))) ax)
    (ak (aS sc_point_of.nd rfl (.inl rfl) (aM aR (qv 3) (aQ bx (by rfl) t.bt (by decide +kernel) (aa (qv 5) af)))))))
    (ak (b7 t.tR (by rfl) (aa av af)))))
def rp(t:Tx w K mg):bE P w K mg base (g_ P w) 2 t.f_t t.fd_t dq (iZ mg 1 fP):=
 bw t.h_t.fu qZ λcdv A outer s H E hr=>
  have hu:=hr.units
  (ak (au (fY (Ea (by rfl) hu) (by rfl) t.Iz (by decide +kernel) (aa (bO rfl (bq.of (osc:=am bX) (N:=iG) (tN:=["name","rows"]) (capN:=["program"]) (caps:=[0]) rfl rfl (by decide +kernel)) (br (ap (pv 0) ag (λ_ _=>rfl))) (by decide) (λcl C s3 H3 fp=>(bN rfl (aD (aw iH rfl (.inl rfl)) (aD (aw iH rfl (.inl rfl)) bB (λ_ a _ b=>aL a b)) (λ_ a _ b=>aL a b)))) (λcl C s3 H3 fp=>bv) (λcl C s3 H3 fp=>(aF (aa (qv 0) (aa (ar (qz t) (hr.mono (by decide)) (by rfl) t.h_s mS (aa (qv 2) (aa (qv 0) (aa ag af))) (ae (ae (ae aq)))) af))))) af))))
def gd(t:Tx w K mg):bE P w K mg base (g_ P w) 1 t.f_u t.fd_u jD (iZ mg 3 dG):=
 bw t.h_u.fu zL λcdv A outer s H E hr=>
  have hu:=hr.units
  (ak (au (aM aR (aM jR (qv 1) (ap (pv 0) ag (λ_ _=>rfl))) (qv 2))))
def tu(t:Tx w K mg):bE P w K mg base (g_ P w) 1 t.f_v t.fd_v d4 (iZ mg 3 d5):=
 bw t.h_v.fu sX λcdv A outer s H E hr=>
  have hu:=hr.units
  (ah (aO (az (bh hu) (ap (pv 0) ag (λ_ _=>rfl)) av (aH _)) (ak (au (a_ (aa (ap (pv 0) ag (λ_ _=>rfl)) af)))) ax)
    (ah (aO (az (bh hu) (ap (pv 0) ag (λ_ _=>rfl)) av (aH _)) (ak (au (a_ (aa (aM aR (qv 1) ag) (aa (ap (pv 0) ag (λ_ _=>rfl)) af))))) ax)
    (ah (aO (PWD.pt (l9 (az (bh hu) (ap (pv 0) ag (λ_ _=>rfl)) av (aH _)) (jo (az (bh hu) (ap (pv 2) (zx (by rfl) t.mF (ap (pv 0) ag (λ_ _=>rfl)) (λ_ _=>rfl)) (λ_ _=>rfl)) (ap (pv 0) ag (λ_ _=>rfl)) (aH _))))) (ak (au (a_ (aa (ap (pv 0) ag (λ_ _=>rfl)) af)))) ax)
    (ak (au (a_ (aa (aM aR (qv 1) ag) af)))))))
def tv(t:Tx w K mg):bE P w K mg base (g_ P w) 1 t.f_w t.fd_w d6 (iZ mg 3 d7):=
 bw t.h_w.fu sY λcdv A outer s H E hr=>
  have hu:=hr.units
  (ah (aO (az (bh hu) (ap (pv 0) ag (λ_ _=>rfl)) av (aH _)) (ak (au (a_ (aa (ap (pv 0) ag (λ_ _=>rfl)) af)))) ax)
    (ah (aO (az (bh hu) (ap (pv 0) ag (λ_ _=>rfl)) av (aH _)) (ak (au (a_ (aa (aM li (aM aR (qv 1) ag) (qv 2)) af)))) ax)
    (ak (au (Ci (by rfl) (by rfl) t.rP (by decide +kernel) (by rfl) t.iW (aa (qv 2) af))))))
def zQ(t:Tx w K mg):bE P w K mg base (g_ P w) 1 t.f_x t.fd_x jE (iZ mg 3 hW):=
 bw t.h_x.fu zM λcdv A outer s H E hr=>
  have hu:=hr.units
  (ak (au (IF (az (bh hu) (qv 1) ag (aH _)) (aF (aa (qv 2) (aa (ap (pv 0) ag (λ_ _=>rfl)) af))) (aF (aa (ap (pv 0) ag (λ_ _=>rfl)) (aa (qv 2) af))))))
def zR(t:Tx w K mg):bE P w K mg base (g_ P w) 2 t.f_y t.fd_y jF (iZ mg 4 h7):=
 bw t.h_y.fu sc_goes_on λcdv A outer s H E hr=>
  have hu:=hr.units
  (ah (aO (az (l_ hu) (ap (pv 1) ag (λ_ _=>rfl)) (aF (aa av (aa av (aa av af)))) (by rfl)) (ak (au (bO rfl (bq.of (osc:=am eZ) (N:=mh) (tN:=["other"]) (capN:=["values"]) (caps:=[3]) rfl rfl (by decide +kernel)) (br (ar (tu t) (hr.mono (by decide)) (by rfl) t.h_v aB (aa (qv 1) (aa (qv 2) (aa (qv 3) af))) (ae (ae (ae aq))))) (by decide) (λcl C s3 H3 fp=>(aw uq rfl (.inl rfl))) (λcl C s3 H3 fp=>bv) (λcl C s3 H3 fp=>(aF (aa (qv 0) (aa (qv 1) af))))))) ax)
    (ah (aS sc_goes_on.nd rfl (.inr rfl) (zx (by rfl) t.mF (ap (pv 1) ag (λ_ _=>rfl)) (λ_ _=>rfl)))
    (ah (ba sc_goes_on.nd rfl (.inl rfl) (ar (tv t) (hr.mono (by decide)) (by rfl) t.h_w aB (aa (qv 1) (aa (ap (pv 3) (qv 4) (λ_ _=>rfl)) (aa (ap (pv 0) (qv 4) (λ_ _=>rfl)) af))) (ae (ae (ae aq)))))
    (ak (au (bO rfl (bq.of (osc:=am eZ) (N:=mh) (tN:=["value"]) (capN:=["place","values","which"]) (caps:=[2,3,4]) rfl rfl (by decide +kernel)) (br (qv 5)) (by decide) (λcl C s3 H3 fp=>(aw ur rfl (.inl rfl))) (λcl C s3 H3 fp=>bv) (λcl C s3 H3 fp=>(aF (aa (aM aR (qv 1) ag) (aa (ar (zQ t) (hr.mono (by decide)) (by rfl) t.h_x mS (aa (qv 2) (aa (qv 3) (aa (qv 0) af))) (ae (ae (ae aq)))) af))))))))))
def yx(t:Tx w K mg):bE P w K mg base (g_ P w) 3 t.f_z t.fd_z iI (iZ mg 6 iJ):=
 bw t.h_z.fu sc_leads_to λcdv A outer s H E hr=>
  have hu:=hr.units
  (ah (aO (az (bh hu) (ap (pv 3) ag (λ_ _=>rfl)) av (aH _)) (ak (au (a_ af))) ax)
    (ah (aO (az (bh hu) (ap (pv 3) ag (λ_ _=>rfl)) av (aH _)) (ak (au (a_ (aa (aF (aa (ap (pv 5) ag (λ_ _=>rfl)) (aa (aF af) af))) af)))) ax)
    (ah (aO (az (bh hu) (ap (pv 3) ag (λ_ _=>rfl)) av (aH _)) (ah (ba sc_leads_to.nd rfl (.inl rfl) (ar (gd t) (hr.mono (by decide)) (by rfl) t.h_u aB (aa (qv 0) (aa (AR hu (qv 1) (ap (pv 3) ag (λ_ _=>rfl)) (λ_ _=>rfl)) (aa (ap (pv 5) ag (λ_ _=>rfl)) af))) (ae (ae (ae aq)))))
    (ak (au (a_ (aa (aF (aa (ap (pv 5) ag (λ_ _=>rfl)) (aa (aF (aa (qv 6) (aa (ar (gd t) (hr.mono (by decide)) (by rfl) t.h_u aB (aa (qv 0) (aa (aM aR (aM aR (qv 2) (qv 4)) ag) (aa (ap (pv 5) ag (λ_ _=>rfl)) af))) (ae (ae (ae aq)))) af))) af))) af))))) ax)
    (ah (ba sc_leads_to.nd rfl (.inl rfl) (ar (zR t) (hr.mono (by decide)) (by rfl) t.h_y aB (aa (qv 0) (aa (qv 3) (aa (qv 4) (aa (qv 5) af)))) (ae (ae (ae (ae aq))))))
    (ak (au (bO rfl (bq.of (osc:=am eQ) (N:=nH) (tN:=["other","there"]) (capN:=["program","first"]) (caps:=[0,2]) rfl rfl (by decide +kernel)) (br (qv 7)) (by decide) (λcl C s3 H3 fp=>(bN rfl (aD (aw lH rfl (.inl rfl)) (aD (aw lH rfl (.inl rfl)) bB (λ_ a _ b=>aL a b)) (λ_ a _ b=>aL a b)))) (λcl C s3 H3 fp=>bv) (λcl C s3 H3 fp=>(aF (aa (ap (pv 1) ag (λ_ _=>rfl)) (aa (aF (aa (ar (gd t) (hr.mono (by decide)) (by rfl) t.h_u mS (aa (qv 2) (aa (aM aR (qv 3) (qv 0)) (aa (ap (pv 1) ag (λ_ _=>rfl)) af))) (ae (ae (ae aq)))) af)) af)))))))))))
def yz(t:Tx w K mg):bE P w K mg base (g_ P w) 4 t.f_A t.fd_A iL (iZ mg 5 j_):=
 bw t.h_A.fu sc_rules_at λcdv A outer s H E hr=>
  have hu:=hr.units
  (ah (aS sc_rules_at.nd rfl (.inl rfl) (a_ af))
    (ah (bZ kP rfl (fZ (by rfl) t.iW (aa (ap (pv 0) ag (λ_ _=>rfl)) af)) (aw sc_rules_at.nd rfl (.inl rfl)) (ah (ba sc_rules_at.nd rfl (.inr rfl) (ar (gd t) (hr.mono (by decide)) (by rfl) t.h_u aB (aa (qv 0) (aa (aM aR (qv 2) (qv 4)) (aa (qv 6) af))) (ae (ae (ae aq)))))
    (ak (bZ kP rfl (fZ (by rfl) t.iW (aa (ap (pv 0) ag (λ_ _=>rfl)) af)) (aw sc_rules_at.nd rfl (.inr rfl)) (ah (ba sc_rules_at.nd rfl (.inl rfl) (ar (yx t) (hr.mono (by decide)) (by rfl) t.h_z aB (aa (qv 0) (aa (qv 1) (aa (qv 2) (aa (qv 3) (aa (qv 4) (aa (aF (aa (qv 8) (aa (qv 6) af))) af)))))) (ae (ae (ae (ae (ae (ae aq))))))))
    (ak (GZ (pv 5) (bO rfl (bq.of (osc:=am eR) (N:=nJ) (tN:=["room","put"]) (capN:=["sign","shared"]) (caps:=[7,8]) rfl rfl (by decide +kernel)) (br (qv 9)) (by decide) (λcl C s3 H3 fp=>(bN rfl (aD (aw lI rfl (.inl rfl)) (aD (aw lI rfl (.inl rfl)) bB (λ_ a _ b=>aL a b)) (λ_ a _ b=>aL a b)))) (λcl C s3 H3 fp=>bv) (λcl C s3 H3 fp=>(aF (aa (qv 3) (aa (qv 2) (aa (qv 0) (aa (qv 1) af))))))))))))))
    (ak (au (qv 5)))))
def yA(t:Tx w K mg):bE P w K mg base (g_ P w) 5 t.f_B t.fd_B iM (iZ mg 1 ke):=
 bw t.h_B.fu sc_house_of λcdv A outer s H E hr=>
  have hu:=hr.units
  (ah (ba sc_house_of.nd rfl (.inl rfl) (ar (rp t) (hr.mono (by decide)) (by rfl) t.h_t aB (aa (qv 0) af) (ae aq)))
    (ah (aS sc_house_of.nd rfl (.inl rfl) (a_ af))
    (ah (bZ kP rfl (br (ap (pv 0) ag (λ_ _=>rfl))) (bN rfl (aD (aw sc_house_of.nd rfl (.inl rfl)) (aD (aw sc_house_of.nd rfl (.inl rfl)) bB (λ_ a _ b=>aL a b)) (λ_ a _ b=>aL a b))) (ak (bZ kP rfl (n8 (by rfl) t.g9 (aa (qv 4) af)) (bN rfl (aD (aw sc_house_of.nd rfl (.inl rfl)) (aD (aw sc_house_of.nd rfl (.inl rfl)) bB (λ_ a _ b=>aL a b)) (λ_ a _ b=>aL a b))) (ak (Eg (pv 2) (ar (yz t) (hr.mono (by decide)) (by rfl) t.h_A aB (aa (qv 0) (aa (qv 1) (aa (AR hu (qv 1) (qv 3) (λ_ _=>rfl)) (aa (qv 6) (aa (qv 5) af))))) (ae (ae (ae (ae (ae aq)))))))))))
    (ah (aS sc_house_of.nd rfl (.inl rfl) (aQ (Kq (by rfl)) (by rfl) t.L7 (by decide +kernel) (aa (bO rfl (bq.of (osc:=am eS) (N:=nK) (tN:=["name","rows"]) (capN:=[]) (caps:=[]) rfl rfl (by decide +kernel)) (br (ap (pv 0) ag (λ_ _=>rfl))) (by decide) (λcl C s3 H3 fp=>(bN rfl (aD (aw lJ rfl (.inl rfl)) (aD (aw lJ rfl (.inl rfl)) bB (λ_ a _ b=>aL a b)) (λ_ a _ b=>aL a b)))) (λcl C s3 H3 fp=>bv) (λcl C s3 H3 fp=>(aQ bx (by rfl) t.bt (by decide +kernel) (aa (qv 1) af)))) af)))
    (ak (au (aF (aa (ap (pv 0) ag (λ_ _=>rfl)) (aa (ar (gd t) (hr.mono (by decide)) (by rfl) t.h_u aB (aa (qv 0) (aa (qv 7) (aa ag af))) (ae (ae (ae aq)))) (aa (qv 2) af))))))))))
def oM(t:Tx w K mg):bE P w K mg base (g_ P w) 2 t.f_C t.fd_C gE (iZ mg 1 gF):=
 bw t.h_C.fu wD λcdv A outer s H E hr=>
  have hu:=hr.units
  (ak (au (aF (aa ag (aa (a_ (aa (ar (gd t) (hr.mono (by decide)) (by rfl) t.h_u aB (aa (qv 0) (aa (ar (qz t) (hr.mono (by decide)) (by rfl) t.h_s aB (aa (qv 0) (aa av (aa ag af))) (ae (ae (ae aq)))) (aa ag af))) (ae (ae (ae aq)))) af)) af)))))
def jm(t:Tx w K mg):bE P w K mg base (g_ P w) 1 t.f_D t.fd_D fQ (iZ mg 1 dI):=
 bw t.h_D.fu uu λcdv A outer s H E hr=>
  have hu:=hr.units
  (ak (au (v5 (ny DT (by rfl) t.cj (by rfl) t.FW (by decide +kernel) (qv 0)) (ss (J_ (ny B8 (by rfl) t.cj (by rfl) t.Ir (by decide +kernel) (qv 0)))))))
def wJ(t:Tx w K mg):bE P w K mg base (g_ P w) 1 t.f_E t.fd_E gG (iZ mg 2 jb):=
 bw t.h_E.fu sc__law_sign λcdv A outer s H E hr=>
  have hu:=hr.units
  (ah (aS sc__law_sign.nd rfl (.inl rfl) ag)
    (ah (bZ kP rfl (br (ap (pv 0) ag (λ_ _=>rfl))) (bN rfl (aD (aw sc__law_sign.nd rfl (.inl rfl)) (aD (aw sc__law_sign.nd rfl (.inl rfl)) bB (λ_ a _ b=>aL a b)) (λ_ a _ b=>aL a b))) (ah (aO (az (bh hu) (qv 3) (ap (pv 1) ag (λ_ _=>rfl)) (aH _)) (ak (au (aM aR (aM jR (aM aR (qv 2) (ap (pv 1) ag (λ_ _=>rfl))) (ap (pv 0) ag (λ_ _=>rfl))) (ap (pv 1) ag (λ_ _=>rfl))))) ax)
    (ak (aS sc__law_sign.nd rfl (.inl rfl) (aM aR (qv 2) (aQ bx (by rfl) t.bt (by decide +kernel) (aa (qv 4) af)))))))
    (ak (au (zq ag)))))
def jI(t:Tx w K mg):bE P w K mg base (g_ P w) 2 t.f_F t.fd_F cU (iZ mg 3 cW):=
 bw t.h_F.fu pJ λcdv A outer s H E hr=>
  have hu:=hr.units
  (ah (aO (PWD.pt (eI (c7 (dW (ny sx (by rfl) t.cj (by rfl) t.tV (by decide +kernel) (qv 0)))) (eI (az (sr hu) (aQ bx (by rfl) t.bt (by decide +kernel) (aa (qv 0) af)) ag (aH _)) (d_ (c7 (dW (ny uR (by rfl) t.cj (by rfl) t.rP (by decide +kernel) (ap (pv 0) ag (λ_ _=>rfl))))))))) (ak (au mR)) ax)
    (ah (aO (PWD.pt (eI (c7 (dW (ar (jm t) (hr.mono (by decide)) (by rfl) t.h_D aB (aa (ap (pv 0) ag (λ_ _=>rfl)) af) (ae aq)))) (d_ (c7 (dW (aQ (wa (by rfl)) (by rfl) t.xc (by decide +kernel) (aa (bO rfl (bq.of (osc:=am bD) (N:=eF) (tN:=["_law_sign_here"]) (capN:=[]) (caps:=[]) rfl rfl (by decide +kernel)) (br (ap (pv 0) ag (λ_ _=>rfl))) (by decide) (λcl C s3 H3 fp=>(aw mK rfl (.inl rfl))) (λcl C s3 H3 fp=>bv) (λcl C s3 H3 fp=>(ar (jm t) (hr.mono (by decide)) (by rfl) t.h_D mS (aa (qv 0) af) (ae aq)))) af))))))) (ak (au mR)) ax)
    (ak (au (v5 (lh (bh hu) (ap (pv 0) ag (λ_ _=>rfl)) (ap (pv 2) ag (λ_ _=>rfl)) (aH _)) (ss (lh (bh hu) (ap (pv 0) ag (λ_ _=>rfl)) (bO rfl (bq.of (osc:=am bD) (N:=eF) (tN:=["_law_frame"]) (capN:=["_law_program_here"]) (caps:=[1]) rfl rfl (by decide +kernel)) (br (ap (pv 2) ag (λ_ _=>rfl))) (by decide) (λcl C s3 H3 fp=>(aw mL rfl (.inl rfl))) (λcl C s3 H3 fp=>bv) (λcl C s3 H3 fp=>(ar (wJ t) (hr.mono (by decide)) (by rfl) t.h_E mS (aa (qv 1) (aa (qv 0) af)) (ae (ae aq))))) (aH _))))))))
def rq(t:Tx w K mg):bE P w K mg base (g_ P w) 1 t.f_G t.fd_G dr (iZ mg 2 fR):=
 bw t.h_G.fu sc__law_rows_of λcdv A outer s H E hr=>
  have hu:=hr.units
  (ah (bZ kP rfl (br (ap (pv 0) ag (λ_ _=>rfl))) (bN rfl (aD (aw sc__law_rows_of.nd rfl (.inl rfl)) (aD (aw sc__law_rows_of.nd rfl (.inl rfl)) bB (λ_ a _ b=>aL a b)) (λ_ a _ b=>aL a b))) (ak (aO (az (bh hu) (qv 2) (qv 1) (aH _)) (ak (au (qv 3))) ax)))
    (ak (au (a_ af))))
def kC(t:Tx w K mg):bE P w K mg base (g_ P w) 1 t.f_H t.fd_H dt (iZ mg 3 cz):=
 bw t.h_H.fu q_ λcdv A outer s H E hr=>
  have hu:=hr.units
  (ah (aO (az (bh hu) (ap (pv 0) ag (λ_ _=>rfl)) av (aH _)) (ak (au (a_ (aa (ap (pv 0) ag (λ_ _=>rfl)) af)))) ax)
    (ah (aO (az (bh hu) (ap (pv 0) ag (λ_ _=>rfl)) av (aH _)) (ak (au (bO rfl (bq.of (osc:=am bY) (N:=iN) (tN:=["_law_value"]) (capN:=[]) (caps:=[]) rfl rfl (by decide +kernel)) (fZ (by rfl) t.iW (aa (qv 2) af)) (by decide) (λcl C s3 H3 fp=>(aw nL rfl (.inl rfl))) (λcl C s3 H3 fp=>bv) (λcl C s3 H3 fp=>(qv 0))))) ax)
    (ak (au (a_ (aa (aM li (aM aR (qv 1) ag) (qv 2)) af))))))
def mZ(t:Tx w K mg):bE P w K mg base (g_ P w) 2 t.f_I t.fd_I fS (iZ mg 2 ci):=
 bw t.h_I.fu sc__law_moves λcdv A outer s H E hr=>
  have hu:=hr.units
  (ah (aS sc__law_moves.nd rfl (.inr rfl) (ap (pv 1) ag (λ_ _=>rfl)))
    (ah (aO (az (bh hu) (aQ bx (by rfl) t.bt (by decide +kernel) (aa (ap (pv 1) ag (λ_ _=>rfl)) af)) ag (aH _)) (ak (au (a_ af))) ax)
    (ah (GQ (lj (ap (pv 1) ag (λ_ _=>rfl)) ag (λ_ _=>rfl)) (bN rfl (aD (aw sc__law_moves.nd rfl (.inr rfl)) (aD (aw sc__law_moves.nd rfl (.inr rfl)) (aD (aw sc__law_moves.nd rfl (.inl rfl)) bB (λ_ a _ b=>aL a b)) (λ_ a _ b=>aL a b)) (λ_ a _ b=>aL a b))))
    (ah (aS sc__law_moves.nd rfl (.inr rfl) (bF (ap (pv 1) ag (λ_ _=>rfl)) (bL ag) cc))
    (ah (aS sc__law_moves.nd rfl (.inl rfl) (lj (ar (rq t) (hr.mono (by decide)) (by rfl) t.h_G aB (aa (qv 0) (aa (qv 3) af)) (ae (ae aq))) (qv 4) (λ_ _=>rfl)))
    (ah (aS sc__law_moves.nd rfl (.inr rfl) (aF (aa (qv 3) (aa (aM aR (qv 4) ag) (aa (qv 5) af)))))
    (ah (aO (az (bh hu) (ap (pv 7) ag (λ_ _=>rfl)) av (aH _)) (ak (au (a_ af))) ax)
    (ah (aO (az (bh hu) (ap (pv 7) ag (λ_ _=>rfl)) av (aH _)) (ak (au (a_ (aa (aF (aa (qv 2) (aa (qv 6) af))) af)))) ax)
    (ah (aO (az (bh hu) (ap (pv 7) ag (λ_ _=>rfl)) av (aH _)) (ak (au (a_ (aa (aF (aa (qv 2) (aa (aM aR (aF (aa (qv 8) af)) (qv 6)) af))) af)))) ax)
    (ah (aO (az (bh hu) (ap (pv 7) ag (λ_ _=>rfl)) av (aH _)) (ak (au (a_ (aa (aF (aa (qv 2) (aa (aM aR (aF (aa (aF (aa (ap (pv 7) ag (λ_ _=>rfl)) (aa ag (aa (qv 5) af)))) (aa (qv 8) af))) (qv 6)) af))) af)))) ax)
    (ah (aO (az (bh hu) (ap (pv 7) ag (λ_ _=>rfl)) av (aH _)) (ak (au (a_ (aa (aF (aa (qv 2) (aa (aM aR (aF (aa (aF (aa (qv 3) (aa (ap (pv 7) ag (λ_ _=>rfl)) (aa (qv 5) af)))) af)) (qv 6)) af))) af)))) ax)
    (ah (aO (az (bh hu) (ap (pv 7) ag (λ_ _=>rfl)) av (aH _)) (ak (au (a_ (aa (aF (aa (qv 2) (aa (aM aR (aF (aa (qv 8) af)) (qv 6)) af))) (aa (aF (aa (qv 2) (aa (aM aR (aF (aa (aF (aa (qv 3) (aa (ap (pv 7) ag (λ_ _=>rfl)) (aa (qv 5) af)))) af)) (qv 6)) af))) af))))) ax)
    (ah (aO (az (bh hu) (ap (pv 7) ag (λ_ _=>rfl)) av (aH _)) (ah (aO (az (bh hu) (lj (a_ (aa (qv 2) (aa (qv 5) af))) (Kt hu (a_ (aa av (aa av af))) (ap (pv 7) ag (λ_ _=>rfl))) (λ_ _=>rfl)) (ap (pv 7) ag (λ_ _=>rfl)) (aH _)) (ak (au (a_ (aa (aF (aa (qv 2) (aa (aM aR (aF (aa (aF (aa (qv 3) (aa (ap (pv 7) ag (λ_ _=>rfl)) (aa (qv 5) af)))) af)) (qv 6)) af))) af)))) ax)
    (ak (au (a_ (aa (aF (aa (qv 2) (aa (aM aR (aF (aa (qv 8) af)) (qv 6)) af))) af))))) ax)
    (ah (aO (az (bh hu) (ap (pv 7) ag (λ_ _=>rfl)) av (aH _)) (ak (au (bO rfl (bq.of (osc:=am cg) (N:=gY) (tN:=["_law_value"]) (capN:=["_law_rest","_law_after"]) (caps:=[6,8]) rfl rfl (by decide +kernel)) (br (ar (kC t) (hr.mono (by decide)) (by rfl) t.h_H aB (aa (qv 7) (aa (qv 2) (aa (ap (pv 0) ag (λ_ _=>rfl)) af))) (ae (ae (ae aq))))) (by decide) (λcl C s3 H3 fp=>(aw pK rfl (.inl rfl))) (λcl C s3 H3 fp=>bv) (λcl C s3 H3 fp=>(aF (aa (qv 0) (aa (aM aR (aF (aa (qv 2) af)) (qv 1)) af))))))) ax)
    (ak (au (bO rfl (bq.of (osc:=am cg) (N:=gY) (tN:=["_law_value"]) (capN:=["_law_shared","_law_name","_law_at","_law_rest"]) (caps:=[2,3,4,6]) rfl rfl (by decide +kernel)) (br (ar (kC t) (hr.mono (by decide)) (by rfl) t.h_H aB (aa (qv 7) (aa (qv 5) (aa (ap (pv 0) ag (λ_ _=>rfl)) af))) (ae (ae (ae aq))))) (by decide) (λcl C s3 H3 fp=>(aw pL rfl (.inl rfl))) (λcl C s3 H3 fp=>bv) (λcl C s3 H3 fp=>(aF (aa (qv 1) (aa (aM aR (aF (aa (aF (aa (qv 2) (aa (aM aR (qv 3) ag) (aa (qv 0) af)))) af)) (qv 4)) af)))))))))))))))))))))
def zS(t:Tx w K mg):bE P w K mg base (g_ P w) 1 t.f_J t.fd_J jG (iZ mg 1 ml):=
 bw t.h_J.fu zN λcdv A outer s H E hr=>
  have hu:=hr.units
  (ak (au (aF (aa (ap (pv 0) ag (λ_ _=>rfl)) (aa (ap (pv 0) ag (λ_ _=>rfl)) af)))))
def HK(t:Tx w K mg):bE P w K mg base (g_ P w) 2 t.f_K t.fd_K tm (iZ mg 2 tp):=
 bw t.h_K.fu sc_fits λcdv A outer s H E hr=>
  have hu:=hr.units
  (ah (aS sc_fits.nd rfl (.inl rfl) (ap (pv 1) ag (λ_ _=>rfl)))
    (ak (au (v5 (lh (MW) (aQ bx (by rfl) t.bt (by decide +kernel) (aa (qv 2) af)) ag (aH _)) (ss (lh (bh hu) (ar (zS t) (hr.mono (by decide)) (by rfl) t.h_J aB (aa (qv 0) af) (ae aq)) (aF (aa (ap (pv 1) ag (λ_ _=>rfl)) (aa (ap (pv 2) ag (λ_ _=>rfl)) af))) (aH _)))))))
def zT(t:Tx w K mg):bE P w K mg base (g_ P w) 1 t.f_L t.fd_L jH (iZ mg 2 mn):=
 bw t.h_L.fu zP λcdv A outer s H E hr=>
  have hu:=hr.units
  (ak (au (aF (aa (ap (pv 0) ag (λ_ _=>rfl)) (aa (aM aR (fY GM (by rfl) t.rP (by decide +kernel) (aa (ap (pv 0) ag (λ_ _=>rfl)) af)) (bF (ap (pv 1) ag (λ_ _=>rfl)) (bL ag) cc)) af)))))
def yB(t:Tx w K mg):bE P w K mg base (g_ P w) 3 t.f_M t.fd_M oG (iZ mg 2 mw):=
 bw t.h_M.fu E9 λcdv A outer s H E hr=>
  have hu:=hr.units
  (ak (au (bO rfl (bq.of (osc:=am kg) (N:=wF) (tN:=["number","rule"]) (capN:=["standing"]) (caps:=[1]) rfl rfl (by decide +kernel)) (n8 (by rfl) t.g9 (aa (ap (pv 0) ag (λ_ _=>rfl)) af)) (by decide) (λcl C s3 H3 fp=>(bN rfl (aD (aw qy rfl (.inl rfl)) (aD (aw qy rfl (.inl rfl)) bB (λ_ a _ b=>aL a b)) (λ_ a _ b=>aL a b)))) (λcl C s3 H3 fp=>(DR (dW (ar (HK t) (hr.mono (by decide)) (by rfl) t.h_K mS (aa (qv 1) (aa (qv 2) af)) (ae (ae aq)))))) (λcl C s3 H3 fp=>(aF (aa (qv 0) (aa (ar (zT t) (hr.mono (by decide)) (by rfl) t.h_L mS (aa (qv 1) (aa (qv 2) af)) (ae (ae aq))) af)))))))
def m5(t:Tx w K mg):bE P w K mg base (g_ P w) 3 t.f_N t.fd_N fU (iZ mg 4 dL):=
 bw t.h_N.fu sc__law_steps λcdv A outer s H E hr=>
  have hu:=hr.units
  (ah (aO (PWD.pt (eI (c7 (dW (ny uR (by rfl) t.cj (by rfl) t.rP (by decide +kernel) (qv 0)))) (d_ (az (sr hu) (aQ bx (by rfl) t.bt (by decide +kernel) (aa (qv 0) af)) (aQ bx (by rfl) t.bt (by decide +kernel) (aa (qv 2) af)) (aH _))))) (ak (au mR)) ax)
    (ah (aS sc__law_steps.nd rfl (.inl rfl) (zq ag))
    (ah (bZ kP rfl (sD (by rfl) t.Ar (aa (qv 0) (aa (qv 2) af))) (bN rfl (aD (aw sc__law_steps.nd rfl (.inl rfl)) (aD (aw sc__law_steps.nd rfl (.inl rfl)) bB (λ_ a _ b=>aL a b)) (λ_ a _ b=>aL a b))) (ah (aO (PWD.pt (eI (c7 (dW (ny sx (by rfl) t.cj (by rfl) t.tV (by decide +kernel) (qv 5)))) (eI (az (sr hu) (aQ bx (by rfl) t.bt (by decide +kernel) (aa (qv 5) af)) ag (aH _)) (d_ (c7 (dW (ar (jm t) (hr.mono (by decide)) (by rfl) t.h_D aB (aa (ap (pv 5) ag (λ_ _=>rfl)) af) (ae aq)))))))) (ak (au mR)) ax)
    (ah (aO (PWD.pt (eI (az (uP) (ap (pv 5) ag (λ_ _=>rfl)) (qv 4) (aH _)) (eI (az (sq) (ap (pv 5) ag (λ_ _=>rfl)) (qv 3) (aH _)) (d_ (c7 (dW (ar (jI t) (hr.mono (by decide)) (by rfl) t.h_F aB (aa (ap (pv 5) ag (λ_ _=>rfl)) (aa (qv 1) (aa (qv 6) af))) (ae (ae (ae aq)))))))))) (ak (au mR)) ax)
    (ak (aS sc__law_steps.nd rfl (.inl rfl) (ap (pv 5) ag (λ_ _=>rfl)))))))
    (ak (au mR)))))
def Ll(t:Tx w K mg):bE P w K mg base (g_ P w) 9 t.f_O t.fd_O yp (iZ mg 1 yq):=
 bw t.h_O.fu sc_law λcdv A outer s H E hr=>
  have hu:=hr.units
  (ah (ba sc_law.nd rfl (.inl rfl) (ar (wG t) (hr.mono (by decide)) (by rfl) t.h_f aB (aa (qv 0) (aa ag af)) (ae (ae aq))))
    (ah (ba sc_law.nd rfl (.inl rfl) (ar (HJ t) (hr.mono (by decide)) (by rfl) t.h_q aB (aa (ar (wI t) (hr.mono (by decide)) (by rfl) t.h_r aB (aa (qv 1) af) (ae aq)) af) (ae aq)))
    (ah (ba sc_law.nd rfl (.inl rfl) (ar (yA t) (hr.mono (by decide)) (by rfl) t.h_B aB (aa (qv 2) af) (ae aq)))
    (ah (ba sc_law.nd rfl (.inl rfl) (ar (oM t) (hr.mono (by decide)) (by rfl) t.h_C aB (aa (qv 2) af) (ae aq)))
    (ah (aS sc_law.nd rfl (.inl rfl) (aF (aa ag (aa (aF (aa (aF (aa av (aa ag (aa ag af)))) af)) af))))
    (ah (aO (c7 (dW (ar (jI t) (hr.mono (by decide)) (by rfl) t.h_F aB (aa (qv 4) (aa (qv 1) (aa (qv 5) af))) (ae (ae (ae aq)))))) (ak (au mR)) ax)
    (ah (bZ kP rfl (br (bF (qv 0) cc (bL ag))) (aw sc_law.nd rfl (.inl rfl)) (ah (ba sc_law.nd rfl (.inl rfl) (ar (mZ t) (hr.mono (by decide)) (by rfl) t.h_I aB (aa (qv 1) (aa (qv 5) af)) (ae (ae aq))))
    (ah (ba sc_law.nd rfl (.inl rfl) (ar (yB t) (hr.mono (by decide)) (by rfl) t.h_M aB (aa (qv 3) (aa (qv 4) af)) (ae (ae aq))))
    (ah (aO (c7 (dW (ar (m5 t) (hr.mono (by decide)) (by rfl) t.h_N aB (aa (qv 8) (aa (qv 1) (aa (qv 7) (aa (aQ bx (by rfl) t.bt (by decide +kernel) (aa (ap (pv 3) ag (λ_ _=>rfl)) af)) af)))) (ae (ae (ae (ae aq))))))) (ak (au mR)) ax)
    (ak (aO (az (bh hu) (aQ bx (by rfl) t.bt (by decide +kernel) (aa (qv 7) af)) ag (aH _)) (ah (aS sc_law.nd rfl (.inl rfl) (aF (aa ag (aa (aF (aa (aF (aa av (aa ag (aa ag af)))) af)) af))))
    (ak (ba sc_law.nd rfl (.inl rfl) (ar (oM t) (hr.mono (by decide)) (by rfl) t.h_C aB (aa (qv 2) af) (ae aq))))) (ah (ba sc_law.nd rfl (.inl rfl) (ar (aU t) (hr.mono (by decide)) (by rfl) t.h_b aB (aa (qv 6) (aa ag (aa (aQ bx (by rfl) t.bt (by decide +kernel) (aa (qv 7) af)) af))) (ae (ae (ae aq)))))
    (ah (aS sc_law.nd rfl (.inl rfl) (ap (pv 7) (qv 9) (λ_ _=>rfl)))
    (ak (aS sc_law.nd rfl (.inl rfl) (lj (ap (pv 8) (qv 9) (λ_ _=>rfl)) ag (λ_ _=>rfl))))))))))))
    (ak (au (ar (m5 t) (hr.mono (by decide)) (by rfl) t.h_N aB (aa (ar (yB t) (hr.mono (by decide)) (by rfl) t.h_M aB (aa (qv 3) (aa (qv 4) af)) (ae (ae aq))) (aa (qv 1) (aa (ar (mZ t) (hr.mono (by decide)) (by rfl) t.h_I aB (aa (qv 1) (aa (qv 5) af)) (ae (ae aq))) (aa (aQ bx (by rfl) t.bt (by decide +kernel) (aa (ap (pv 3) ag (λ_ _=>rfl)) af)) af)))) (ae (ae (ae (ae aq))))))))))))))
end
def P4{Q:List RE->Prop}{us:List RE}(hl:us.length=0)(h:Q []):Q us:=by
 cases us with
 |nil=>exact h
 |cons a r=>cases hl
def Cz{Q:List RE->Prop}{us:List RE}{n:Nat}(hl:us.length=n+1)(h:∀(a:RE)(r:List RE),r.length=n->Q (a::r)):Q us:=by
 cases us with
 |nil=>cases hl
 |cons a r=>exact h a r (Nat.succ.inj hl)
def nM{Q:List RE->Prop}{us:List RE}(hl:us.length=1)(h:∀a0:RE,Q [a0]):Q us:=Cz hl λa r q=>P4 (Q:=λr=>Q (a::r)) q (h a)
def pN{Q:List RE->Prop}{us:List RE}(hl:us.length=2)(h:∀a0 a1:RE,Q [a0,a1]):Q us:=Cz hl λa r q=>nM (Q:=λr=>Q (a::r)) q (h a)
def wK{Q:List RE->Prop}{us:List RE}(hl:us.length=3)(h:∀a0 a1 a2:RE,Q [a0,a1,a2]):Q us:=Cz hl λa r q=>pN (Q:=λr=>Q (a::r)) q (h a)
def E_{Q:List RE->Prop}{us:List RE}(hl:us.length=4)(h:∀a0 a1 a2 a3:RE,Q [a0,a1,a2,a3]):Q us:=Cz hl λa r q=>wK (Q:=λr=>Q (a::r)) q (h a)
def Lm{Q:List RE->Prop}{us:List RE}(hl:us.length=5)(h:∀a0 a1 a2 a3 a4:RE,Q [a0,a1,a2,a3,a4]):Q us:=Cz hl λa r q=>E_ (Q:=λr=>Q (a::r)) q (h a)
def P5{Q:List RE->Prop}{us:List RE}(hl:us.length=6)(h:∀a0 a1 a2 a3 a4 a5:RE,Q [a0,a1,a2,a3,a4,a5]):Q us:=Cz hl λa r q=>Lm (Q:=λr=>Q (a::r)) q (h a)
def N9{w:World}{K KK:RC}{mg:Str->Option RE}{h:Heap}(X:K.In h)(G:h.Ns mainGlobals mg)(U:nQ K KK)
 {f_a:Addr} {od_a an_a:Option Addr} {sl_a:Array (Option RE)} {oc_a kV_a dc_a pm_a cd_a ct_a:RE}
 (a_a:nsIn K mainGlobals "_law_cell_at"=some (some (.ref f_a))) (l_a:K.lookup f_a=some ⟨oc_a,od_a,.func (fnOf "_law_cell_at" "_law_cell_at" (aK cp) (aI cp) (am cp) .none kV_a dc_a pm_a an_a cd_a ct_a),sl_a⟩) (c_a:codeIn K cd_a "_law_cell_at"=true)
 {f_b:Addr} {od_b an_b:Option Addr} {sl_b:Array (Option RE)} {oc_b kV_b dc_b pm_b cd_b ct_b:RE}
 (a_b:nsIn K mainGlobals "_law_digit"=some (some (.ref f_b))) (l_b:K.lookup f_b=some ⟨oc_b,od_b,.func (fnOf "_law_digit" "_law_digit" (aK dy) (aI dy) (am dy) .none kV_b dc_b pm_b an_b cd_b ct_b),sl_b⟩) (c_b:codeIn K cd_b "_law_digit"=true)
 {f_c:Addr} {od_c an_c:Option Addr} {sl_c:Array (Option RE)} {oc_c kV_c dc_c pm_c cd_c ct_c:RE}
 (a_c:nsIn K mainGlobals "_law_names"=some (some (.ref f_c))) (l_c:K.lookup f_c=some ⟨oc_c,od_c,.func (fnOf "_law_names" "_law_names" (aK dz) (aI dz) (am dz) .none kV_c dc_c pm_c an_c cd_c ct_c),sl_c⟩) (c_c:codeIn K cd_c "_law_names"=true)
 {f_d:Addr} {od_d an_d:Option Addr} {sl_d:Array (Option RE)} {oc_d kV_d dc_d pm_d cd_d ct_d:RE}
 (a_d:nsIn K mainGlobals "_law_row"=some (some (.ref f_d))) (l_d:K.lookup f_d=some ⟨oc_d,od_d,.func (fnOf "_law_row" "_law_row" (aK f6) (aI f6) (am f6) .none kV_d dc_d pm_d an_d cd_d ct_d),sl_d⟩) (c_d:codeIn K cd_d "_law_row"=true)
 {f_e:Addr} {od_e an_e:Option Addr} {sl_e:Array (Option RE)} {oc_e kV_e dc_e pm_e cd_e ct_e:RE}
 (a_e:nsIn K mainGlobals "_law_program"=some (some (.ref f_e))) (l_e:K.lookup f_e=some ⟨oc_e,od_e,.func (fnOf "_law_program" "_law_program" (aK bU) (aI bU) (am bU) .none kV_e dc_e pm_e an_e cd_e ct_e),sl_e⟩) (c_e:codeIn K cd_e "_law_program"=true)
 {f_f:Addr} {od_f an_f:Option Addr} {sl_f:Array (Option RE)} {oc_f kV_f dc_f pm_f cd_f ct_f:RE}
 (a_f:nsIn K mainGlobals "_law_made"=some (some (.ref f_f))) (l_f:K.lookup f_f=some ⟨oc_f,od_f,.func (fnOf "_law_made" "_law_made" (aK eY) (aI eY) (am eY) .none kV_f dc_f pm_f an_f cd_f ct_f),sl_f⟩) (c_f:codeIn K cd_f "_law_made"=true)
 {f_g:Addr} {od_g an_g:Option Addr} {sl_g:Array (Option RE)} {oc_g kV_g dc_g pm_g cd_g ct_g:RE}
 (a_g:nsIn K mainGlobals "words_kept"=some (some (.ref f_g))) (l_g:K.lookup f_g=some ⟨oc_g,od_g,.func (fnOf "words_kept" "words_kept" (aK cL) (aI cL) (am cL) .none kV_g dc_g pm_g an_g cd_g ct_g),sl_g⟩) (c_g:codeIn K cd_g "words_kept"=true)
 {f_h:Addr} {od_h an_h:Option Addr} {sl_h:Array (Option RE)} {oc_h kV_h dc_h pm_h cd_h ct_h:RE}
 (a_h:nsIn K mainGlobals "is_name"=some (some (.ref f_h))) (l_h:K.lookup f_h=some ⟨oc_h,od_h,.func (fnOf "is_name" "is_name" (aK f7) (aI f7) (am f7) .none kV_h dc_h pm_h an_h cd_h ct_h),sl_h⟩) (c_h:codeIn K cd_h "is_name"=true)
 {f_i:Addr} {od_i an_i:Option Addr} {sl_i:Array (Option RE)} {oc_i kV_i dc_i pm_i cd_i ct_i:RE}
 (a_i:nsIn K mainGlobals "is_count"=some (some (.ref f_i))) (l_i:K.lookup f_i=some ⟨oc_i,od_i,.func (fnOf "is_count" "is_count" (aK eL) (aI eL) (am eL) .none kV_i dc_i pm_i an_i cd_i ct_i),sl_i⟩) (c_i:codeIn K cd_i "is_count"=true)
 {f_j:Addr} {od_j an_j:Option Addr} {sl_j:Array (Option RE)} {oc_j kV_j dc_j pm_j cd_j ct_j:RE}
 (a_j:nsIn K mainGlobals "is_meant"=some (some (.ref f_j))) (l_j:K.lookup f_j=some ⟨oc_j,od_j,.func (fnOf "is_meant" "is_meant" (aK f9) (aI f9) (am f9) .none kV_j dc_j pm_j an_j cd_j ct_j),sl_j⟩) (c_j:codeIn K cd_j "is_meant"=true)
 {f_k:Addr} {od_k an_k:Option Addr} {sl_k:Array (Option RE)} {oc_k kV_k dc_k pm_k cd_k ct_k:RE}
 (a_k:nsIn K mainGlobals "has_form"=some (some (.ref f_k))) (l_k:K.lookup f_k=some ⟨oc_k,od_k,.func (fnOf "has_form" "has_form" (aK eM) (aI eM) (am eM) .none kV_k dc_k pm_k an_k cd_k ct_k),sl_k⟩) (c_k:codeIn K cd_k "has_form"=true)
 {f_l:Addr} {od_l an_l:Option Addr} {sl_l:Array (Option RE)} {oc_l kV_l dc_l pm_l cd_l ct_l:RE}
 (a_l:nsIn K mainGlobals "form_among"=some (some (.ref f_l))) (l_l:K.lookup f_l=some ⟨oc_l,od_l,.func (fnOf "form_among" "form_among" (aK dF) (aI dF) (am dF) .none kV_l dc_l pm_l an_l cd_l ct_l),sl_l⟩) (c_l:codeIn K cd_l "form_among"=true)
 {f_m:Addr} {od_m an_m:Option Addr} {sl_m:Array (Option RE)} {oc_m kV_m dc_m pm_m cd_m ct_m:RE}
 (a_m:nsIn K mainGlobals "row_in"=some (some (.ref f_m))) (l_m:K.lookup f_m=some ⟨oc_m,od_m,.func (fnOf "row_in" "row_in" (aK jC) (aI jC) (am jC) .none kV_m dc_m pm_m an_m cd_m ct_m),sl_m⟩) (c_m:codeIn K cd_m "row_in"=true)
 {f_n:Addr} {od_n an_n:Option Addr} {sl_n:Array (Option RE)} {oc_n kV_n dc_n pm_n cd_n ct_n:RE}
 (a_n:nsIn K mainGlobals "procedure_in"=some (some (.ref f_n))) (l_n:K.lookup f_n=some ⟨oc_n,od_n,.func (fnOf "procedure_in" "procedure_in" (aK bV) (aI bV) (am bV) .none kV_n dc_n pm_n an_n cd_n ct_n),sl_n⟩) (c_n:codeIn K cd_n "procedure_in"=true)
 {f_o:Addr} {od_o an_o:Option Addr} {sl_o:Array (Option RE)} {oc_o kV_o dc_o pm_o cd_o ct_o:RE}
 (a_o:nsIn K mainGlobals "formed_in"=some (some (.ref f_o))) (l_o:K.lookup f_o=some ⟨oc_o,od_o,.func (fnOf "formed_in" "formed_in" (aK dk) (aI dk) (am dk) .none kV_o dc_o pm_o an_o cd_o ct_o),sl_o⟩) (c_o:codeIn K cd_o "formed_in"=true)
 {f_p:Addr} {od_p an_p:Option Addr} {sl_p:Array (Option RE)} {oc_p kV_p dc_p pm_p cd_p ct_p:RE}
 (a_p:nsIn K mainGlobals "refuse_wrong_row"=some (some (.ref f_p))) (l_p:K.lookup f_p=some ⟨oc_p,od_p,.func (fnOf "refuse_wrong_row" "refuse_wrong_row" (aK bG) (aI bG) (am bG) .none kV_p dc_p pm_p an_p cd_p ct_p),sl_p⟩) (c_p:codeIn K cd_p "refuse_wrong_row"=true)
 {f_q:Addr} {od_q an_q:Option Addr} {sl_q:Array (Option RE)} {oc_q kV_q dc_q pm_q cd_q ct_q:RE}
 (a_q:nsIn K mainGlobals "read"=some (some (.ref f_q))) (l_q:K.lookup f_q=some ⟨oc_q,od_q,.func (fnOf "read" "read" (aK nG) (aI nG) (am nG) .none kV_q dc_q pm_q an_q cd_q ct_q),sl_q⟩) (c_q:codeIn K cd_q "read"=true)
 {f_r:Addr} {od_r an_r:Option Addr} {sl_r:Array (Option RE)} {oc_r kV_r dc_r pm_r cd_r ct_r:RE}
 (a_r:nsIn K mainGlobals "_law_text"=some (some (.ref f_r))) (l_r:K.lookup f_r=some ⟨oc_r,od_r,.func (fnOf "_law_text" "_law_text" (aK dn) (aI dn) (am dn) .none kV_r dc_r pm_r an_r cd_r ct_r),sl_r⟩) (c_r:codeIn K cd_r "_law_text"=true)
 {f_s:Addr} {od_s an_s:Option Addr} {sl_s:Array (Option RE)} {oc_s kV_s dc_s pm_s cd_s ct_s:RE}
 (a_s:nsIn K mainGlobals "point_of"=some (some (.ref f_s))) (l_s:K.lookup f_s=some ⟨oc_s,od_s,.func (fnOf "point_of" "point_of" (aK ga) (aI ga) (am ga) .none kV_s dc_s pm_s an_s cd_s ct_s),sl_s⟩) (c_s:codeIn K cd_s "point_of"=true)
 {f_t:Addr} {od_t an_t:Option Addr} {sl_t:Array (Option RE)} {oc_t kV_t dc_t pm_t cd_t ct_t:RE}
 (a_t:nsIn K mainGlobals "first_points"=some (some (.ref f_t))) (l_t:K.lookup f_t=some ⟨oc_t,od_t,.func (fnOf "first_points" "first_points" (aK bX) (aI bX) (am bX) .none kV_t dc_t pm_t an_t cd_t ct_t),sl_t⟩) (c_t:codeIn K cd_t "first_points"=true)
 {f_u:Addr} {od_u an_u:Option Addr} {sl_u:Array (Option RE)} {oc_u kV_u dc_u pm_u cd_u ct_u:RE}
 (a_u:nsIn K mainGlobals "sign_of"=some (some (.ref f_u))) (l_u:K.lookup f_u=some ⟨oc_u,od_u,.func (fnOf "sign_of" "sign_of" (aK hJ) (aI hJ) (am hJ) .none kV_u dc_u pm_u an_u cd_u ct_u),sl_u⟩) (c_u:codeIn K cd_u "sign_of"=true)
 {f_v:Addr} {od_v an_v:Option Addr} {sl_v:Array (Option RE)} {oc_v kV_v dc_v pm_v cd_v ct_v:RE}
 (a_v:nsIn K mainGlobals "rows_behind"=some (some (.ref f_v))) (l_v:K.lookup f_v=some ⟨oc_v,od_v,.func (fnOf "rows_behind" "rows_behind" (aK cX) (aI cX) (am cX) .none kV_v dc_v pm_v an_v cd_v ct_v),sl_v⟩) (c_v:codeIn K cd_v "rows_behind"=true)
 {f_w:Addr} {od_w an_w:Option Addr} {sl_w:Array (Option RE)} {oc_w kV_w dc_w pm_w cd_w ct_w:RE}
 (a_w:nsIn K mainGlobals "values_made"=some (some (.ref f_w))) (l_w:K.lookup f_w=some ⟨oc_w,od_w,.func (fnOf "values_made" "values_made" (aK cY) (aI cY) (am cY) .none kV_w dc_w pm_w an_w cd_w ct_w),sl_w⟩) (c_w:codeIn K cd_w "values_made"=true)
 {f_x:Addr} {od_x an_x:Option Addr} {sl_x:Array (Option RE)} {oc_x kV_x dc_x pm_x cd_x ct_x:RE}
 (a_x:nsIn K mainGlobals "changed"=some (some (.ref f_x))) (l_x:K.lookup f_x=some ⟨oc_x,od_x,.func (fnOf "changed" "changed" (aK hU) (aI hU) (am hU) .none kV_x dc_x pm_x an_x cd_x ct_x),sl_x⟩) (c_x:codeIn K cd_x "changed"=true)
 {f_y:Addr} {od_y an_y:Option Addr} {sl_y:Array (Option RE)} {oc_y kV_y dc_y pm_y cd_y ct_y:RE}
 (a_y:nsIn K mainGlobals "goes_on"=some (some (.ref f_y))) (l_y:K.lookup f_y=some ⟨oc_y,od_y,.func (fnOf "goes_on" "goes_on" (aK eZ) (aI eZ) (am eZ) .none kV_y dc_y pm_y an_y cd_y ct_y),sl_y⟩) (c_y:codeIn K cd_y "goes_on"=true)
 {f_z:Addr} {od_z an_z:Option Addr} {sl_z:Array (Option RE)} {oc_z kV_z dc_z pm_z cd_z ct_z:RE}
 (a_z:nsIn K mainGlobals "leads_to"=some (some (.ref f_z))) (l_z:K.lookup f_z=some ⟨oc_z,od_z,.func (fnOf "leads_to" "leads_to" (aK eQ) (aI eQ) (am eQ) .none kV_z dc_z pm_z an_z cd_z ct_z),sl_z⟩) (c_z:codeIn K cd_z "leads_to"=true)
 {f_A:Addr} {od_A an_A:Option Addr} {sl_A:Array (Option RE)} {oc_A kV_A dc_A pm_A cd_A ct_A:RE}
 (a_A:nsIn K mainGlobals "rules_at"=some (some (.ref f_A))) (l_A:K.lookup f_A=some ⟨oc_A,od_A,.func (fnOf "rules_at" "rules_at" (aK eR) (aI eR) (am eR) .none kV_A dc_A pm_A an_A cd_A ct_A),sl_A⟩) (c_A:codeIn K cd_A "rules_at"=true)
 {f_B:Addr} {od_B an_B:Option Addr} {sl_B:Array (Option RE)} {oc_B kV_B dc_B pm_B cd_B ct_B:RE}
 (a_B:nsIn K mainGlobals "house_of"=some (some (.ref f_B))) (l_B:K.lookup f_B=some ⟨oc_B,od_B,.func (fnOf "house_of" "house_of" (aK eS) (aI eS) (am eS) .none kV_B dc_B pm_B an_B cd_B ct_B),sl_B⟩) (c_B:codeIn K cd_B "house_of"=true)
 {f_C:Addr} {od_C an_C:Option Addr} {sl_C:Array (Option RE)} {oc_C kV_C dc_C pm_C cd_C ct_C:RE}
 (a_C:nsIn K mainGlobals "beginning"=some (some (.ref f_C))) (l_C:K.lookup f_C=some ⟨oc_C,od_C,.func (fnOf "beginning" "beginning" (aK e_) (aI e_) (am e_) .none kV_C dc_C pm_C an_C cd_C ct_C),sl_C⟩) (c_C:codeIn K cd_C "beginning"=true)
 {f_D:Addr} {od_D an_D:Option Addr} {sl_D:Array (Option RE)} {oc_D kV_D dc_D pm_D cd_D ct_D:RE}
 (a_D:nsIn K mainGlobals "_law_whole"=some (some (.ref f_D))) (l_D:K.lookup f_D=some ⟨oc_D,od_D,.func (fnOf "_law_whole" "_law_whole" (aK dH) (aI dH) (am dH) .none kV_D dc_D pm_D an_D cd_D ct_D),sl_D⟩) (c_D:codeIn K cd_D "_law_whole"=true)
 {f_E:Addr} {od_E an_E:Option Addr} {sl_E:Array (Option RE)} {oc_E kV_E dc_E pm_E cd_E ct_E:RE}
 (a_E:nsIn K mainGlobals "_law_sign"=some (some (.ref f_E))) (l_E:K.lookup f_E=some ⟨oc_E,od_E,.func (fnOf "_law_sign" "_law_sign" (aK fg) (aI fg) (am fg) .none kV_E dc_E pm_E an_E cd_E ct_E),sl_E⟩) (c_E:codeIn K cd_E "_law_sign"=true)
 {f_F:Addr} {od_F an_F:Option Addr} {sl_F:Array (Option RE)} {oc_F kV_F dc_F pm_F cd_F ct_F:RE}
 (a_F:nsIn K mainGlobals "_law_standing"=some (some (.ref f_F))) (l_F:K.lookup f_F=some ⟨oc_F,od_F,.func (fnOf "_law_standing" "_law_standing" (aK bD) (aI bD) (am bD) .none kV_F dc_F pm_F an_F cd_F ct_F),sl_F⟩) (c_F:codeIn K cd_F "_law_standing"=true)
 {f_G:Addr} {od_G an_G:Option Addr} {sl_G:Array (Option RE)} {oc_G kV_G dc_G pm_G cd_G ct_G:RE}
 (a_G:nsIn K mainGlobals "_law_rows_of"=some (some (.ref f_G))) (l_G:K.lookup f_G=some ⟨oc_G,od_G,.func (fnOf "_law_rows_of" "_law_rows_of" (aK cx) (aI cx) (am cx) .none kV_G dc_G pm_G an_G cd_G ct_G),sl_G⟩) (c_G:codeIn K cd_G "_law_rows_of"=true)
 {f_H:Addr} {od_H an_H:Option Addr} {sl_H:Array (Option RE)} {oc_H kV_H dc_H pm_H cd_H ct_H:RE}
 (a_H:nsIn K mainGlobals "_law_changed"=some (some (.ref f_H))) (l_H:K.lookup f_H=some ⟨oc_H,od_H,.func (fnOf "_law_changed" "_law_changed" (aK bY) (aI bY) (am bY) .none kV_H dc_H pm_H an_H cd_H ct_H),sl_H⟩) (c_H:codeIn K cd_H "_law_changed"=true)
 {f_I:Addr} {od_I an_I:Option Addr} {sl_I:Array (Option RE)} {oc_I kV_I dc_I pm_I cd_I ct_I:RE}
 (a_I:nsIn K mainGlobals "_law_moves"=some (some (.ref f_I))) (l_I:K.lookup f_I=some ⟨oc_I,od_I,.func (fnOf "_law_moves" "_law_moves" (aK cg) (aI cg) (am cg) .none kV_I dc_I pm_I an_I cd_I ct_I),sl_I⟩) (c_I:codeIn K cd_I "_law_moves"=true)
 {f_J:Addr} {od_J an_J:Option Addr} {sl_J:Array (Option RE)} {oc_J kV_J dc_J pm_J cd_J ct_J:RE}
 (a_J:nsIn K mainGlobals "head_of"=some (some (.ref f_J))) (l_J:K.lookup f_J=some ⟨oc_J,od_J,.func (fnOf "head_of" "head_of" (aK h8) (aI h8) (am h8) .none kV_J dc_J pm_J an_J cd_J ct_J),sl_J⟩) (c_J:codeIn K cd_J "head_of"=true)
 {f_K:Addr} {od_K an_K:Option Addr} {sl_K:Array (Option RE)} {oc_K kV_K dc_K pm_K cd_K ct_K:RE}
 (a_K:nsIn K mainGlobals "fits"=some (some (.ref f_K))) (l_K:K.lookup f_K=some ⟨oc_K,od_K,.func (fnOf "fits" "fits" (aK pM) (aI pM) (am pM) .none kV_K dc_K pm_K an_K cd_K ct_K),sl_K⟩) (c_K:codeIn K cd_K "fits"=true)
 {f_L:Addr} {od_L an_L:Option Addr} {sl_L:Array (Option RE)} {oc_L kV_L dc_L pm_L cd_L ct_L:RE}
 (a_L:nsIn K mainGlobals "stepped"=some (some (.ref f_L))) (l_L:K.lookup f_L=some ⟨oc_L,od_L,.func (fnOf "stepped" "stepped" (aK h9) (aI h9) (am h9) .none kV_L dc_L pm_L an_L cd_L ct_L),sl_L⟩) (c_L:codeIn K cd_L "stepped"=true)
 {f_M:Addr} {od_M an_M:Option Addr} {sl_M:Array (Option RE)} {oc_M kV_M dc_M pm_M cd_M ct_M:RE}
 (a_M:nsIn K mainGlobals "steps"=some (some (.ref f_M))) (l_M:K.lookup f_M=some ⟨oc_M,od_M,.func (fnOf "steps" "steps" (aK kg) (aI kg) (am kg) .none kV_M dc_M pm_M an_M cd_M ct_M),sl_M⟩) (c_M:codeIn K cd_M "steps"=true)
 {f_N:Addr} {od_N an_N:Option Addr} {sl_N:Array (Option RE)} {oc_N kV_N dc_N pm_N cd_N ct_N:RE}
 (a_N:nsIn K mainGlobals "_law_steps"=some (some (.ref f_N))) (l_N:K.lookup f_N=some ⟨oc_N,od_N,.func (fnOf "_law_steps" "_law_steps" (aK dJ) (aI dJ) (am dJ) .none kV_N dc_N pm_N an_N cd_N ct_N),sl_N⟩) (c_N:codeIn K cd_N "_law_steps"=true)
 {f_O:Addr} {od_O an_O:Option Addr} {sl_O:Array (Option RE)} {oc_O kV_O dc_O pm_O cd_O ct_O:RE}
 (a_O:nsIn K mainGlobals "law"=some (some (.ref f_O))) (l_O:K.lookup f_O=some ⟨oc_O,od_O,.func (fnOf "law" "law" (aK vp) (aI vp) (am vp) .none kV_O dc_O pm_O an_O cd_O ct_O),sl_O⟩) (c_O:codeIn K cd_O "law"=true)
 (z_all:nsIn K mainGlobals "all"=some none)
 (z_bool:nsIn K mainGlobals "bool"=some none)
 (z_dict:nsIn K mainGlobals "dict"=some none)
 (z_enumerate:nsIn K mainGlobals "enumerate"=some none)
 (z_int:nsIn K mainGlobals "int"=some none)
 (z_isinstance:nsIn K mainGlobals "isinstance"=some none)
 (z_len:nsIn K mainGlobals "len"=some none)
 (z_list:nsIn K mainGlobals "list"=some none)
 (z_max:nsIn K mainGlobals "max"=some none)
 (z_range:nsIn K mainGlobals "range"=some none)
 (z_set:nsIn K mainGlobals "set"=some none)
 (z_str:nsIn K mainGlobals "str"=some none)
 (z_sum:nsIn K mainGlobals "sum"=some none)
 (z_tuple:nsIn K mainGlobals "tuple"=some none)
 (z_zip:nsIn K mainGlobals "zip"=some none)
 {oV:Addr} (b_Twice:nsIn K mainGlobals "Twice"=some (some (.ref oV))) (e_Twice:excIn K oV vT "ValueError.__new__"=true)
 {l7:Addr} (b_NoName:nsIn K mainGlobals "NoName"=some (some (.ref l7))) (e_NoName:excIn K l7 vT "ValueError.__new__"=true)
 {lU:Addr} (b_NoText:nsIn K mainGlobals "NoText"=some (some (.ref lU))) (e_NoText:excIn K lU vT "ValueError.__new__"=true)
 {jP:Addr} (b_NoValue:nsIn K mainGlobals "NoValue"=some (some (.ref jP))) (e_NoValue:excIn K jP vT "ValueError.__new__"=true)
 {oX:Addr} (b_NoRow:nsIn K mainGlobals "NoRow"=some (some (.ref oX))) (e_NoRow:excIn K oX vT "ValueError.__new__"=true)
 {ad_PLACES ep_PLACES:Nat} {hs_PLACES_0 hs_PLACES_1:Int} {tk_PLACES_0 tv_PLACES_0 tk_PLACES_1 tv_PLACES_1:Tok} (g_PLACES:nsIn K mainGlobals "PLACES"=some (some (.ref ad_PLACES))) (d_PLACES:K.lookup ad_PLACES=some ⟨.type "dict",none,.dict #[⟨hs_PLACES_0,.str "shared" tk_PLACES_0,.int 0 tv_PLACES_0⟩,⟨hs_PLACES_1,.str "own" tk_PLACES_1,.int 1 tv_PLACES_1⟩] ep_PLACES,#[]⟩)
 (m_PLACES_0:hs_PLACES_0=hashStr w "shared")
 (m_PLACES_1:hs_PLACES_1=hashStr w "own")
 {ad_VALUES:Addr} (g_VALUES:nsIn K mainGlobals "VALUES"=some (some (.ref ad_VALUES))) (q_VALUES:KtIs KK (.tup [.str "values",.str "S",.str "S"]) (.ref ad_VALUES))
 {ad_ROWS:Addr} (g_ROWS:nsIn K mainGlobals "ROWS"=some (some (.ref ad_ROWS))) (q_ROWS:KtIs KK (.tup [.tup [.str "skip"],.tup [.str "set",.str "V",.str "N"],.tup [.str "any",.str "V"],.tup [.str "turn",.str "V"],.tup [.str "if",.str "V",.str "N",.str "K"],.tup [.str "go",.str "K"],.tup [.str "fork",.str "K"],.tup [.str "call",.str "F"],.tup [.str "back"],.tup [.str "stop"]]) (.ref ad_ROWS))
 (n_PLACES:(ad_PLACES==sysModules)=false)
 : ∃t:Tx w KK mg,t.f_O=f_O:=
 ⟨⟨f_a,_,aZ (st:=cp) (ps:=df) U l_a c_a (cG X G a_a) λ_ _ _ _ _ _ us hl=>pN (Q:=λus=>bindArgs _ ⟨us,[]⟩=pure (List.zip df us)) hl λ_ _=>rfl,
   f_b,_,aZ (st:=dy) (ps:=fF) U l_b c_b (cG X G a_b) λ_ _ _ _ _ _ us hl=>wK (Q:=λus=>bindArgs _ ⟨us,[]⟩=pure (List.zip fF us)) hl λ_ _ _=>rfl,
   f_c,_,aZ (st:=dz) (ps:=fG) U l_c c_c (cG X G a_c) λ_ _ _ _ _ _ us hl=>nM (Q:=λus=>bindArgs _ ⟨us,[]⟩=pure (List.zip fG us)) hl λ_=>rfl,
   f_d,_,aZ (st:=f6) (ps:=io) U l_d c_d (cG X G a_d) λ_ _ _ _ _ _ us hl=>Lm (Q:=λus=>bindArgs _ ⟨us,[]⟩=pure (List.zip io us)) hl λ_ _ _ _ _=>rfl,
   f_e,_,aZ (st:=bU) (ps:=dh) U l_e c_e (cG X G a_e) λ_ _ _ _ _ _ us hl=>E_ (Q:=λus=>bindArgs _ ⟨us,[]⟩=pure (List.zip dh us)) hl λ_ _ _ _=>rfl,
   f_f,_,aZ (st:=eY) (ps:=gA) U l_f c_f (cG X G a_f) λ_ _ _ _ _ _ us hl=>pN (Q:=λus=>bindArgs _ ⟨us,[]⟩=pure (List.zip gA us)) hl λ_ _=>rfl,
   f_g,_,aZ (st:=cL) (ps:=fK) U l_g c_g (cG X G a_g) λ_ _ _ _ _ _ us hl=>pN (Q:=λus=>bindArgs _ ⟨us,[]⟩=pure (List.zip fK us)) hl λ_ _=>rfl,
   f_h,_,aZ (st:=f7) (ps:=jA) U l_h c_h (cG X G a_h) λ_ _ _ _ _ _ us hl=>nM (Q:=λus=>bindArgs _ ⟨us,[]⟩=pure (List.zip jA us)) hl λ_=>rfl,
   f_i,_,aZ (st:=eL) (ps:=iy) U l_i c_i (cG X G a_i) λ_ _ _ _ _ _ us hl=>nM (Q:=λus=>bindArgs _ ⟨us,[]⟩=pure (List.zip iy us)) hl λ_=>rfl,
   f_j,_,aZ (st:=f9) (ps:=iA) U l_j c_j (cG X G a_j) λ_ _ _ _ _ _ us hl=>pN (Q:=λus=>bindArgs _ ⟨us,[]⟩=pure (List.zip iA us)) hl λ_ _=>rfl,
   f_k,_,aZ (st:=eM) (ps:=iB) U l_k c_k (cG X G a_k) λ_ _ _ _ _ _ us hl=>pN (Q:=λus=>bindArgs _ ⟨us,[]⟩=pure (List.zip iB us)) hl λ_ _=>rfl,
   f_l,_,aZ (st:=dF) (ps:=fL) U l_l c_l (cG X G a_l) λ_ _ _ _ _ _ us hl=>pN (Q:=λus=>bindArgs _ ⟨us,[]⟩=pure (List.zip fL us)) hl λ_ _=>rfl,
   f_m,_,aZ (st:=jC) (ps:=lB) U l_m c_m (cG X G a_m) λ_ _ _ _ _ _ us hl=>nM (Q:=λus=>bindArgs _ ⟨us,[]⟩=pure (List.zip lB us)) hl λ_=>rfl,
   f_n,_,aZ (st:=bV) (ps:=dj) U l_n c_n (cG X G a_n) λ_ _ _ _ _ _ us hl=>nM (Q:=λus=>bindArgs _ ⟨us,[]⟩=pure (List.zip dj us)) hl λ_=>rfl,
   f_o,_,aZ (st:=dk) (ps:=gB) U l_o c_o (cG X G a_o) λ_ _ _ _ _ _ us hl=>nM (Q:=λus=>bindArgs _ ⟨us,[]⟩=pure (List.zip gB us)) hl λ_=>rfl,
   f_p,_,aZ (st:=bG) (ps:=bW) U l_p c_p (cG X G a_p) λ_ _ _ _ _ _ us hl=>E_ (Q:=λus=>bindArgs _ ⟨us,[]⟩=pure (List.zip bW us)) hl λ_ _ _ _=>rfl,
   f_q,_,aZ (st:=nG) (ps:=sS) U l_q c_q (cG X G a_q) λ_ _ _ _ _ _ us hl=>nM (Q:=λus=>bindArgs _ ⟨us,[]⟩=pure (List.zip sS us)) hl λ_=>rfl,
   f_r,_,aZ (st:=dn) (ps:=gC) U l_r c_r (cG X G a_r) λ_ _ _ _ _ _ us hl=>nM (Q:=λus=>bindArgs _ ⟨us,[]⟩=pure (List.zip gC us)) hl λ_=>rfl,
   f_s,_,aZ (st:=ga) (ps:=iE) U l_s c_s (cG X G a_s) λ_ _ _ _ _ _ us hl=>wK (Q:=λus=>bindArgs _ ⟨us,[]⟩=pure (List.zip iE us)) hl λ_ _ _=>rfl,
   f_t,_,aZ (st:=bX) (ps:=dq) U l_t c_t (cG X G a_t) λ_ _ _ _ _ _ us hl=>nM (Q:=λus=>bindArgs _ ⟨us,[]⟩=pure (List.zip dq us)) hl λ_=>rfl,
   f_u,_,aZ (st:=hJ) (ps:=jD) U l_u c_u (cG X G a_u) λ_ _ _ _ _ _ us hl=>wK (Q:=λus=>bindArgs _ ⟨us,[]⟩=pure (List.zip jD us)) hl λ_ _ _=>rfl,
   f_v,_,aZ (st:=cX) (ps:=d4) U l_v c_v (cG X G a_v) λ_ _ _ _ _ _ us hl=>wK (Q:=λus=>bindArgs _ ⟨us,[]⟩=pure (List.zip d4 us)) hl λ_ _ _=>rfl,
   f_w,_,aZ (st:=cY) (ps:=d6) U l_w c_w (cG X G a_w) λ_ _ _ _ _ _ us hl=>wK (Q:=λus=>bindArgs _ ⟨us,[]⟩=pure (List.zip d6 us)) hl λ_ _ _=>rfl,
   f_x,_,aZ (st:=hU) (ps:=jE) U l_x c_x (cG X G a_x) λ_ _ _ _ _ _ us hl=>wK (Q:=λus=>bindArgs _ ⟨us,[]⟩=pure (List.zip jE us)) hl λ_ _ _=>rfl,
   f_y,_,aZ (st:=eZ) (ps:=jF) U l_y c_y (cG X G a_y) λ_ _ _ _ _ _ us hl=>E_ (Q:=λus=>bindArgs _ ⟨us,[]⟩=pure (List.zip jF us)) hl λ_ _ _ _=>rfl,
   f_z,_,aZ (st:=eQ) (ps:=iI) U l_z c_z (cG X G a_z) λ_ _ _ _ _ _ us hl=>P5 (Q:=λus=>bindArgs _ ⟨us,[]⟩=pure (List.zip iI us)) hl λ_ _ _ _ _ _=>rfl,
   f_A,_,aZ (st:=eR) (ps:=iL) U l_A c_A (cG X G a_A) λ_ _ _ _ _ _ us hl=>Lm (Q:=λus=>bindArgs _ ⟨us,[]⟩=pure (List.zip iL us)) hl λ_ _ _ _ _=>rfl,
   f_B,_,aZ (st:=eS) (ps:=iM) U l_B c_B (cG X G a_B) λ_ _ _ _ _ _ us hl=>nM (Q:=λus=>bindArgs _ ⟨us,[]⟩=pure (List.zip iM us)) hl λ_=>rfl,
   f_C,_,aZ (st:=e_) (ps:=gE) U l_C c_C (cG X G a_C) λ_ _ _ _ _ _ us hl=>nM (Q:=λus=>bindArgs _ ⟨us,[]⟩=pure (List.zip gE us)) hl λ_=>rfl,
   f_D,_,aZ (st:=dH) (ps:=fQ) U l_D c_D (cG X G a_D) λ_ _ _ _ _ _ us hl=>nM (Q:=λus=>bindArgs _ ⟨us,[]⟩=pure (List.zip fQ us)) hl λ_=>rfl,
   f_E,_,aZ (st:=fg) (ps:=gG) U l_E c_E (cG X G a_E) λ_ _ _ _ _ _ us hl=>pN (Q:=λus=>bindArgs _ ⟨us,[]⟩=pure (List.zip gG us)) hl λ_ _=>rfl,
   f_F,_,aZ (st:=bD) (ps:=cU) U l_F c_F (cG X G a_F) λ_ _ _ _ _ _ us hl=>wK (Q:=λus=>bindArgs _ ⟨us,[]⟩=pure (List.zip cU us)) hl λ_ _ _=>rfl,
   f_G,_,aZ (st:=cx) (ps:=dr) U l_G c_G (cG X G a_G) λ_ _ _ _ _ _ us hl=>pN (Q:=λus=>bindArgs _ ⟨us,[]⟩=pure (List.zip dr us)) hl λ_ _=>rfl,
   f_H,_,aZ (st:=bY) (ps:=dt) U l_H c_H (cG X G a_H) λ_ _ _ _ _ _ us hl=>wK (Q:=λus=>bindArgs _ ⟨us,[]⟩=pure (List.zip dt us)) hl λ_ _ _=>rfl,
   f_I,_,aZ (st:=cg) (ps:=fS) U l_I c_I (cG X G a_I) λ_ _ _ _ _ _ us hl=>pN (Q:=λus=>bindArgs _ ⟨us,[]⟩=pure (List.zip fS us)) hl λ_ _=>rfl,
   f_J,_,aZ (st:=h8) (ps:=jG) U l_J c_J (cG X G a_J) λ_ _ _ _ _ _ us hl=>nM (Q:=λus=>bindArgs _ ⟨us,[]⟩=pure (List.zip jG us)) hl λ_=>rfl,
   f_K,_,aZ (st:=pM) (ps:=tm) U l_K c_K (cG X G a_K) λ_ _ _ _ _ _ us hl=>pN (Q:=λus=>bindArgs _ ⟨us,[]⟩=pure (List.zip tm us)) hl λ_ _=>rfl,
   f_L,_,aZ (st:=h9) (ps:=jH) U l_L c_L (cG X G a_L) λ_ _ _ _ _ _ us hl=>pN (Q:=λus=>bindArgs _ ⟨us,[]⟩=pure (List.zip jH us)) hl λ_ _=>rfl,
   f_M,_,aZ (st:=kg) (ps:=oG) U l_M c_M (cG X G a_M) λ_ _ _ _ _ _ us hl=>pN (Q:=λus=>bindArgs _ ⟨us,[]⟩=pure (List.zip oG us)) hl λ_ _=>rfl,
   f_N,_,aZ (st:=dJ) (ps:=fU) U l_N c_N (cG X G a_N) λ_ _ _ _ _ _ us hl=>E_ (Q:=λus=>bindArgs _ ⟨us,[]⟩=pure (List.zip fU us)) hl λ_ _ _ _=>rfl,
   f_O,_,aZ (st:=vp) (ps:=yp) U l_O c_O (cG X G a_O) λ_ _ _ _ _ _ us hl=>nM (Q:=λus=>bindArgs _ ⟨us,[]⟩=pure (List.zip yp us)) hl λ_=>rfl,
   gi X G z_all,
   gi X G z_bool,
   gi X G z_dict,
   gi X G z_enumerate,
   gi X G z_int,
   gi X G z_isinstance,
   gi X G z_len,
   gi X G z_list,
   gi X G z_max,
   gi X G z_range,
   gi X G z_set,
   gi X G z_str,
   gi X G z_sum,
   gi X G z_tuple,
   gi X G z_zip,
   oV,⟨cG X G b_Twice,(U.exc e_Twice).1⟩,
   l7,⟨cG X G b_NoName,(U.exc e_NoName).1⟩,
   lU,⟨cG X G b_NoText,(U.exc e_NoText).1⟩,
   jP,⟨cG X G b_NoValue,(U.exc e_NoValue).1⟩,
   oX,⟨cG X G b_NoRow,(U.exc e_NoRow).1⟩,
   ⟨_,cG X G g_VALUES,q_VALUES⟩,
   ⟨_,cG X G g_ROWS,q_ROWS⟩,
   λa e=>by rw[cG X G g_PLACES]at e;cases e;exact n_PLACES,
   ⟨_,cG X G g_PLACES,_,_,U.look _ _ d_PLACES (λ_ _ z=>nomatch z),⟨⟨m_PLACES_0,⟨_,rfl⟩,_,rfl⟩,⟨⟨m_PLACES_1,⟨_,rfl⟩,_,rfl⟩,True.intro⟩⟩,by decide⟩⟩,rfl⟩
def Ln{l:PySem.W.OpenLaw}{w:World}{K:RC}{mg:Str->Option RE}{fa:Addr}(hfa:mg "law"=some (.ref fa)) (T:∃t:Tx w K mg,True) :
 ∃fd:FuncData,(∀(s:RB)(v:RE),BindsTo s fd ⟨[v],[]⟩ [("_law_script",v)])/\∀base:Heap,bE l.prog w K mg base (g_ l.prog w) 9 fa fd ["_law_script"] (OT yq):=by
 obtain⟨t,_⟩:=T;have e:=hfa.symm.trans t.h_O.gl;cases e;obtain⟨oc,od,kV,doc,pm,an,cdv,ct,osl,efd,lk,hcd⟩:=t.h_O.fu.ex;exact⟨t.fd_O,λs v=>by rw[efd];exact .of_eq rfl,λbase=>bE.top (Ll t)⟩
def N_{K:RC}{ad_VALUES ad_ROWS ad_ROWS_0 ad_ROWS_1 ad_ROWS_2 ad_ROWS_3 ad_ROWS_4 ad_ROWS_5 ad_ROWS_6 ad_ROWS_7 ad_ROWS_8 ad_ROWS_9:Addr}
 (g_VALUES:nsIn K mainGlobals "VALUES"=some (some (.ref ad_VALUES)))
 {od_VALUES:Option Addr} {n_VALUES:Nat} {sl_VALUES:Array (Option RE)} {tk_VALUES_0 tk_VALUES_1 tk_VALUES_2:Tok} (d_VALUES:K.lookup ad_VALUES=some ⟨.type "tuple",od_VALUES,.seq #[.str "values" tk_VALUES_0,.str "S" tk_VALUES_1,.str "S" tk_VALUES_2] n_VALUES,sl_VALUES⟩)
 (g_ROWS:nsIn K mainGlobals "ROWS"=some (some (.ref ad_ROWS)))
 {od_ROWS:Option Addr} {n_ROWS:Nat} {sl_ROWS:Array (Option RE)} (d_ROWS:K.lookup ad_ROWS=some ⟨.type "tuple",od_ROWS,.seq #[.ref ad_ROWS_0,.ref ad_ROWS_1,.ref ad_ROWS_2,.ref ad_ROWS_3,.ref ad_ROWS_4,.ref ad_ROWS_5,.ref ad_ROWS_6,.ref ad_ROWS_7,.ref ad_ROWS_8,.ref ad_ROWS_9] n_ROWS,sl_ROWS⟩)
 {od_ROWS_0:Option Addr} {n_ROWS_0:Nat} {sl_ROWS_0:Array (Option RE)} {tk_ROWS_0_0:Tok} (d_ROWS_0:K.lookup ad_ROWS_0=some ⟨.type "tuple",od_ROWS_0,.seq #[.str "skip" tk_ROWS_0_0] n_ROWS_0,sl_ROWS_0⟩)
 {od_ROWS_1:Option Addr} {n_ROWS_1:Nat} {sl_ROWS_1:Array (Option RE)} {tk_ROWS_1_0 tk_ROWS_1_1 tk_ROWS_1_2:Tok} (d_ROWS_1:K.lookup ad_ROWS_1=some ⟨.type "tuple",od_ROWS_1,.seq #[.str "set" tk_ROWS_1_0,.str "V" tk_ROWS_1_1,.str "N" tk_ROWS_1_2] n_ROWS_1,sl_ROWS_1⟩)
 {od_ROWS_2:Option Addr} {n_ROWS_2:Nat} {sl_ROWS_2:Array (Option RE)} {tk_ROWS_2_0 tk_ROWS_2_1:Tok} (d_ROWS_2:K.lookup ad_ROWS_2=some ⟨.type "tuple",od_ROWS_2,.seq #[.str "any" tk_ROWS_2_0,.str "V" tk_ROWS_2_1] n_ROWS_2,sl_ROWS_2⟩)
 {od_ROWS_3:Option Addr} {n_ROWS_3:Nat} {sl_ROWS_3:Array (Option RE)} {tk_ROWS_3_0 tk_ROWS_3_1:Tok} (d_ROWS_3:K.lookup ad_ROWS_3=some ⟨.type "tuple",od_ROWS_3,.seq #[.str "turn" tk_ROWS_3_0,.str "V" tk_ROWS_3_1] n_ROWS_3,sl_ROWS_3⟩)
 {od_ROWS_4:Option Addr} {n_ROWS_4:Nat} {sl_ROWS_4:Array (Option RE)} {tk_ROWS_4_0 tk_ROWS_4_1 tk_ROWS_4_2 tk_ROWS_4_3:Tok} (d_ROWS_4:K.lookup ad_ROWS_4=some ⟨.type "tuple",od_ROWS_4,.seq #[.str "if" tk_ROWS_4_0,.str "V" tk_ROWS_4_1,.str "N" tk_ROWS_4_2,.str "K" tk_ROWS_4_3] n_ROWS_4,sl_ROWS_4⟩)
 {od_ROWS_5:Option Addr} {n_ROWS_5:Nat} {sl_ROWS_5:Array (Option RE)} {tk_ROWS_5_0 tk_ROWS_5_1:Tok} (d_ROWS_5:K.lookup ad_ROWS_5=some ⟨.type "tuple",od_ROWS_5,.seq #[.str "go" tk_ROWS_5_0,.str "K" tk_ROWS_5_1] n_ROWS_5,sl_ROWS_5⟩)
 {od_ROWS_6:Option Addr} {n_ROWS_6:Nat} {sl_ROWS_6:Array (Option RE)} {tk_ROWS_6_0 tk_ROWS_6_1:Tok} (d_ROWS_6:K.lookup ad_ROWS_6=some ⟨.type "tuple",od_ROWS_6,.seq #[.str "fork" tk_ROWS_6_0,.str "K" tk_ROWS_6_1] n_ROWS_6,sl_ROWS_6⟩)
 {od_ROWS_7:Option Addr} {n_ROWS_7:Nat} {sl_ROWS_7:Array (Option RE)} {tk_ROWS_7_0 tk_ROWS_7_1:Tok} (d_ROWS_7:K.lookup ad_ROWS_7=some ⟨.type "tuple",od_ROWS_7,.seq #[.str "call" tk_ROWS_7_0,.str "F" tk_ROWS_7_1] n_ROWS_7,sl_ROWS_7⟩)
 {od_ROWS_8:Option Addr} {n_ROWS_8:Nat} {sl_ROWS_8:Array (Option RE)} {tk_ROWS_8_0:Tok} (d_ROWS_8:K.lookup ad_ROWS_8=some ⟨.type "tuple",od_ROWS_8,.seq #[.str "back" tk_ROWS_8_0] n_ROWS_8,sl_ROWS_8⟩)
 {od_ROWS_9:Option Addr} {n_ROWS_9:Nat} {sl_ROWS_9:Array (Option RE)} {tk_ROWS_9_0:Tok} (d_ROWS_9:K.lookup ad_ROWS_9=some ⟨.type "tuple",od_ROWS_9,.seq #[.str "stop" tk_ROWS_9_0] n_ROWS_9,sl_ROWS_9⟩)
 : BV K [(ad_VALUES,[.str "values",.str "S",.str "S"]),(ad_ROWS,[.ref ad_ROWS_0,.ref ad_ROWS_1,.ref ad_ROWS_2,.ref ad_ROWS_3,.ref ad_ROWS_4,.ref ad_ROWS_5,.ref ad_ROWS_6,.ref ad_ROWS_7,.ref ad_ROWS_8,.ref ad_ROWS_9]),(ad_ROWS_0,[.str "skip"]),(ad_ROWS_1,[.str "set",.str "V",.str "N"]),(ad_ROWS_2,[.str "any",.str "V"]),(ad_ROWS_3,[.str "turn",.str "V"]),(ad_ROWS_4,[.str "if",.str "V",.str "N",.str "K"]),(ad_ROWS_5,[.str "go",.str "K"]),(ad_ROWS_6,[.str "fork",.str "K"]),(ad_ROWS_7,[.str "call",.str "F"]),(ad_ROWS_8,[.str "back"]),(ad_ROWS_9,[.str "stop"])]:=by
 intro p hp;simp only[cB,fw,mH]at hp;rcases hp with rfl|rfl|rfl|rfl|rfl|rfl|rfl|rfl|rfl|rfl|rfl|rfl
 .exact⟨rfl,_,_,_,d_VALUES,rfl,rfl,(show 3<=sizeLine by decide),.cons ⟨_,rfl⟩ (.cons ⟨_,rfl⟩ (.cons ⟨_,rfl⟩ (.nil)))⟩
 .exact⟨rfl,_,_,_,d_ROWS,rfl,rfl,(show 10<=sizeLine by decide),.cons rfl (.cons rfl (.cons rfl (.cons rfl (.cons rfl (.cons rfl (.cons rfl (.cons rfl (.cons rfl (.cons rfl (.nil))))))))))⟩
 .exact⟨rfl,_,_,_,d_ROWS_0,rfl,rfl,(show 1<=sizeLine by decide),.cons ⟨_,rfl⟩ (.nil)⟩
 .exact⟨rfl,_,_,_,d_ROWS_1,rfl,rfl,(show 3<=sizeLine by decide),.cons ⟨_,rfl⟩ (.cons ⟨_,rfl⟩ (.cons ⟨_,rfl⟩ (.nil)))⟩
 .exact⟨rfl,_,_,_,d_ROWS_2,rfl,rfl,(show 2<=sizeLine by decide),.cons ⟨_,rfl⟩ (.cons ⟨_,rfl⟩ (.nil))⟩
 .exact⟨rfl,_,_,_,d_ROWS_3,rfl,rfl,(show 2<=sizeLine by decide),.cons ⟨_,rfl⟩ (.cons ⟨_,rfl⟩ (.nil))⟩
 .exact⟨rfl,_,_,_,d_ROWS_4,rfl,rfl,(show 4<=sizeLine by decide),.cons ⟨_,rfl⟩ (.cons ⟨_,rfl⟩ (.cons ⟨_,rfl⟩ (.cons ⟨_,rfl⟩ (.nil))))⟩
 .exact⟨rfl,_,_,_,d_ROWS_5,rfl,rfl,(show 2<=sizeLine by decide),.cons ⟨_,rfl⟩ (.cons ⟨_,rfl⟩ (.nil))⟩
 .exact⟨rfl,_,_,_,d_ROWS_6,rfl,rfl,(show 2<=sizeLine by decide),.cons ⟨_,rfl⟩ (.cons ⟨_,rfl⟩ (.nil))⟩
 .exact⟨rfl,_,_,_,d_ROWS_7,rfl,rfl,(show 2<=sizeLine by decide),.cons ⟨_,rfl⟩ (.cons ⟨_,rfl⟩ (.nil))⟩
 .exact⟨rfl,_,_,_,d_ROWS_8,rfl,rfl,(show 1<=sizeLine by decide),.cons ⟨_,rfl⟩ (.nil)⟩
 .exact⟨rfl,_,_,_,d_ROWS_9,rfl,rfl,(show 1<=sizeLine by decide),.cons ⟨_,rfl⟩ (.nil)⟩
end W
namespace W
open PySem L2 L3
theorem vq{α:Type}(g:α->D){asg:D->Bool->En->Option En}{fr:Bool}{body:En->Res Fl}(P:En->Prop)(p:α->Bool)(res:α->R):∀(xs:List α)(env:En),P env->
 (∀a∈xs,∀env,P env->∃env1,asg (g a) fr env=some env1/\((p a=true/\body env1=.ok (.rt (res a)))\/(p a=false/\∃env2,body env1=.ok (.nx env2)/\P env2)))->
 (∀a,xs.find? p=some a->cI asg fr body (xs.map g) env=.ok (.rt (res a)))/\(xs.find? p=none->∃bp,cI asg fr body (xs.map g) env=.ok (.nx bp)/\P bp)
 |[],env,h,_=>⟨λ_ e=>(by cases e),λ_=>⟨env,rfl,h⟩⟩
 |a::r,env,h,st=>by
  obtain⟨env1,h1,h2⟩:=st a (by simp) env h;rw[ii,b8];rcases h2 with⟨hp,hb⟩|⟨hp,env2,hb,h3⟩
  .rw[hp];refine⟨λb e=>?_,λe=>(by cases e)⟩;cases e;unfold cI;rw[h1];dsimp only;rw[hb];rfl
  .rw[hp];obtain⟨i1,i2⟩:=vq g P p res r env2 h3 λb hb=>st b (by simp[hb]);refine⟨λb e=>?_,λe=>?_⟩
   .rw[<- i1 b e];conv=>lhs;unfold cI
    rw[h1];dsimp only;rw[hb];rfl
   .obtain⟨bp,e1,e2⟩:=i2 e;refine⟨bp,?_,e2⟩;rw[<- e1];conv=>lhs;unfold cI
    rw[h1];dsimp only;rw[hb];rfl
noncomputable def IZ:Int:=1000000000000000000000000000000000000000000000000000000000000
def QE:(0:Int)<1000000000000000000000000000000000000000000000000000000000000:=by decide
def dg(c p n:Int):Int:=(c%IZ*48271+11)%p%n
def iS(c p n:Int)(h:0<n):0<=dg c p n:=Int.emod_nonneg _ (by lia)
def iT(c p n:Int)(h:0<n):dg c p n<n:=Int.emod_lt_of_pos _ h
def bK(c p n:Int)(hp:0<p)(hn:0<n):aT [.int c,.int p,.int n]=.ok (.val (.int (dg c p n)) true []):=by simp_arith[aT,oj,hp,hn,QE];rfl
def CA(ns:List Int)(k:Int):Int:=if k<ns.length then(b0 ns k).getD 0%IZ else 0
def Fa(ns:List Int)(k:Int)(h0:0<=k):cq [.lst (ns.map .int),.int k]=.ok (.val (.int (CA ns k)) true []):=by
 by_cases h:k<ns.length
 .have hd:decide (k<(ns.length:Int))=true:=gh h;obtain⟨a,ea,_⟩:=sO h0 h;have ha:b0 (ns.map D.int) k=some (.int a):=by rw[rJ,ea];rfl
  simp_arith[cq,im,bH,hd,ha,QE];unfold CA;rw[c5 h,ea];rfl
 .have hd:decide (k<(ns.length:Int))=false:=fm h;simp_arith[cq,im,bH,hd];unfold CA;rw[dS h]
noncomputable def Wd:D->Prop
 |.str _=>True
 |.int _=>True
 |_=>False
theorem Wd.flat{d:D}(h:Wd d):d.flat=true:=by cases d<;>first|rfl|exact h.elim
def pO(i:Int):dI [.int i]=.ok (.val (.bl true) true []):=by simp_arith[dI,oF]
def Lo{x:Str}:GV "str" (.str x)=true:=(rfl)
def Row(ds:List D):Prop:=ds.length<=4/\∀d∈ds,Wd d
theorem Row.aC{ds:List D}(h:Row ds):D.aC ds=true:=cT λd hd=>(h.2 d hd).flat
noncomputable abbrev Pr:=Str×List (List D)
noncomputable def Fb(p:Pr):D:=.tup [.str p.1,.lst (p.2.map .tup)]
def P6(s o:Int)(ps:List Pr):D:=.tup [.int s,.int o,.lst (ps.map Fb)]
def P7(p:Pr):Prop:=p.1.length<=20/\0<p.2.length/\p.2.length<=400/\∀r∈p.2,Row r
inductive Rw where
 |skip|back|stop
 |set (w:Bool) (n:Int)
 |any (w:Bool)
 |turn (w:Bool)
 |iff (w:Bool) (n k:Int)
 |go (k:Int)
 |fork (k:Int)
 |call (f:Str)
noncomputable def wd(w:Bool):Str:=if w then "own" else "shared"
def Rw.d:Rw->List D
 |.skip=>[.str "skip"]
 |.back=>[.str "back"]
 |.stop=>[.str "stop"]
 |.set w n=>[.str "set",.str (wd w),.int n]
 |.any w=>[.str "any",.str (wd w)]
 |.turn w=>[.str "turn",.str (wd w)]
 |.iff w n k=>[.str "if",.str (wd w),.int n,.int k]
 |.go k=>[.str "go",.int k]
 |.fork k=>[.str "fork",.int k]
 |.call f=>[.str "call",.str f]
noncomputable def vl(sv ov:Int)(w:Bool):Int:=if w then ov else sv
def RwOk(names:List Str)(sv ov many:Int)(last:Bool):Rw->Prop
 |.call f=>f∈names/\last=false
 |.set w n=>(0<=n/\n<vl sv ov w)/\last=false
 |.iff w n k=>((0<=n/\n<vl sv ov w)/\0<=k/\k<many)/\last=false
 |.go k=>0<=k/\k<many
 |.fork k=>(0<=k/\k<many)/\last=false
 |.skip=>last=false
 |.any _=>last=false
 |.turn _=>last=false
 |.back=>True
 |.stop=>True
def gf(r:Rw):Row r.d:=by
 have t:True:=True.intro;cases r<;>refine⟨by simp[Rw.d],λd hd=>?_⟩<;>simp[Rw.d]at hd
 all_goals first
  |(subst hd;exact t)
  |(rcases hd with rfl|rfl<;>exact t)
  |(rcases hd with rfl|rfl|rfl<;>exact t)
  |(rcases hd with rfl|rfl|rfl|rfl<;>exact t)
def RowC(names:List Str)(sv ov many:Int)(last:Bool)(ds:List D):Prop:=∃r:Rw,ds=r.d/\RwOk names sv ov many last r
def RowC.row{names:List Str}{sv ov many:Int}{last:Bool}{ds:List D}(h:RowC names sv ov many last ds):Row ds:=by obtain⟨r,rfl,_⟩:=h;exact gf r
def Lp:wd false="shared":=rfl
def Lq:wd true="own":=rfl
def I0(names:List Str)(sv ov:Int)(rs:List (List D)):Prop:=∀(i:Nat)(r:List D),rs[i]?=some r->RowC names sv ov rs.length (decide (i+1=rs.length)) r
def OV(names:List Str)(sv ov:Int)(p:Pr):Prop:=P7 p/\I0 names sv ov p.2/\p.2.length<=300
def Oa{x:Int}(h0:0<=x)(h1:x<14):x∈([0,1,2,3,4,5,6,7,8,9,10,11,12,13]:List Int):=by obtain⟨m,rfl⟩:=Int.eq_ofNat_of_zero_le h0;have:=(by decide:∀k:Fin 14,((k.val:Nat):Int)∈([0,1,2,3,4,5,6,7,8,9,10,11,12,13]:List Int));exact this ⟨m,Int.ofNat_lt.mp h1⟩
def Fc{c many number goal side lot:Int}{e1:Option Sl}{e4:Option Sl}{names:List Str}{w last:Bool}{sv ov:Int}(hl:0<names.length)(h0:0<=lot)(h1:lot<14)(hL:last=true->lot=7\/lot=10\/lot=11)(hv:0<=number/\number<vl sv ov w)(hg:0<=goal/\goal<many) :
 ∃ds,RowC names sv ov many last ds/\jV [some (.val (.int c) false),e1,some (.val (.int many) false),some (.val (.lst (names.map D.str)) false),e4,some (.val (.int lot) true),some (.val (.int side) true),some (.val (.str (wd w)) true),some (.val (.int number) true),some (.val (.int goal) true)]=.ok (.rt (.val (.tup ds) true [])):=by
 have hn0:(0:Int)<names.length:=by lia
 have cK:((names.map D.str).length:Int)=names.length:=by simp
 have d1:=iS c 1031 names.length hn0;have d2:=iT c 1031 names.length hn0;obtain⟨n,en,en2⟩:=sO d1 d2;have hmem:n∈names:=fj en2;have ha:b0 (names.map D.str) (dg c 1031 names.length)=some (.str n):=by rw[rJ,en];rfl
 have:lot∈([0,1,2,3,4,5,6,7,8,9,10,11,12,13]:List Int):=Oa h0 h1;simp only[cB,fw,mH]at this;have t:True:=True.intro;have nl:(lot≠7/\lot≠10/\lot≠11)->last=false:=λh=>by
  cases q:last with
  |false=>rfl
  |true=>rcases hL q with z|z|z<;>lia
 rcases this with rfl|rfl|rfl|rfl|rfl|rfl|rfl|rfl|rfl|rfl|rfl|rfl|rfl|rfl
 .exact⟨_,⟨.skip,rfl,nl (by decide)⟩,rfl⟩
 .exact⟨_,⟨.set w number,rfl,hv,nl (by decide)⟩,rfl⟩
 .exact⟨_,⟨.set w number,rfl,hv,nl (by decide)⟩,rfl⟩
 .exact⟨_,⟨.any w,rfl,nl (by decide)⟩,rfl⟩
 .exact⟨_,⟨.turn w,rfl,nl (by decide)⟩,rfl⟩
 .exact⟨_,⟨.iff w number goal,rfl,⟨hv,hg⟩,nl (by decide)⟩,rfl⟩
 .exact⟨_,⟨.iff w number goal,rfl,⟨hv,hg⟩,nl (by decide)⟩,rfl⟩
 .exact⟨_,⟨.go goal,rfl,hg⟩,rfl⟩
 .exact⟨_,⟨.fork goal,rfl,hg,nl (by decide)⟩,rfl⟩
 .exact⟨_,⟨.fork goal,rfl,hg,nl (by decide)⟩,rfl⟩
 .exact⟨_,⟨.back,rfl,t⟩,rfl⟩
 .exact⟨_,⟨.stop,rfl,t⟩,rfl⟩
 all_goals
  refine⟨[.str "call",.str n],⟨.call n,rfl,hmem,nl (by decide)⟩,?_⟩;simp_arith[jV,cK,bK c 1031 names.length (by decide) hn0,ha]
def Lr{c sv ov many:Int}{names:List Str}{last:Bool}(hl:0<names.length)(h1:0<sv)(h2:0<ov)(h3:0<many) :
 ∃ds,RowC names sv ov many last ds/\ip [.int c,.lst [.int sv,.int ov],.int many,.lst (names.map D.str),.bl last]=.ok (.val (.tup ds) true []):=by
 have s0:=iS c 1013 2 (by decide);have s1:=iT c 1013 2 (by decide);have l0:=iS c 1009 14 (by decide);have l1:=iT c 1009 14 (by decide);have m0:=iS c 1009 3 (by decide);have m1:=iT c 1009 3 (by decide);have step:∀lot:Int,0<=lot->lot<14->(last=true->lot=7\/lot=10\/lot=11)->∃ds,RowC names sv ov many last ds/\jW [some (.val (.int c) false),some (.val (.lst [.int sv,.int ov]) false),some (.val (.int many) false),some (.val (.lst (names.map D.str)) false),some (.val (.bl last) false),some (.val (.int lot) true),none,none,none,none]=.ok (.rt (.val (.tup ds) true [])):=λlot a b hL=>by
  obtain⟨w,hs⟩ : ∃w:Bool,dg c 1013 2=if w then 1 else 0:=by
   have:dg c 1013 2=0\/dg c 1013 2=1:=by lia
   rcases this with z|z
   .exact⟨false,z⟩
   .exact⟨true,z⟩
  have iw:b0 [D.str "shared",D.str "own"] (if w then 1 else 0)=some (.str (wd w)):=by cases w<;>rfl
  have jw:b0 [D.int sv,D.int ov] (if w then 1 else 0)=some (.int (vl sv ov w)):=by cases w<;>rfl
  have hv:0<vl sv ov w:=by cases w<;>assumption
  obtain⟨ds,r,e⟩:=Fc (c:=c) (many:=many) (number:=dg c 1019 (vl sv ov w)) (goal:=dg c 1021 many) (side:=if w then 1 else 0) (lot:=lot) (e1:=some (.val (.lst [.int sv,.int ov]) false)) (e4:=some (.val (.bl last) false)) (w:=w) (last:=last) hl a b hL ⟨iS _ _ _ hv,iT _ _ _ hv⟩ ⟨iS _ _ _ h3,iT _ _ _ h3⟩;refine⟨ds,r,?_⟩;rw[<- e];simp_arith[jW,ox,ou,oq,bK c 1013 2 (by decide) (by decide),hs,iw,jw,bK c 1019 (vl sv ov w) (by decide) hv,bK c 1021 many (by decide) h3]
 cases last with
 |false=>obtain⟨ds,r,e⟩:=step (dg c 1009 14) l0 l1 (λz=>by cases z);refine⟨ds,r,?_⟩;simp_arith[ip,nA,bK c 1009 14 (by decide) (by decide),jX,e]
 |true=>
  have hm:∃q:Int,0<=q/\q<14/\(q=7\/q=10\/q=11)/\b0 [D.int 7,D.int 10,D.int 11] (dg c 1009 3)=some (.int q):=by
   have:dg c 1009 3=0\/dg c 1009 3=1\/dg c 1009 3=2:=by lia
   rcases this with h|h|h<;>rw[h]
   .exact⟨7,by decide,by decide,by decide,rfl⟩
   .exact⟨10,by decide,by decide,by decide,rfl⟩
   .exact⟨11,by decide,by decide,by decide,rfl⟩
  obtain⟨q,q0,q1,q2,eq⟩:=hm;obtain⟨ds,r,e⟩:=step q q0 q1 (λ_=>q2);refine⟨ds,r,?_⟩;simp_arith[ip,nA,bK c 1009 14 (by decide) (by decide),jX,bK c 1009 3 (by decide) (by decide),eq,e]
noncomputable def rz(gs:List (List Int)):List D:=gs.map λg=>.lst (g.map .int)
def Fd(gs:List (List Int)):(rz gs).all ma=true:=by rw[g6];intro d hd;obtain⟨g,_,rfl⟩:=dP.mp hd;exact bc g
def zU{n:Nat}{k:Int}(h0:0<=k)(h:k<n):t8 n k=some k.toNat:=by unfold t8;rw[c5 h0,c5 h]
section
variable{cs:List Int}{sv ov seed:Int}{names:List Str}
noncomputable abbrev e0(cs:List Int):Option Sl:=some (.val (.lst (cs.map .int)) false)
noncomputable abbrev e1(sv ov:Int):Option Sl:=some (.val (.lst [.int sv,.int ov]) false)
noncomputable abbrev e2(names:List Str):Option Sl:=some (.val (.lst (names.map D.str)) false)
noncomputable abbrev e3(seed:Int):Option Sl:=some (.val (.int seed) false)
def HL(hn:0<names.length)(hc:cs.length<=200):∃(gs:List (List Int))(x:Option Sl),gs.length=names.length/\(∀g∈gs,g.length<=200)/\
 cI (gN 5) false dA (cs.map .int) [e0 cs,e1 sv ov,e2 names,e3 seed,some (.kJ (.lst (rz (names.map λ_=>[])))),none,none,none,none,none,none,none]
  = .ok (.nx [e0 cs,e1 sv ov,e2 names,e3 seed,some (.kJ (.lst (rz gs))),x,none,none,none,none,none,none]):=by
 obtain⟨bp,lp,gs,x,rfl,h1,h2⟩:=eB (λk:Int=>D.int k) (asg:=gN 5) (fr:=false) (body:=dA) cs (λpre env=>∃(gs:List (List Int))(x:Option Sl),env=[e0 cs,e1 sv ov,e2 names,e3 seed,some (.kJ (.lst (rz gs))),x,none,none,none,none,none,none]/\gs.length=names.length/\∀g∈gs,g.length<=pre.length) cs []
  [e0 cs,e1 sv ov,e2 names,e3 seed,some (.kJ (.lst (rz (names.map λ_=>[])))),none,none,none,none,none,none,none] rfl ⟨_,_,rfl,by simp,λg hg=>by obtain⟨_,_,rfl⟩:=dP.mp hg;exact cC _⟩
  (by
    rintro pre post c env ea ⟨gs,x,rfl,h1,h2⟩;have hpl:pre.length+post.length+1=cs.length:=by have:=ie List.length ea;simp at this;lia
    have hn0:(0:Int)<names.length:=by lia
    have cK:((names.map D.str).length:Int)=names.length:=by simp
    have d0:=iS c 1051 names.length hn0;have d1:=iT c 1051 names.length hn0;have hj:(dg c 1051 names.length).toNat<gs.length:=by lia
    have eg:gs[(dg c 1051 names.length).toNat]?=some gs[(dg c 1051 names.length).toNat]:=by simp[hj]
    generalize gs[(dg c 1051 names.length).toNat]=g at eg;have hgl:=h2 g (fj eg);have ex:t8 (rz gs).length (dg c 1051 names.length)=some (dg c 1051 names.length).toNat:=zU d0 (by unfold rz;rw[bH];lia);have ed:(rz gs)[(dg c 1051 names.length).toNat]?=some (.lst (g.map .int)):=by unfold rz;rw[iX,eg];rfl
    have es:(rz gs).set (dg c 1051 names.length).toNat (.lst (g.map .int++[.int c]))=rz (gs.set (dg c 1051 names.length).toNat (g++[c])):=by unfold rz;rw[List.map_set];simp
    have hgl2:(g.map D.int).length<1000000:=by rw[bH];lia
    refine⟨_,[e0 cs,e1 sv ov,e2 names,e3 seed,some (.kJ (.lst (rz (gs.set (dg c 1051 names.length).toNat (g++[c]))))),some (.val (.int c) false),none,none,none,none,none,none],rfl,?_,_,_,rfl,by simp[h1],λg' hg'=>?_⟩
    .simp_arith[dA,cK,bK c 1051 names.length (by decide) hn0];rw[zG ex ed];simp_arith;rw[zH (r:=.val (.int c) true []) rfl hgl2 (Fd gs)];simp_arith[es]
    .rcases List.mem_or_eq_of_mem_set hg' with hg'|rfl
     .have:=h2 g' hg';simp;lia
     .simp;lia)
 exact⟨gs,x,h1,λg hg=>ib (h2 g hg) hc,lp⟩
def CB(hn:0<names.length)(h1:0<sv)(h2:0<ov){ow:List Int}(hl:ow.length<=300)(h0:0<ow.length){e4 e5 e6 e7 e8 e11:Option Sl}:∃(rs:List (List D))(x y:Option Sl),rs.length=ow.length/\I0 names sv ov rs/\
 cI (gT 2 (ay (gN 11) (ay (gN 5) bA))) true dC (fC 0 (ow.map .int)) [e0 cs,e1 sv ov,e2 names,e3 seed,e4,e5,e6,e7,e8,some (.val (.lst (ow.map .int)) true),some (.own [] true),e11]
  = .ok (.nx [e0 cs,e1 sv ov,e2 names,e3 seed,e4,x,e6,e7,e8,some (.val (.lst (ow.map .int)) true),some (.own (rs.map .tup) true),y]):=by
 rw[mf];obtain⟨bp,lp,rs,x,y,rfl,r1,r2⟩:=eB (λp:Int×Nat=>D.tup [.int (p.2:Nat),.int p.1]) (asg:=gT 2 (ay (gN 11) (ay (gN 5) bA))) (fr:=true) (body:=dC) (ow.zipIdx 0) (λpre env=>∃(rs:List (List D))(x y:Option Sl),env=[e0 cs,e1 sv ov,e2 names,e3 seed,e4,x,e6,e7,e8,some (.val (.lst (ow.map .int)) true),some (.own (rs.map .tup) true),y]/\rs.length=pre.length/\∀(i:Nat)(r:List D),rs[i]?=some r->RowC names sv ov ow.length (decide (i+1=ow.length)) r) (ow.zipIdx 0) []
  [e0 cs,e1 sv ov,e2 names,e3 seed,e4,e5,e6,e7,e8,some (.val (.lst (ow.map .int)) true),some (.own [] true),e11] rfl ⟨[],_,_,rfl,rfl,λ_ _ z=>by simp at z⟩
  (by
    rintro pre post ⟨c,i⟩ env ea ⟨rs,x,y,rfl,r1,r2⟩;have hpl:pre.length+post.length+1=ow.length:=by have:=ie List.length ea;simp at this;lia
    have hm:(0:Int)<ow.length:=by lia
    have hi:i=pre.length:=by
     have e2:(ow.zipIdx 0)[pre.length]?=some (c,i):=by rw[ea];simp
     rw[List.getElem?_zipIdx]at e2;cases q:ow[pre.length]? with
     |none=>rw[q]at e2;cases e2
     |some v=>rw[q]at e2;simp at e2;lia
    have hlast:((i:Int)==(ow.length:Int)-1)=decide (i+1=ow.length):=by
     by_cases z:i+1=ow.length
     .rw[gh z];simp;lia
     .rw[fm z];simp;lia
    have cK:(((ow.map D.int).length:Nat):Int)=ow.length:=by simp
    obtain⟨ds,rw_,er⟩:=Lr (c:=c) (sv:=sv) (ov:=ov) (many:=ow.length) (names:=names) (last:=((i:Int)==(ow.length:Int)-1)) hn h1 h2 hm;have hfl:=(RowC.row rw_).aC;have hrl:(rs.map D.tup).length<1000000:=by rw[bH];lia
    refine⟨_,[e0 cs,e1 sv ov,e2 names,e3 seed,e4,some (.val (.int c) true),e6,e7,e8,some (.val (.lst (ow.map .int)) true),some (.own ((rs++[ds]).map .tup) true),some (.val (.int (i:Nat)) true)],rfl,?_,rs++[ds],_,_,rfl,by simp[r1],λj r hr=>?_⟩
    .simp_arith[dC,cK,cJ,il,er,pF,hrl,hfl,kE]
    .by_cases hj:j<rs.length
     .rw[kq hj]at hr;exact r2 j r hr
     .rw[h_ (by lia)]at hr;have hj2:j=rs.length:=by
       by_cases z:j-rs.length=0
       .lia
       .rw[Ap (by simp;lia)]at hr;cases hr
      subst hj2;simp at hr;rw[<- hr,r1,<- hi,<- hlast];exact rw_)
 have rl:rs.length=ow.length:=by rw[r1];simp
 exact⟨rs,x,y,rl,λi r hr=>by rw[rl];exact r2 i r hr,lp⟩
def zV(hn:0<names.length)(hn4:names.length<=4)(hns:∀n∈names,n.length<=20)(h1:0<sv)(h2:0<ov){gs:List (List Int)}(hg:gs.length=names.length)(hgl:∀g∈gs,g.length<=200){x:Option Sl}:∃(ps:List Pr)(a b c d e f:Option Sl),ps.map (·.1)=names/\(∀p∈ps,OV names sv ov p)/\
 cI (gT 2 (ay (gN 7) (ay (gN 8) bA))) false dD (fC 0 (names.map D.str)) [e0 cs,e1 sv ov,e2 names,e3 seed,some (.kJ (.lst (rz gs))),x,some (.own [] true),none,none,none,none,none]
  = .ok (.nx [e0 cs,e1 sv ov,e2 names,e3 seed,some (.kJ (.lst (rz gs))),a,some (.own (ps.map Fb) true),b,c,d,e,f]):=by
 rw[mf];obtain⟨bp,lp,ps,a,b,c,d,e,f,rfl,r1,r2⟩:=eB (λp:Str×Nat=>D.tup [.int (p.2:Nat),.str p.1]) (asg:=gT 2 (ay (gN 7) (ay (gN 8) bA))) (fr:=false) (body:=dD) (names.zipIdx 0) (λpre env=>∃(ps:List Pr)(a b c d e f:Option Sl),env=[e0 cs,e1 sv ov,e2 names,e3 seed,some (.kJ (.lst (rz gs))),a,some (.own (ps.map Fb) true),b,c,d,e,f]/\ps.map (·.1)=pre.map (·.1)/\∀p∈ps,OV names sv ov p) (names.zipIdx 0) []
  [e0 cs,e1 sv ov,e2 names,e3 seed,some (.kJ (.lst (rz gs))),x,some (.own [] true),none,none,none,none,none] rfl ⟨[],_,_,_,_,_,_,rfl,rfl,λ_ z=>by cases z⟩
  (by
    rintro pre post ⟨n,k⟩ env ea ⟨ps,a,b,c,d,e,f,rfl,r1,r2⟩;have hmem:(n,k)∈names.zipIdx 0:=by rw[ea];simp
    have hkn:names[k]?=some n:=by have:=List.mem_zipIdx_iff_getElem?.mp hmem;simpa using this
    have hk:=(cD.mp hkn).1;have hkg:k<gs.length:=by lia
    have eg:gs[k]?=some gs[k]:=by simp[hkg]
    generalize gs[k]=g at eg;have hgl':=hgl g (fj eg);have ed:b0 (rz gs) (k:Int)=some (.lst (g.map .int)):=by unfold b0 rz;rw[zU (by lia) (by rw[bH];lia)];simp[eg]
    generalize hz:((k:Nat):Int)=z at ed;have k1:-18446744073709551616<z:=by lia
    have k2:z<18446744073709551616:=by lia
    obtain⟨rs,x',y',q1,q2,lp2⟩:=CB (cs:=cs) (seed:=seed) hn h1 h2 (ow:=g++[seed+7*z*z]) (by simp;lia) (by simp) (e4:=some (.kJ (.lst (rz gs)))) (e5:=a) (e6:=some (.own (ps.map Fb) true)) (e7:=some (.val (.int z) false)) (e8:=some (.val (.str n) false)) (e11:=f);have q1':rs.length=g.length+1:=by rw[q1];simp
    have hpl:pre.length+post.length+1=names.length:=by have:=ie List.length ea;simp at this;lia
    have hpsl:ps.length=pre.length:=by have:=ie List.length r1;simpa using this
    have hplen:(ps.map Fb).length<1000000:=by rw[bH];lia
    have eo:g.map D.int++[D.int (seed+7*z*z)]=(g++[seed+7*z*z]).map D.int:=by simp
    refine⟨_,[e0 cs,e1 sv ov,e2 names,e3 seed,some (.kJ (.lst (rz gs))),x',some (.own ((ps++[(n,rs)]).map Fb) true),some (.val (.int z) false),some (.val (.str n) false),some (.val (.lst ((g++[seed+7*z*z]).map .int)) true),some (.val (.lst (rs.map .tup)) true),y'],rfl,?_,ps++[(n,rs)],_,_,_,_,_,_,rfl,by simp[r1],λp hp=>?_⟩
    .have hal:(g.map D.int).length+[D.int (seed+7*z*z)].length<=1000000:=by simp;lia
     simp_arith[dD,k1,k2,ed,bc];rw[sK hal,eo,bJ (bc _)];simp_arith;rw[show cQ [e0 cs,e1 sv ov,e2 names,e3 seed,some (.kJ (.lst (rz gs))),a,some (.own (ps.map Fb) true),some (.val (.int z) false),some (.val (.str n) false),some (.own ((g++[seed+7*z*z]).map .int) true),some (.own [] true),f] [9]=[e0 cs,e1 sv ov,e2 names,e3 seed,some (.kJ (.lst (rz gs))),a,some (.own (ps.map Fb) true),some (.val (.int z) false),some (.val (.str n) false),some (.val (.lst ((g++[seed+7*z*z]).map .int)) true),some (.own [] true),f]from rfl,lp2];simp_arith[pF,hplen,kE];exact c5 ⟨hplen,λh=>absurd (show(6:Nat)∈[10]from h) (by decide)⟩
    .rcases gg.mp hp with hp|hp
     .exact r2 p hp
     .have:p=(n,rs):=by simpa using hp
      subst this;exact⟨⟨hns n (fj hkn),by show 0<rs.length;lia,by show rs.length<=400;lia,λr hr=>by obtain⟨i,hi⟩:=gm.mp hr;exact(q2 i r hi).row⟩,q2,by show rs.length<=300;lia⟩)
 refine⟨ps,a,b,c,d,e,f,by rw[r1];simp,r2,lp⟩
def zW(hn:0<names.length)(hn4:names.length<=4)(hns:∀n∈names,n.length<=20)(h1:0<sv)(h2:0<ov)(hc:cs.length<=200):∃ps:List Pr,ps.map (·.1)=names/\(∀p∈ps,OV names sv ov p)/\
 fJ [.lst (cs.map .int),.lst [.int sv,.int ov],.lst (names.map D.str),.int seed]=.ok (.val (P6 sv ov ps) true [6]):=by
 obtain⟨gs,x,g1,g2,lp1⟩:=HL (cs:=cs) (sv:=sv) (ov:=ov) (seed:=seed) hn hc;obtain⟨ps,a,b,c,d,e,f,r1,r2,lp2⟩:=zV (cs:=cs) (seed:=seed) (x:=x) hn hn4 hns h1 h2 g1 g2;refine⟨ps,r1,r2,?_⟩;have ed:(names.map D.str).map (λ_=>D.lst [])=rz (names.map λ_=>[]):=by unfold rz;simp
 have hl:(names.map D.str).length<=1000000:=by rw[bH];lia
 have i0:b0 [D.int sv,D.int ov] 0=some (.int sv):=rfl;have i1:b0 [D.int sv,D.int ov] 1=some (.int ov):=rfl;simp_arith[fJ,lz,hl,ed];simp only[e0,e1,e2,e3]at lp1 lp2;simp_arith[lp1];simp_arith[lp2];rfl
end
noncomputable def lets:List Nat:=("bcdefghjklopqrstuvwxyz" : Str).cps.toList
noncomputable def mainL:List Nat:=("main" : Str).cps.toList
def lQ:lets.length=22:=by decide
def zX:lets.Nodup:=by decide
def CC:∀x∈lets,x∉mainL:=by decide
def Ls(c st:Int)(i j:Nat)(hi:i<3)(hj:j<3)(hij:i≠j)(h1:1<=st)(h2:st<=7):(c+i*st)%22≠(c+j*st)%22:=by
 have hi:i=0\/i=1\/i=2:=by lia
 have hj:j=0\/j=1\/j=2:=by lia
 rcases hi with rfl|rfl|rfl<;>rcases hj with rfl|rfl|rfl<;>first|exact(hij rfl).elim|(simp;lia)
def xh(c:Int)(k:Nat):Nat:=lets.getD ((c+k*(1+c/22%7))%22).toNat 0
def Ba(c:Int)(k:Nat):xh c k∈lets:=by
 unfold xh;have h:((c+k*(1+c/22%7))%22).toNat<lets.length:=by rw[lQ];lia
 rw[oZ,ic h];exact F2 h
def Lu(c:Int)(i j:Nat)(hi:i<3)(hj:j<3)(hij:i≠j):xh c i≠xh c j:=by
 intro e;have h:=Ls c (1+c/22%7) i j hi hj hij (by lia) (by lia);unfold xh at e;have h1:((c+i*(1+c/22%7))%22).toNat<lets.length:=by rw[lQ];lia
 have h2:((c+j*(1+c/22%7))%22).toNat<lets.length:=by rw[lQ];lia
 rw[oZ,ic h1,oZ,ic h2]at e;have:=(List.getElem?_inj (i:=((c+i*(1+c/22%7))%22).toNat) (j:=((c+j*(1+c/22%7))%22).toNat) h1 zX).mp (by rw[ic h1,ic h2];exact ie some e);generalize(c+i*(1+c/22%7))=x at *;generalize(c+j*(1+c/22%7))=y at *;lia
def wL(lot:Int)(bl:List Nat)(sp:Nat)(c:Int)(k:Nat):List Nat:=if lot=3 then mainL.take (1+k)else if lot=2 then mainL++[xh c k]else bl.take sp++[xh c k]++bl.drop (sp+1)
def zY{bl:List Nat}{sp:Nat}{x:Nat}(h:sp<bl.length):(bl.take sp++[x]++bl.drop (sp+1))[sp]?=some x:=by
 have hl:(bl.take sp).length=sp:=by rw[kj];lia
 rw[qN,h_ (by lia),hl];simp
def Fe(lot:Int)(bl:List Nat)(sp:Nat)(c:Int)(k:Nat)(h:sp<bl.length)(hk:k<3):wL lot bl sp c k≠mainL:=by
 unfold wL;have h4:mainL.length=4:=by decide
 split
 .intro e;have:=ie List.length e;rw[kj]at this;lia
 .split
  .intro e;have:=ie List.length e;simp at this
  .intro e;have:=zY (x:=xh c k) h;rw[e]at this;exact CC _ (Ba c k) (fj this)
def Lv(lot:Int)(bl:List Nat)(sp:Nat)(c:Int)(i j:Nat)(h:sp<bl.length)(hi:i<3)(hj:j<3)(hij:i≠j):wL lot bl sp c i≠wL lot bl sp c j:=by
 unfold wL;have h4:mainL.length=4:=by decide
 have hs:=Lu c i j hi hj hij;split
 .intro e;have:=ie List.length e;rw[kj,kj]at this;lia
 .split
  .intro e;exact hs (by simpa using e)
  .intro e;have e1:=zY (x:=xh c i) h;have e2:=zY (x:=xh c j) h;rw[e,e2]at e1;exact hs (ia e1).symm
noncomputable abbrev T(l:List Nat):Str:=⟨l.toArray⟩
def kD(l:List Nat):(T l).length=l.length:=by show l.toArray.size=_;simp
def Ob(a b:List Nat):T a++T b=T (a++b):=by show(⟨a.toArray++b.toArray⟩ : Str)=⟨(a++b).toArray⟩;simp
def uw(s:Str):s=T s.cps.toList:=by cases s;rfl
def I_{a b:List Nat}(h:T a=T b):a=b:=by
 have h2:(T a).cps.toList=(T b).cps.toList:=by rw[h]
 exact h2
def Lw{x y:Str}{f g:Bool}{al bl:List Nat}(h:x.length+y.length<=1000000):bn (.val (.str x) f al) (.val (.str y) g bl)=.ok (.val (.str (x++y)) true []):=c5 h
def dM{a b:List Nat}{f g:Bool}{al bl:List Nat}(h:a.length+b.length<=1000000):bn (.val (.str (T a)) f al) (.val (.str (T b)) g bl)=.ok (.val (.str (T (a++b))) true []):=by rw[Lw (by rw[kD,kD];exact h),Ob]
def Bb{z:Str}{k:Int}{f:Bool}{al:List Nat}{c:Nat}(h:z.length<=1000000)(h2:b0 z.cps.toList k=some c):pE (.str z) (.int k) f al=.ok (.val (.str (T [c])) true []):=by
 show(if z.length<=lim then(match b0 z.cps.toList k with
  |some c=>(Res.ok (.val (.str ⟨#[c]⟩) true []):Res R)
  |none=>.stuck)else .stuck)=_
 rw[c5 (show z.length<=lim from h),h2]
def Ja(bl:List Nat)(k:Nat)(h:k<=bl.length):Txt.slice (T bl) none (some (k:Int))=T (bl.take k):=by
 have:=StrLaws.sliceText_to (x:=T bl) (j:=(k:Int)) ⟨by lia,by show(k:Int)<=bl.toArray.toList.length;simp;lia⟩;refine(Eq.trans ?_ this).trans ?_
 .rfl
 .show(⟨((bl.toArray.toList.drop 0).take ((k:Int)-0).toNat).toArray⟩ : Str)=_;simp
def HM(bl:List Nat)(k:Nat)(h:k<=bl.length):Txt.slice (T bl) (some (k:Int)) none=T (bl.drop k):=by
 have:=StrLaws.sliceText_from (x:=T bl) (i:=(k:Int)) ⟨by lia,by show(k:Int)<=bl.toArray.toList.length;simp;lia⟩;refine(Eq.trans ?_ this).trans ?_
 .rfl
 .show(⟨((bl.toArray.toList.drop (k:Int).toNat).take ((bl.toArray.toList.length:Int)-k).toNat).toArray⟩ : Str)=_;have e:((bl.length:Int)-k).toNat=(bl.drop k).length:=by rw[By];lia
  rw[show(bl.toArray.toList.length:Int)=bl.length by simp,show((k:Int).toNat)=k by lia,e,List.toList_toArray,Ry]
def vt(ns:List D)(k:Nat):dw ns none (some ((k:Nat):Int))=ns.take k:=by unfold dw;have h1:HT.sIx ns.length ns.length (some ((k:Nat):Int))=min k ns.length:=HT.sIx_nat ns.length ns.length k;have h2:HT.sIx ns.length 0 none=0:=rfl;rw[h1,h2,List.drop_zero,Nat.sub_zero,List.take_eq_take_iff];lia
def CD(ns:List D)(k:Nat):dw ns (some ((k:Nat):Int)) none=ns.drop k:=by
 unfold dw;have h1:HT.sIx ns.length 0 (some ((k:Nat):Int))=min k ns.length:=HT.sIx_nat ns.length 0 k;have h2:HT.sIx ns.length ns.length none=ns.length:=rfl;rw[h1,h2];by_cases h:k<=ns.length
 .rw[Nat.min_eq_left h,List.take_of_length_le (by rw[By];lia)]
 .rw[Nat.min_eq_right (by lia),qF (cC _),qF (by lia),List.take_nil]
noncomputable def abc:List Nat:=("abcdefghijklmnopqrstuvwxyz" : Str).cps.toList
def Lx:∀x∈abc,97<=x/\x<=122:=by decide
def Ly{k:Int}(h0:0<=k)(h:k<26):∃a,(97<=a/\a<=122)/\b0 ("abcdefghijklmnopqrstuvwxyz" : Str).cps.toList k=some a:=by
 have hl:abc.length=26:=by decide
 obtain⟨a,ea,em⟩:=sO (xs:=abc) h0 (by lia);exact⟨a,Lx a (fj em),ea⟩
def HN:("abcdefghijklmnopqrstuvwxyz" : Str).length<=1000000:=by decide
def pP:("bcdefghjklopqrstuvwxyz" : Str).length<=1000000:=by decide
def wM(c:Int)(k:Nat):b0 ("bcdefghjklopqrstuvwxyz" : Str).cps.toList ((c+k*(1+c/22%7))%22)=some (xh c k):=by
 have h:((c+k*(1+c/22%7))%22).toNat<lets.length:=by rw[lQ];lia
 obtain⟨a,ea,eb⟩:=sO (xs:=lets) (k:=(c+k*(1+c/22%7))%22) (by lia) (by rw[lQ];lia);unfold xh;rw[oZ,eb];exact ea
def zZ:("main" : Str)=T mainL:=uw _
def CF(c sz:Int){n:Nat}(hn:n<=8){e1 e4:Option Sl}:∃(bl:List Nat)(x:Option Sl),bl.length=n/\(∀x∈bl,97<=x/\x<=122)/\
 cI (gN 4) true fH ((List.range n).map λk=>D.int (k:Nat)) [some (.val (.int c) false),e1,some (.val (.int sz) true),some (.val (.str "") true),e4,none,none,none,none,none]
  = .ok (.nx [some (.val (.int c) false),e1,some (.val (.int sz) true),some (.val (.str (T bl)) true),x,none,none,none,none,none]):=by
 obtain⟨bp,lp,bl,x,rfl,hb,hx⟩:=eB (λk:Nat=>D.int k) (asg:=gN 4) (fr:=true) (body:=fH) (List.range n) (λpre env=>∃(bl:List Nat)(x:Option Sl),env=[some (.val (.int c) false),e1,some (.val (.int sz) true),some (.val (.str (T bl)) true),x,none,none,none,none,none]/\bl.length=pre.length/\∀x∈bl,97<=x/\x<=122) (List.range n) []
  [some (.val (.int c) false),e1,some (.val (.int sz) true),some (.val (.str "") true),e4,none,none,none,none,none] rfl ⟨[],_,by rw[uw ""];rfl,rfl,λ_ z=>by cases z⟩
  (by
    rintro pre post k env ea ⟨bl,x,rfl,hb,hx⟩;have hl:pre.length+post.length+1=n:=by have:=ie List.length ea;simp at this;lia
    have hk:k<n:=by
     have:k∈List.range n:=by rw[ea];simp
     exact nh.mp this
    generalize hz:((k:Nat):Int)=z;have k1:-18446744073709551616<z:=by lia
    have k2:z<18446744073709551616:=by lia
    obtain⟨a,har,ha⟩:=Ly (iS (c+5*z*z) 1093 26 (by decide)) (iT (c+5*z*z) 1093 26 (by decide));have cK:bl.length+[a].length<=1000000:=by simp;lia
    refine⟨[some (.val (.int c) false),e1,some (.val (.int sz) true),some (.val (.str (T bl)) true),some (.val (.int z) true),none,none,none,none,none],[some (.val (.int c) false),e1,some (.val (.int sz) true),some (.val (.str (T (bl++[a]))) true),some (.val (.int z) true),none,none,none,none,none],rfl,?_,bl++[a],_,rfl,by simp[hb],λx hx'=>(gg.mp hx').elim (hx x) λz=>by simp at z;subst z;exact har⟩;simp_arith[fH,k1,k2,bK (c+5*z*z) 1093 26 (by decide) (by decide),Bb HN ha,dM cK])
 exact⟨bl,x,by rw[hb];simp,hx,lp⟩
def Nm(l:List Nat):Prop:=(1<=l.length/\l.length<=8)/\∀x∈l,97<=x/\x<=122
instance (l:List Nat):Decidable (Nm l):=by unfold Nm;infer_instance
def HP:∀x∈lets,97<=x/\x<=122:=by decide
def wN:Nm mainL:=⟨by decide,by decide⟩
def Lz(lot:Int){bl:List Nat}{sp:Nat}(c:Int){k:Nat}(h:sp<bl.length)(hb:bl.length<=8)(hl:∀x∈bl,97<=x/\x<=122)(hk:k<3):Nm (wL lot bl sp c k):=by
 have hs:=HP _ (Ba c k);have h4:mainL.length=4:=by decide
 unfold wL;split
 .exact⟨by rw[kj];lia,λx hx=>wN.2 x (lW hx)⟩
 .split
  .refine⟨by simp[h4],λx hx=>?_⟩;rcases gg.mp hx with hx|hx
   .exact wN.2 x hx
   .simp at hx;subst hx;exact hs
  .refine⟨by simp;lia,λx hx=>?_⟩;rcases gg.mp hx with hx|hx
   .rcases gg.mp hx with hx|hx
    .exact hl x (lW hx)
    .simp at hx;subst hx;exact hs
   .exact hl x (qP hx)
def Ff(c sz lot:Int){bl:List Nat}{sp m:Nat}(hs:sp<bl.length)(hb:bl.length<=8)(hm:m<=3){e4:Option Sl}:∃(x y z:Option Sl),
 cI (gN 4) true cr ((List.range m).map λk=>D.int (k:Nat)) [some (.val (.int c) false),some (.own [] true),some (.val (.int sz) true),some (.val (.str (T bl)) true),e4,some (.val (.int (sp:Nat)) true),some (.val (.int lot) true),none,none,none]
  = .ok (.nx [some (.val (.int c) false),some (.own ((List.range m).map λk=>D.str (T (wL lot bl sp c k))) true),some (.val (.int sz) true),some (.val (.str (T bl)) true),x,some (.val (.int (sp:Nat)) true),some (.val (.int lot) true),y,z,none]):=by
 obtain⟨bp,lp,x,y,z,rfl⟩:=eB (λk:Nat=>D.int k) (asg:=gN 4) (fr:=true) (body:=cr) (List.range m) (λpre env=>∃(x y z:Option Sl),env=[some (.val (.int c) false),some (.own (pre.map λk=>D.str (T (wL lot bl sp c k))) true),some (.val (.int sz) true),some (.val (.str (T bl)) true),x,some (.val (.int (sp:Nat)) true),some (.val (.int lot) true),y,z,none]) (List.range m) []
  [some (.val (.int c) false),some (.own [] true),some (.val (.int sz) true),some (.val (.str (T bl)) true),e4,some (.val (.int (sp:Nat)) true),some (.val (.int lot) true),none,none,none] rfl ⟨_,_,_,rfl⟩
  (by
    rintro pre post k env ea ⟨x,y,z,rfl⟩;have hl:pre.length+post.length+1=m:=by have:=ie List.length ea;simp at this;lia
    have hk:k<m:=by
     have:k∈List.range m:=by rw[ea];simp
     exact nh.mp this
    have k1:-18446744073709551616<(1+c/22%7):=by lia
    have k2:(1+c/22%7)<18446744073709551616:=by lia
    have hT:(T bl).length<=1000000:=by rw[kD];lia
    have hM:("main" : Str).length<=1000000:=by decide
    have a1:(bl.take sp).length+[xh c k].length<=1000000:=by simp;lia
    have a2:(bl.take sp++[xh c k]).length+(bl.drop (sp+1)).length<=1000000:=by simp;lia
    have a3:mainL.length+[xh c k].length<=1000000:=by
     have:mainL.length=4:=by decide
     simp;lia
    have s1:=Ja bl sp (by lia);have s2:Txt.slice (T bl) (some ((sp:Int)+1)) none=T (bl.drop (sp+1)):=HM bl (sp+1) (by lia);have s3:Txt.slice ("main" : Str) none (some (1+(k:Int)))=T (mainL.take (1+k)):=by
     have h4:mainL.length=4:=by decide
     rw[zZ,show(1+(k:Int))=((1+k:Nat):Int) by lia];exact Ja mainL (1+k) (by lia)
    have hp:(pre.map λk=>D.str (T (wL lot bl sp c k))).length<1000000:=by rw[bH];lia
    refine⟨[some (.val (.int c) false),some (.own (pre.map λk=>D.str (T (wL lot bl sp c k))) true),some (.val (.int sz) true),some (.val (.str (T bl)) true),some (.val (.int (k:Nat)) true),some (.val (.int (sp:Nat)) true),some (.val (.int lot) true),y,z,none],[some (.val (.int c) false),some (.own ((pre++[k]).map λk=>D.str (T (wL lot bl sp c k))) true),some (.val (.int sz) true),some (.val (.str (T bl)) true),some (.val (.int (k:Nat)) true),some (.val (.int (sp:Nat)) true),some (.val (.int lot) true),some (.val (.str (T [xh c k])) true),some (.val (.str (T (wL lot bl sp c k))) true),none],rfl,?_,_,_,_,rfl⟩;by_cases h3:lot=3
    .subst h3;have en:wL 3 bl sp c k=mainL.take (1+k):=c5 rfl;simp_arith[cr,k1,k2,Bb pP (wM c k),hT,hM,s1,s2,s3,dM a1,dM a2,cJ,il,hp,pF,kE,en]
    .by_cases h2:lot=2
     .subst h2;have en:wL 2 bl sp c k=mainL++[xh c k]:=rfl;simp_arith[cr,k1,k2,Bb pP (wM c k),hT,hM,s1,s2,s3,zZ,dM a1,dM a2,dM a3,cJ,il,hp,pF,kE,en]
     .have b2:(lot==2)=false:=by simpa using h2
      have b3:(lot==3)=false:=by simpa using h3
      have en:wL lot bl sp c k=bl.take sp++[xh c k]++bl.drop (sp+1):=by unfold wL;rw[dS h3,dS h2]
      simp_arith[cr,k1,k2,Bb pP (wM c k),hT,hM,s1,s2,s3,dM a1,dM a2,cJ,il,b2,b3,hp,pF,kE,en])
 exact⟨x,y,z,lp⟩
def Fg(c:Int):∃names:List Str,0<names.length/\names.length<=4/\names.Nodup/\(∀n∈names,Nm n.cps.toList)/\("main" : Str)∈names/\gU [.int c]=.ok (.new (names.map D.str) true):=by
 have s0:=iS c 1063 8 (by decide);have s1:=iT c 1063 8 (by decide);obtain⟨n,hn⟩ : ∃n:Nat,1+dg c 1063 8=n:=⟨(1+dg c 1063 8).toNat,by lia⟩;have hn0:(0:Int)<n:=by lia
 obtain⟨bl,x4,hbl,hbx,lp1⟩:=CF c n (n:=n) (by lia) (e1:=some (.own [] true)) (e4:=none);have p0:=iS c 1069 n hn0;have p1:=iT c 1069 n hn0;obtain⟨sp,hsp⟩ : ∃sp:Nat,dg c 1069 n=sp:=⟨(dg c 1069 n).toNat,by lia⟩;have m0:=iS c 1061 4 (by decide);have m1:=iT c 1061 4 (by decide);obtain⟨m,hm⟩ : ∃m:Nat,dg c 1061 4=m:=⟨(dg c 1061 4).toNat,by lia⟩;obtain⟨y4,y7,y8,lp2⟩:=Ff c n (dg c 1087 4) (bl:=bl) (sp:=sp) (m:=m) (by lia) (by lia) (by lia) (e4:=x4);generalize hlot:dg c 1087 4=lot at lp2;generalize hoth:((List.range m).map λk=>T (wL lot bl sp c k))=oth at *;have hod:((List.range m).map λk=>D.str (T (wL lot bl sp c k)))=oth.map D.str:=by rw[<- hoth,dQ];rfl
 have hol:oth.length=m:=by rw[<- hoth];simp
 rw[hod]at lp2;have hk0:(0:Int)<(m:Int)+1:=by lia
 have q0:=iS c 1091 ((m:Int)+1) hk0;have q1:=iT c 1091 ((m:Int)+1) hk0;obtain⟨k,hk⟩ : ∃k:Nat,dg c 1091 ((m:Int)+1)=k:=⟨(dg c 1091 ((m:Int)+1)).toNat,by lia⟩;have ond:oth.Nodup:=by rw[<- hoth];rw[List.Nodup,o9];refine List.Pairwise.imp_of_mem (R:=(·≠ ·)) (λ{i j} hi hj hij e=>?_) (List.nodup_range (n:=m));have hi:=nh.mp hi;have hj:=nh.mp hj;exact Lv lot bl sp c i j (by lia) (by lia) (by lia) hij (I_ e)
 have omn:("main" : Str)∉oth:=by rw[<- hoth];intro h;obtain⟨i,hi,e⟩:=dP.mp h;have hi:=nh.mp hi;rw[zZ]at e;exact Fe lot bl sp c i (by lia) (by lia) (I_ e)
 have ol:∀x∈oth,Nm x.cps.toList:=by rw[<- hoth];intro x hx;obtain⟨i,hi,rfl⟩:=dP.mp hx;have hi:=nh.mp hi;have:=Lz lot (bl:=bl) (sp:=sp) c (k:=i) (by lia) (by lia) hbx (by lia);simpa using this
 refine⟨oth.take k++("main" : Str)::oth.drop k,by simp;lia,by simp;lia,?_,?_,by simp,?_⟩
 .have:(oth.take k++("main" : Str)::oth.drop k).Perm (("main" : Str)::oth):=by refine List.perm_middle.trans ?_;rw[List.take_append_drop]
  exact this.nodup_iff.mpr (qK.mpr ⟨omn,ond⟩)
 .intro x hx;rcases gg.mp hx with h|h
  .exact ol x (lW h)
  .rcases cB.mp h with rfl|h
   .exact wN
   .exact ol x (qP h)
 .have k1:-4611686018427387904<=(n:Int):=by lia
  have k2:(n:Int)<4611686018427387904:=by lia
  have k3:-4611686018427387904<=(m:Int):=by lia
  have k4:(m:Int)<4611686018427387904:=by lia
  have hlm:(((oth.map D.str).length:Nat):Int)=m:=by simp[hol]
  simp_arith[gU,oo,bK c 1063 8 (by decide) (by decide),hn];rw[u9 k1 k2,qU,o8,jU];simp_arith[lp1,bK c 1069 n (by decide) hn0,bK c 1087 4 (by decide) (by decide),bK c 1061 4 (by decide) (by decide),hsp,hlot,hm];rw[u9 k3 k4,qU,o8,jU];have fl1:D.aC ((oth.map D.str).take k)=true:=cT λd hd=>by obtain⟨a,_,rfl⟩:=dP.mp (lW hd);rfl
  have fl2:D.aC ((oth.map D.str).drop k)=true:=cT λd hd=>by obtain⟨a,_,rfl⟩:=dP.mp (qP hd);rfl
  have fl3:D.aC ((oth.map D.str).take k++[D.str "main"])=true:=cT λd hd=>by
   rcases gg.mp hd with h|h
   .obtain⟨a,_,rfl⟩:=dP.mp (lW h);rfl
   .rw[gr.mp h];rfl
  have fl4:D.aC ((oth.map D.str).take k++[D.str "main"]++(oth.map D.str).drop k)=true:=cT λd hd=>by
   rcases gg.mp hd with h|h
   .rcases gg.mp h with h|h
    .obtain⟨a,_,rfl⟩:=dP.mp (lW h);rfl
    .rw[gr.mp h];rfl
   .obtain⟨a,_,rfl⟩:=dP.mp (qP h);rfl
  have ln1:((oth.map D.str).take k).length+[D.str "main"].length<=1000000:=by simp;lia
  have ln2:((oth.map D.str).take k++[D.str "main"]).length+((oth.map D.str).drop k).length<=1000000:=by simp;lia
  simp_arith[lp2,hlm,bK c 1091 ((m:Int)+1) (by decide) hk0,hk,vt,CD,bJ fl1,bJ fl2,sK ln1,bJ fl3,sK ln2,bJ fl4];simp
end W
namespace W
open PySem PySem.StrLaws PySem.Builtin.Str
noncomputable def jn(sep:List Nat):List (List Nat)->List Nat
 |[]=>[]
 |[p]=>p
 |p::q::r=>p++sep++jn sep (q::r)
def mx(sep p:List Nat){ps:List (List Nat)}(h:ps≠[]):jn sep (p::ps)=p++sep++jn sep ps:=by
 cases ps with
 |nil=>exact(h rfl).elim
 |cons q r=>rfl
def z9(x:List Nat)(sep:List Nat)(k:Nat):At (T x) (T sep) (T x).length k↔k+sep.length<=x.length/\(x.drop k).take sep.length=sep:=by
 unfold At;have hl:(T x).length=x.length:=by show x.toArray.size=_;simp
 have hs:(T sep).length=sep.length:=by show sep.toArray.size=_;simp
 rw[hl,hs];unfold subAt;rw[hs];constructor
 .rintro⟨h1,h2⟩;refine⟨h1,?_⟩;have:=eq_of_beq h2;have:=ie Array.toList this;simpa using this
 .rintro⟨h1,h2⟩;refine⟨h1,?_⟩;rw[tW];apply Array.ext';simpa using h2
def wO(pre p post:List Nat):strSub (T (pre++p++post)) pre.length (pre.length+p.length)=T p:=by apply Str.ext';show(pre++p++post).toArray.extract pre.length (pre.length+p.length)=p.toArray;apply Array.ext';simp
def Fh{pre p post:List Nat}{c:Nat}{st:List Nat}(hc:c∉p){k:Nat}(h1:pre.length<=k)(h2:k<pre.length+p.length):¬At (T (pre++p++post)) (T (c::st)) (T (pre++p++post)).length k:=by
 rw[z9];rintro⟨_,h⟩;have e:((pre++p++post).drop k).take (c::st).length=c::st:=h;have e2:(pre++p++post)[k]?=some c:=by have:=ie (λl=>l[0]?) e;simp only[List.getElem?_cons_zero]at this;rw[List.getElem?_take_of_lt (by simp),List.getElem?_drop]at this;simpa using this
 rw[qN,h_ h1,kq (by lia)]at e2;exact hc (fj e2)
def LA(pre p sep post:List Nat):At (T (pre++p++(sep++post))) (T sep) (T (pre++p++(sep++post))).length (pre.length+p.length):=by
 rw[z9];refine⟨by simp;lia,?_⟩;have:pre.length+p.length=(pre++p).length:=by simp
 rw[this,List.drop_left,List.take_left]
theorem nN(c:Nat)(st:List Nat):∀(ps:List (List Nat))(pre:List Nat)(cuts:List Nat)(f:Nat),ps≠[]->(∀p∈ps,c∉p)->
 ChainG (T (pre++jn (c::st) ps)) (T (c::st)) (T (pre++jn (c::st) ps)).length pre.length cuts f->(∀k,f<=k->¬At (T (pre++jn (c::st) ps)) (T (c::st)) (T (pre++jn (c::st) ps)).length k)->
 partsFrom (T (pre++jn (c::st) ps)) (c::st).length pre.length cuts=ps.map T
 |[],_,_,_,h,_,_,_=>(h rfl).elim
 |[p],pre,cuts,f,_,hc,hG,hn=>by
  have hp:=hc p (by simp);have e0:pre++jn (c::st) [p]=pre++p++[]:=by simp[jn]
  rw[e0]at hG hn ⊢;have no:∀k,pre.length<=k->¬At (T (pre++p++[])) (T (c::st)) (T (pre++p++[])).length k:=λk hk hA=>by
   by_cases h2:k<pre.length+p.length
   .exact Fh hp hk h2 hA
   .have:=(z9 _ _ _).mp hA;simp at this;lia
  cases cuts with
  |nil=>
   show[strSub (T (pre++p++[])) pre.length (T (pre++p++[])).length]=[T p];have:(T (pre++p++[])).length=pre.length+p.length:=by show(pre++p++[]).toArray.size=_;simp
   rw[this,wO]
  |cons d r=>exact(no d hG.1 hG.2.1).elim
 |p::q::r,pre,cuts,f,_,hc,hG,hn=>by
  have hp:=hc p (by simp);have e0:pre++jn (c::st) (p::q::r)=pre++p++((c::st)++jn (c::st) (q::r)):=by rw[mx _ _ (by simp)];simp
  have e1:pre++p++((c::st)++jn (c::st) (q::r))=(pre++p++(c::st))++jn (c::st) (q::r):=by simp
  rw[e0]at hG hn ⊢;have yes:=LA pre p (c::st) (jn (c::st) (q::r));cases cuts with
  |nil=>have:f=pre.length:=hG;exact(hn _ (by lia) yes).elim
  |cons d cs=>
   obtain⟨g1,g2,g3,g4⟩:=hG;have ed:d=pre.length+p.length:=by
    rcases Nat.lt_trichotomy d (pre.length+p.length)with h|h|h
    .exact(Fh hp g1 h g2).elim
    .exact h
    .exact(g3 _ (by lia) h yes).elim
   subst ed;have hw:(T (c::st)).length=(c::st).length:=by show(c::st).toArray.size=_;simp
   rw[hw]at g4;have hl:pre.length+p.length+(c::st).length=(pre++p++(c::st)).length:=by simp;lia
   rw[hl,e1]at g4;rw[e1]at hn;have ih:=nN c st (q::r) (pre++p++(c::st)) cs f (by simp) (λx hx=>hc x (by simp at hx ⊢;exact .inr hx)) g4 hn;show strSub _ pre.length (pre.length+p.length)::partsFrom _ (c::st).length (pre.length+p.length+(c::st).length) cs=_;rw[wO,hl,e1,ih];rfl
def yC(c:Nat)(st:List Nat)(ps:List (List Nat))(h:ps≠[])(hc:∀p∈ps,c∉p) :
 Builtin.Str.partsBetween (T (jn (c::st) ps)) (Builtin.Str.occurrences (T (jn (c::st) ps)) (T (c::st)) 0 (T (jn (c::st) ps)).length ((T (jn (c::st) ps)).length+1)) (T (c::st)).length=ps.map T:=by
 obtain⟨f,hG,hn⟩:=occ_tight (T (jn (c::st) ps)) (T (c::st)) (by show 1<=(c::st).toArray.size;simp);have key:=nN c st ps [] (occurrences (T (jn (c::st) ps)) (T (c::st)) 0 (T (jn (c::st) ps)).length ((T (jn (c::st) ps)).length+1)) f h hc hG hn;have hw:(T (c::st)).length=(c::st).length:=by show(c::st).toArray.size=_;simp
 rw[partsBetween_eq,hw];exact key
def z_(c:Nat)(st:List Nat)(ps:List (List Nat))(h:ps≠[])(hc:∀p∈ps,c∉p)(ha:c<256)(hs:∀x∈st,x<256):Txt.split (T (jn (c::st) ps)) (T (c::st))=ps.map T:=by
 obtain⟨f,hG,hn⟩:=occ_tight (T (jn (c::st) ps)) (T (c::st)) (by show 1<=(c::st).toArray.size;simp);have key:=nN c st ps [] (occurrences (T (jn (c::st) ps)) (T (c::st)) 0 (T (jn (c::st) ps)).length ((T (jn (c::st) ps)).length+1)) f h hc hG hn;have hw:(T (c::st)).length=(c::st).length:=by show(c::st).toArray.size=_;simp
 have one:∀x:Str,strKind x<strKind (T (c::st))->False:=λx hx=>by
  have k1:strKind (T (c::st))=1:=by
   unfold Builtin.Str.strKind;have:(T (c::st)).cps.all (·< 256)=true:=by
    rw[<- Array.all_toList,g6];intro y hy;have hy:y∈c::st:=by simpa using hy
    rcases cB.mp hy with rfl|hy
    .exact gh ha
    .exact gh (hs y hy)
   rw[c5 this]
  rw[k1]at hx;unfold Builtin.Str.strKind at hx;split at hx
  .lia
  .split at hx<;>lia
 have lone:(∃p,ps=[p])\/∃p q r,ps=p::q::r:=by
  cases ps with
  |nil=>exact(h rfl).elim
  |cons p r=>cases r with
   |nil=>exact .inl ⟨p,rfl⟩
   |cons q r=>exact .inr ⟨p,q,r,rfl⟩
 unfold Txt.split;by_cases h1:(decide ((T (jn (c::st) ps)).length<(T (c::st)).length) || decide (strKind (T (jn (c::st) ps))<strKind (T (c::st))))=true
 .rw[c5 h1];rw[nR,gq,gq]at h1;rcases h1 with h1|h1
  .rcases lone with⟨p,rfl⟩|⟨p,q,r,rfl⟩
   .rfl
   .exfalso;rw[hw]at h1;have:(T (jn (c::st) (p::q::r))).length=(jn (c::st) (p::q::r)).length:=by show(jn (c::st) (p::q::r)).toArray.size=_;simp
    rw[this,mx _ _ (by simp)]at h1;simp at h1;lia
  .exact(one _ h1).elim
 .rw[dS h1];by_cases h2:(occurrences (T (jn (c::st) ps)) (T (c::st)) 0 (T (jn (c::st) ps)).length ((T (jn (c::st) ps)).length+1)).isEmpty=true
  .rw[c5 h2];have h2':=List.isEmpty_iff.mp h2;rw[h2']at key;rw[<- key];show _=[strSub (T (jn (c::st) ps)) 0 (T (jn (c::st) ps)).length];have:=wO [] (jn (c::st) ps) [];simp only[Rh,kH,qL,Rz]at this;have hl:(T (jn (c::st) ps)).length=(jn (c::st) ps).length:=by show(jn (c::st) ps).toArray.size=_;simp
   rw[hl,this]
  .rw[dS h2,partsBetween_eq,hw];exact key
def HQ(sep:List Nat):∀ps:List (List Nat),ps≠[]->Txt.join (T sep) (ps.map T)=T (jn sep ps):=λps h=>by
 have e:∀ps:List (List Nat),ps≠[]->Str.join (T sep) (ps.map T)=T (jn sep ps):=by
  intro ps;induction ps with
  |nil=>intro h;exact(h rfl).elim
  |cons p r ih=>
   intro _;cases r with
   |nil=>rfl
   |cons q r=>have:=ih (by simp);show T p++T sep++Str.join (T sep) ((q::r).map T)=_;rw[this,show jn sep (p::q::r)=p++sep++jn sep (q::r)from rfl];apply Str.ext';show p.toArray++sep.toArray++(jn sep (q::r)).toArray=(p++sep++jn sep (q::r)).toArray;simp
 show Builtin.Str.glued (T sep) (ps.map T)=_;rw[glued_eq_join];exact e ps h
end W
namespace W
open PySem L2 L3
def Jb{x y:Str}{f g:Bool}{al bl:List Nat}:wg (.val (.str x) f al) (.val (.str y) g bl)=.ok (.val (.bl (!(decide (y.cps.toList<x.cps.toList)))) true []):=(rfl)
def Bc(k1 k2:R->R->Res R)(fa fb fc:En->Res R)(env:En){ra rb rc:R}{v:R}(ha:fa env=.ok ra)(hb:fb env=.ok rb)(hc:fc env=.ok rc){f:Bool}{al:List Nat}(h1:k1 ra rb=.ok (.val (.bl true) f al))(h2:k2 rb rc=.ok v):jh k1 k2 fa fb fc env=.ok v:=by unfold jh;rw[ha,qU,hb,qU,h1,qU];show(fc env).bind _=_;rw[hc,qU,h2]
def QF{a b:Nat}(h:b<=a):decide ([a]<[b])=false:=by
 apply fm;intro z;rw[List.cons_lt_cons_iff]at z;rcases z with z|⟨_,z⟩
 .lia
 .exact absurd z (by simp)
def HR(l:List Nat):lw (T l)=l.map λc=>D.str (T [c]):=by unfold lw;simp
def LB(f:En->Res R)(env:En):AY f env=(f env).bind AX:=(rfl)
def HS{z:Str}{f:Bool}{al:List Nat}:AX (.val (.str z) f al)=.ok ⟨lw z,true,[]⟩:=(rfl)
def LC{z:Str}(h:z.length<=1000000):EC (.str z)=.ok (.val (.int z.length) true []):=c5 h
def tw{l:List Nat}(h:Nm l):jB [.str (T l)]=.ok (.val (.bl true) true []):=by
 obtain⟨⟨h1,h2⟩,h3⟩:=h;have hc:=bb (mk:=λd=>gN 0 d true (dv [some (.val (.str (T l)) false)] 1 [])) (test:=λ_=>.ok true) (elt:=ql) (λc:Nat=>D.str (T [c])) (λ_=>.val (.bl true) true []) l
  λc hc=>⟨[some (.val (.str (T [c])) true)],rfl,rfl,by
   refine Bc wg wg _ _ _ _ (ra:=.val (.str "a") true []) (rb:=.val (.str (T [c])) true []) (rc:=.val (.str "z") true []) rfl rfl rfl (f:=true) (al:=[]) ?_ ?_
   .rw[Jb,show((T [c]).cps.toList)=[c]from rfl,show(("a" : Str).cps.toList)=[97]from by decide,QF (h3 c hc).1];rfl
   .rw[Jb,show((T [c]).cps.toList)=[c]from rfl,show(("z" : Str).cps.toList)=[122]from by decide,QF (h3 c hc).2];rfl⟩
 have hl:(T l).length<=1000000:=by rw[kD];lia
 have c1:jh C1 C1 (vC (.int 1)) (gR db (ac (aj 0) ao)) (vC (.int 8)) [some (.val (.str (T l)) false)]=.ok (.val (.bl true) true []):=by
  refine Bc C1 C1 _ _ _ _ (ra:=.val (.int 1) true []) (rb:=.val (.int (T l).length) true []) (rc:=.val (.int 8) true []) rfl ?_ rfl (f:=true) (al:=[]) ?_ ?_
  .simp_arith[LC hl]
  .rw[KD,kD,gh (by lia)]
  .rw[KD,kD,gh (by lia)]
 simp_arith[jB,ve,c1,LB,HS,HR];rw[bI (by rw[bH];lia) hc,eV (λ_=>D.bl true),bJ (aV (λ_=>D.bl true) l λ_=>rfl)];simp_arith[EU,pG]
noncomputable def m6(n:Nat):List Nat:=((toString ((n:Nat):Int):String):Str).cps.toList
def Oc(n:Nat):((toString ((n:Nat):Int):String):Str)=T (m6 n):=uw _
noncomputable def P8:Res R->Bool
 |.ok (.val (.bl true) true [])=>true
 |_=>false
def nO{r:Res R}(h:P8 r=true):r=.ok (.val (.bl true) true []):=by
 unfold P8 at h;split at h
 .rfl
 .cases h
noncomputable def oN(l:List Nat):Bool:=l.all λx=>(decide (97<=x)&&decide (x<=122)) ||(decide (48<=x)&&decide (x<=57))
set_option maxRecDepth 100000 in
theorem HU:∀n:Fin 300,(P8 (iz [.str (T (m6 n.val))])&&(decide (PySem.intText? (T (m6 n.val))=some ((n.val:Nat):Int))&&(oN (m6 n.val)&&decide ((m6 n.val).length<=3))))=true:=by decide +kernel
def oO{n:Nat}(h:n<300):iz [.str (T (m6 n))]=.ok (.val (.bl true) true [])/\PySem.intText? (T (m6 n))=some ((n:Nat):Int)/\oN (m6 n)=true/\(m6 n).length<=3:=by have:=HU ⟨n,h⟩;simp only[fq,gq]at this;exact⟨nO this.1,this.2.1,this.2.2.1,this.2.2.2⟩
def oP(fo fa:En->Res R)(env:En):nz fo fa env=(fo env).bind (oe fa env):=(rfl)
def mz{fa:En->Res R}{env:En}{a:Str}{f:Bool}{al:List Nat}:oe fa env (.val (.str a) f al)=(fa env).bind (gS a):=(rfl)
def oQ{c:Nat}{st:List Nat}{ps:List (List Nat)}{x:Str}{f:Bool}{al:List Nat}(hx:x=T (c::st))(h:ps≠[])(hc:∀p∈ps,c∉p)(hl:(jn (c::st) ps).length<=100000)(hn:ps.length<=100000)(ha:c<256)(hs:∀y∈st,y<256) :
 gS (T (jn (c::st) ps)) (.val (.str x) f al)=.ok (.new (ps.map λp=>D.str (T p)) true):=by
 subst hx;have e1:=z_ c st ps h hc ha hs;have e2:=yC c st ps h hc;have ok:md (T (jn (c::st) ps)) (T (c::st)):=by refine⟨by rw[kD];simp,by rw[kD];exact hl,by rw[e1,bH];exact hn,by rw[e2,bH];exact hn⟩
 show(if md _ _ then _ else _)=_;rw[c5 ok,e1,dQ];rfl
def LD:(" " : Str)=T [32]:=by decide
def Bd{l:List Nat}(h:oN l=true){c:Nat}(hc:c<48\/(57<c/\c<97)):c∉l:=λz=>by unfold oN at h;have:=g6.mp h c z;simp only[nR,fq,gq]at this;lia
theorem wQ(sep:List Nat){n:Nat}:∀ps:List (List Nat),(∀p∈ps,p.length<=n)->(jn sep ps).length<=ps.length*(n+sep.length)
 |[],_=>lY _
 |[p],h=>by have:=h p (by simp);show p.length<=1*(n+sep.length);lia
 |p::q::r,h=>by
  have h1:=h p (by simp);have ih:=wQ sep (q::r) λx hx=>h x (by simp at hx ⊢;exact .inr hx);have:(jn sep (p::q::r)).length=p.length+sep.length+(jn sep (q::r)).length:=by rw[mx _ _ (by simp)];simp;lia
  rw[this,gK];rw[Nat.succ_mul];lia
theorem tz{sep:List Nat}{x:Nat}:∀{ps:List (List Nat)},x∈jn sep ps->x∈sep\/∃p∈ps,x∈p
 |[],h=>by cases h
 |[p],h=>.inr ⟨p,by simp,h⟩
 |p::q::r,h=>by
  rw[mx _ _ (by simp)]at h;rcases gg.mp h with h|h
  .rcases gg.mp h with h|h
   .exact .inr ⟨p,by simp,h⟩
   .exact .inl h
  .rcases tz h with h|⟨p',h1,h2⟩
   .exact .inl h
   .exact .inr ⟨p',by simp at h1 ⊢;exact .inr h1,h2⟩
structure l5 where
 l:Str
 w:List Nat
 d:D
noncomputable def wR(h:Str)(cs:List l5):List D:=.str h::cs.map λc=>.str c.l
def xi(h:Str)(cs:List l5):List D:=.str h::cs.map λc=>.str (T c.w)
def F7(h:Str)(cs:List l5):List D:=.str h::cs.map l5.d
structure Wk(c:l5):Prop where
 Qp:cM [.str c.l,.str (T c.w)]=.ok (.val (.bl true) true [])
 keep:cv [some (.val (.str c.l) true),some (.val (.str (T c.w)) true)]=.ok (.val c.d true [])
 al:oN c.w=true
 len:c.w.length<=8
 str:∀(f:Bool)(al:List Nat),uf [.val c.d f al]=.ok (.val (.str (T c.w)) true [])
 flat:c.d.flat=true
def kZ{ds es:List D}{f g:Bool}{al:List Nat}:xX [.val (.tup ds) f al,.new es g]=.ok ⟨mJ ds es,f&&g,al++[]⟩:=(rfl)
theorem rK{α:Type}(g k:α->D):∀xs:List α,mJ (xs.map g) (xs.map k)=xs.map λa=>D.tup [g a,k a]
 |[]=>rfl
 |a::r=>by rw[b8,b8,b8];unfold mJ;rw[rK g k r]
def Fi(d:D)(ds:List D):dw (d::ds) (some 1) none=ds:=by rw[sN];rfl
def oR(h:Str)(cs:List l5):D.aC (wR h cs)=true:=by unfold wR;rw[be,aV _ _ λ_=>rfl];rfl
def Aa(d:D)(ds:List D):b0 (d::ds) 0=some d:=by unfold b0 t8;rw[c5 (by decide),c5 (by simp)];rfl
def Od{w f:Str}{ws fs:List D}(hf:D.aC fs=true)(hne:w≠f):di [.lst (.str w::ws),.tup (.str f::fs)]=.ok (.val (.bl false) true []):=by
 have b:(w==f)=false:=by simpa using hne
 have a0:b0 (D.str w::ws) 0=some (.str w):=Aa _ _;have a1:b0 (D.str f::fs) 0=some (.str f):=Aa _ _;have e1:b6 (.str w) (.str f)=false:=b;cases hl:((((ws.length+1:Nat)):Int)==((fs.length+1:Nat):Int))with
 |true=>simp_arith[di,j6,hf,zB,a0,a1,e1,il,hl]
 |false=>simp_arith[di,j6,hf,zB,a0,a1,e1,il,hl]
def LF{h:Str}{cs:List l5}(hl:cs.length<=10)(hc:∀c∈cs,Wk c):di [.lst (xi h cs),.tup (wR h cs)]=.ok (.val (.bl true) true []):=by
 have a0:b0 (xi h cs) 0=some (.str h):=Aa _ _;have a1:b0 (wR h cs) 0=some (.str h):=Aa _ _;have e1:b6 (.str h) (.str h)=true:=da _;have e2:(((((xi h cs).length:Nat):Int)==(((wR h cs).length:Nat):Int)))=true:=by unfold xi wR;simp
 have c1:dw (wR h cs) (some 1) none=cs.map λc=>.str c.l:=Fi _ _;have c2:dw (xi h cs) (some 1) none=cs.map λc=>.str (T c.w):=Fi _ _;have f1:D.aC (cs.map λc=>D.str c.l)=true:=aV _ _ λ_=>rfl;have f2:D.aC (cs.map λc=>D.str (T c.w))=true:=aV _ _ λ_=>rfl;have hcm:=bb (mk:=λd=>gT 2 (ay (gN 0) (ay (gN 1) bA)) d true (dv [some (.val (.lst (xi h cs)) false),some (.val (.tup (wR h cs)) false)] 2 [])) (test:=λ_=>.ok true) (elt:=j3) (λc:l5=>D.tup [.str c.l,.str (T c.w)]) (λ_=>.val (.bl true) true []) cs
  λc h=>⟨[some (.val (.str c.l) true),some (.val (.str (T c.w)) true)],rfl,rfl,by simp_arith[j3,(hc c h).Qp]⟩
 simp_arith[di,j6,oR,zB,a0,a1,e1,il,e2,c1,c2,f1,f2,kZ,rK (λc:l5=>D.str c.l) (λc=>.str (T c.w))];rw[bI (by rw[bH];lia) hcm,eV (λ_=>D.bl true),bJ (aV (λ_=>D.bl true) cs λ_=>rfl)];simp_arith[EU,pG]
noncomputable def fD(p:Str×List D):D:=.tup (.str p.1::p.2)
noncomputable def wU(h:Str)(cs:List l5):List (List Nat):=h.cps.toList::cs.map l5.w
def jJ(h:Str)(cs:List l5):List Nat:=jn [32] (wU h cs)
def LG(h:Str)(cs:List l5):((wU h cs).map λp=>D.str (T p))=xi h cs:=by unfold wU xi;rw[b8,<- uw,dQ];rfl
structure yV(h:Str) (cs:List l5):Prop where
 hd:oN h.cps.toList=true
 hl:h.cps.toList.length<=8
 len:cs.length<=3
 wk:∀c∈cs,Wk c
def yV.no{h:Str}{cs:List l5}(r:yV h cs){c:Nat}(hc:c<48\/(57<c/\c<97)):∀p∈wU h cs,c∉p:=λp hp=>by
 rcases cB.mp hp with rfl|hp
 .exact Bd r.hd hc
 .obtain⟨x,hx,rfl⟩:=dP.mp hp;exact Bd (r.wk x hx).al hc
def yV.FZ{h:Str}{cs:List l5}(r:yV h cs):(jJ h cs).length<=36:=by
 have:=wQ [32] (n:=8) (wU h cs) λp hp=>by
  rcases cB.mp hp with rfl|hp
  .exact r.hl
  .obtain⟨x,hx,rfl⟩:=dP.mp hp;exact(r.wk x hx).len
 have hl:=r.len;have e:(wU h cs).length=cs.length+1:=by unfold wU;simp
 rw[e]at this;simp only[gK,qL]at this;unfold jJ;lia
def yV.split{h:Str}{cs:List l5}(r:yV h cs){f:Bool}{al:List Nat}:gS (T (jJ h cs)) (.val (.str " ") f al)=.ok (.new (xi h cs) true):=by rw[<- LG];have hl:=r.len;have ht:=r.FZ;exact oQ (c:=32) (st:=[]) LD (by unfold wU;simp) (r.no (.inl (by decide))) (ib ht (by decide)) (by unfold wU;simp;lia) (by decide) (λ_ z=>by cases z)
def Jc{h:Str}{cs:List l5}(r:yV h cs){forms:List (Str×List D)}(hF:∀p∈forms,D.aC p.2=true/\(p.1=h->p.2=cs.map λc=>.str c.l))(hin:h∈forms.map (·.1)) :
 cO [.str (T (jJ h cs)),.tup (forms.map fD)]=.ok (.val (.tup (wR h cs)) true []):=by
 have hfl:D.aC (forms.map fD)=true:=cT λd hd=>by obtain⟨p,hp,rfl⟩:=dP.mp hd;show D.aC (.str p.1::p.2)=true;rw[be,(hF p hp).1];rfl
 obtain⟨i1,_⟩:=vq fD (asg:=gN 3) (fr:=true) (body:=cw) (λenv=>∃x:Option Sl,env=[some (.val (.str (T (jJ h cs))) false),some (.val (.tup (forms.map fD)) false),some (.own (xi h cs) true),x]) (λp=>decide (p.1=h)) (λp=>.val (fD p) true []) forms
  [some (.val (.str (T (jJ h cs))) false),some (.val (.tup (forms.map fD)) false),some (.own (xi h cs) true),none] ⟨_,rfl⟩ (by
   rintro p hp env ⟨x,rfl⟩;refine⟨_,rfl,?_⟩;have hpf:D.aC (.str p.1::p.2)=true:=by rw[be,(hF p hp).1];rfl
   by_cases e:p.1=h
   .refine .inl ⟨gh e,?_⟩;have e2:fD p=.tup (wR h cs):=by unfold fD wR;rw[e,(hF p hp).2 e]
    show cw [some (.val (.str (T (jJ h cs))) false),some (.val (.tup (forms.map fD)) false),some (.own (xi h cs) true),some (.val (fD p) true)]=_;rw[e2];simp_arith[cw,oR,LF (ib r.len (by decide)) r.wk]
   .refine .inr ⟨fm e,[some (.val (.str (T (jJ h cs))) false),some (.val (.tup (forms.map fD)) false),some (.own (xi h cs) true),some (.val (fD p) true)],?_,_,rfl⟩;show cw [some (.val (.str (T (jJ h cs))) false),some (.val (.tup (forms.map fD)) false),some (.own (xi h cs) true),some (.val (fD p) true)]=_;have hno:=Od (w:=h) (f:=p.1) (ws:=cs.map λc=>.str (T c.w)) (hF p hp).1 (kF e);have hno:di [.lst (xi h cs),.tup (.str p.1::p.2)]=.ok (.val (.bl false) true []):=hno;simp_arith[cw,fD,hpf,hno])
 obtain⟨p,hp,e⟩:=dP.mp hin;have hfind:∃q,forms.find? (λp=>decide (p.1=h))=some q/\fD q=.tup (wR h cs):=by
  cases q:forms.find? (λp=>decide (p.1=h))with
  |none=>have:=List.find?_eq_none.mp q p hp;simp[e]at this
  |some z=>
   have hz:z.1=h:=by have:=List.find?_some q;simpa using this
   have hm:=List.mem_of_find?_eq_some q;exact⟨z,rfl,by unfold fD wR;rw[hz,(hF z hm).2 hz]⟩
 obtain⟨q,hq,eq⟩:=hfind;have lp:=i1 q hq;rw[eq]at lp;simp_arith[cO,oA,oP,mz,r.split,hfl,lp]
def Fj{ds:List D}{f:Bool}:wc [.new ds f]=.ok (lg (.tup ds) f []):=(rfl)
def Oe(d:D)(ds:List D):dw (d::ds) none (some 1)=[d]:=by have:=vt (d::ds) 1;simpa using this
def Jd{h:Str}{cs:List l5}(r:yV h cs):dE [.str (T (jJ h cs)),.tup (wR h cs)]=.ok (.val (.tup (F7 h cs)) true []):=by
 have c1:dw (wR h cs) (some 1) none=cs.map λc=>.str c.l:=Fi _ _;have c2:dw (xi h cs) (some 1) none=cs.map λc=>.str (T c.w):=Fi _ _;have c3:dw (xi h cs) none (some 1)=[.str h]:=Oe _ _;have f1:D.aC (cs.map λc=>D.str c.l)=true:=aV _ _ λ_=>rfl;have f2:D.aC (cs.map λc=>D.str (T c.w))=true:=aV _ _ λ_=>rfl;have f3:D.aC (cs.map l5.d)=true:=cT λd hd=>by obtain⟨c,hc,rfl⟩:=dP.mp hd;exact(r.wk c hc).flat
 have f4:D.aC (D.str h::cs.map l5.d)=true:=by rw[be,f3];rfl
 have hcm:=bb (mk:=λd=>gT 2 (ay (gN 0) (ay (gN 1) bA)) d true (dv [some (.val (.str (T (jJ h cs))) false),some (.val (.tup (wR h cs)) false),some (.own (xi h cs) true),none] 2 [])) (test:=λ_=>.ok true) (elt:=cv) (λc:l5=>D.tup [.str c.l,.str (T c.w)]) (λc=>.val c.d true []) cs
  λc h=>⟨[some (.val (.str c.l) true),some (.val (.str (T c.w)) true)],rfl,rfl,(r.wk c h).keep⟩
 have hl:=r.len;have hal:[D.str h].length+(cs.map l5.d).length<=1000000:=by simp;lia
 simp_arith[dE,oy,oP,mz,r.split,oR,c1,c2,f1,f2,kZ,rK (λc:l5=>D.str c.l) (λc=>.str (T c.w))];rw[bI (by rw[bH];lia) hcm,eV l5.d,bJ f3];simp_arith[c3];rw[sK hal];rw[show[D.str h]++cs.map l5.d=D.str h::cs.map l5.d from rfl,bJ f4];simp_arith[Fj,f4,F7]
def cV(w:Bool):l5:=⟨"V",(wd w).cps.toList,.str (wd w)⟩
def cN(l:Str)(n:Int):l5:=⟨l,m6 n.toNat,.int n⟩
noncomputable def cF(f:Str):l5:=⟨"F",f.cps.toList,.str f⟩
def Je(l:Str)(x:Str)(hl:l="N"\/l="K"\/l="S"):cv [some (.val (.str l) true),some (.val (.str x) true)]=x_ [.val (.str x) true []]:=by rcases hl with rfl|rfl|rfl<;>rfl
def yD{x:Str}{n:Int}(h:PySem.intText? x=some n)(hl:x.length<=100):x_ [.val (.str x) true []]=.ok (.val (.int n) true []):=by show(match PySem.intText? x with|some n=>if x.length<=100 then _ else _|none=>_)=_;rw[h];exact c5 hl
def Be{n:Nat}(h:n<300)(f:Bool)(al:List Nat):uf [.val (.int (n:Int)) f al]=.ok (.val (.str (T (m6 n))) true []):=by show(if((n:Nat):Int).natAbs<1000000 then _ else _)=_;rw[c5 (by lia),Oc]
def OW(w:Bool):Wk (cV w):=by
 cases w
 .exact⟨nO (by decide +kernel),rfl,by decide,by decide,λf al=>by rw[show T (cV false).w=wd false from(uw _).symm];rfl,rfl⟩
 .exact⟨nO (by decide +kernel),rfl,by decide,by decide,λf al=>by rw[show T (cV true).w=wd true from(uw _).symm];rfl,rfl⟩
def Of(l:Str)(x:Str)(hl:l="N"\/l="K") (h:iz [.str x]=.ok (.val (.bl true) true [])):cM [.str l,.str x]=.ok (.val (.bl true) true []):=by
 rcases hl with rfl|rfl
 .have a:b6 (.str "N") (.str "F")=false:=rfl;have b:b6 (.str "N") (.str "V")=false:=rfl;have c:b6 (.str "N") (.str "S")=false:=rfl;simp_arith[cM,jZ,cJ,a,b,c,h]
 .have a:b6 (.str "K") (.str "F")=false:=rfl;have b:b6 (.str "K") (.str "V")=false:=rfl;have c:b6 (.str "K") (.str "S")=false:=rfl;simp_arith[cM,jZ,cJ,a,b,c,h]
def Og{l:Str}(hl:l="N"\/l="K") {n:Int} (h0:0<=n) (h1:n<300):Wk (cN l n):=by
 obtain⟨k,rfl⟩ : ∃k:Nat,n=k:=⟨n.toNat,by lia⟩;have hk:k<300:=by lia
 obtain⟨c1,c2,c3,c4⟩:=oO hk;have e:(cN l (k:Int)).w=m6 k:=rfl;refine⟨by rw[e];exact Of l _ hl c1,?_,by rw[e];exact c3,by rw[e];lia,λf al=>by rw[e];exact Be hk f al,rfl⟩;rw[e];show cv [some (.val (.str l) true),some (.val (.str (T (m6 k))) true)]=_;rw[Je l _ (hl.elim .inl λz=>.inr (.inl z))];exact yD c2 (by rw[kD];lia)
def Fk{l:List Nat}(h:Nm l):oN l=true:=by unfold oN;rw[g6];intro x hx;have:=h.2 x hx;simp only[nR,fq,gq];exact .inl this
def Oh(l:List Nat)(h:Nm l):cM [.str "F",.str (T l)]=.ok (.val (.bl true) true []):=by have a:b6 (.str "F") (.str "F")=true:=da _;simp_arith[cM,jZ,cJ,a,tw h]
def Q5{f:Str}(h:Nm f.cps.toList):Wk (cF f):=by have e:T (cF f).w=f:=(uw f).symm;refine⟨Oh _ h,?_,Fk h,h.1.2,λg al=>by rw[e];rfl,rfl⟩;rw[e];rfl
set_option maxRecDepth 100000 in
theorem QG{n:Int}(h0:1<=n)(h1:n<=4):Wk (cN "S" n):=by
 have:n=1\/n=2\/n=3\/n=4:=by lia
 have key:∀k:Nat,k<300->cM [.str "S",.str (T (m6 k))]=.ok (.val (.bl true) true [])->Wk (cN "S" (k:Int)):=λk hk hm=>by obtain⟨c1,c2,c3,c4⟩:=oO hk;have e:(cN "S" (k:Int)).w=m6 k:=rfl;refine⟨by rw[e];exact hm,?_,by rw[e];exact c3,by rw[e];lia,λf al=>by rw[e];exact Be hk f al,rfl⟩;rw[e];show cv [some (.val (.str "S") true),some (.val (.str (T (m6 k))) true)]=_;rw[Je "S" _ (.inr (.inr rfl))];exact yD c2 (by rw[kD];lia)
 rcases this with rfl|rfl|rfl|rfl
 .exact key 1 (by decide) (nO (by decide +kernel))
 .exact key 2 (by decide) (nO (by decide +kernel))
 .exact key 3 (by decide) (nO (by decide +kernel))
 .exact key 4 (by decide) (nO (by decide +kernel))
noncomputable def Rw.hd:Rw->Str
 |.skip=>"skip"
 |.back=>"back"
 |.stop=>"stop"
 |.set _ _=>"set"
 |.any _=>"any"
 |.turn _=>"turn"
 |.iff _ _ _=>"if"
 |.go _=>"go"
 |.fork _=>"fork"
 |.call _=>"call"
def Rw.cs:Rw->List l5
 |.skip=>[]
 |.back=>[]
 |.stop=>[]
 |.set w n=>[cV w,cN "N" n]
 |.any w=>[cV w]
 |.turn w=>[cV w]
 |.iff w n k=>[cV w,cN "N" n,cN "K" k]
 |.go k=>[cN "K" k]
 |.fork k=>[cN "K" k]
 |.call f=>[cF f]
def tB(r:Rw):r.d=F7 r.hd r.cs:=by cases r<;>rfl
noncomputable def Jf:List Str:=["skip","back","stop","set","any","turn","if","go","fork","call"]
def Fm:∀h∈Jf,oN h.cps.toList=true/\h.cps.toList.length<=8:=by decide
def Oi(r:Rw):r.hd∈Jf:=by cases r<;>(simp only[Rw.hd];decide)
noncomputable def rowsF:List (Str×List D):=[("skip",[]),("set",[.str "V",.str "N"]),("any",[.str "V"]),("turn",[.str "V"]),("if",[.str "V",.str "N",.str "K"]),("go",[.str "K"]),("fork",[.str "K"]),("call",[.str "F"]),("back",[]),("stop",[])]
def P9{names:List Str}{sv ov many:Int}{last:Bool}{r:Rw}(h:RwOk names sv ov many last r)(hn:∀n∈names,Nm n.cps.toList)(h1:sv<=4)(h2:ov<=4)(h3:many<=300):yV r.hd r.cs:=by
 have ho:=Fm _ (Oi r);have hv:∀w,vl sv ov w<=4:=λw=>by cases w<;>assumption
 have no:∀c∈([]:List l5),Wk c:=λ_ z=>by cases z
 have one:∀{a:l5},Wk a->∀c∈[a],Wk c:=λha c hc=>by rw[gr.mp hc];exact ha
 cases r with
 |skip=>exact⟨ho.1,ho.2,by decide,no⟩
 |back=>exact⟨ho.1,ho.2,by decide,no⟩
 |stop=>exact⟨ho.1,ho.2,by decide,no⟩
 |any w=>exact⟨ho.1,ho.2,by show 1<=3;decide,one (OW w)⟩
 |turn w=>exact⟨ho.1,ho.2,by show 1<=3;decide,one (OW w)⟩
 |set w n=>
  refine⟨ho.1,ho.2,by show 2<=3;decide,λc hc=>?_⟩;have:=hv w;rcases cB.mp hc with rfl|hc
  .exact OW w
  .exact one (Og (.inl rfl) h.1.1 (by have:=h.1.2;lia)) c hc
 |iff w n k=>
  refine⟨ho.1,ho.2,by show 3<=3;decide,λc hc=>?_⟩;have:=hv w;rcases cB.mp hc with rfl|hc
  .exact OW w
  .rcases cB.mp hc with rfl|hc
   .exact Og (.inl rfl) h.1.1.1 (by have:=h.1.1.2;lia)
   .exact one (Og (.inr rfl) h.1.2.1 (by have:=h.1.2.2;lia)) c hc
 |go k=>exact⟨ho.1,ho.2,by show 1<=3;decide,one (Og (.inr rfl) h.1 (by have:=h.2;lia))⟩
 |fork k=>exact⟨ho.1,ho.2,by show 1<=3;decide,one (Og (.inr rfl) h.1.1 (by have:=h.1.2;lia))⟩
 |call f=>exact⟨ho.1,ho.2,by show 1<=3;decide,one (Q5 (hn f h.1))⟩
def Ab:∀p∈rowsF,D.aC p.2=true:=by intro p hp;unfold rowsF at hp;simp only[cB,fw,mH]at hp;rcases hp with rfl|rfl|rfl|rfl|rfl|rfl|rfl|rfl|rfl|rfl<;>rfl
def yE(r:Rw):(∀p∈rowsF,p.1=r.hd->p.2=r.cs.map λc=>.str c.l)/\r.hd∈rowsF.map (·.1):=by
 constructor
 .intro p hp;unfold rowsF at hp;simp only[cB,fw,mH]at hp;rcases hp with rfl|rfl|rfl|rfl|rfl|rfl|rfl|rfl|rfl|rfl<;>cases r<;>intro e<;>first|rfl|(exfalso;revert e;simp only[Rw.hd];decide)
 .cases r<;>(simp only[Rw.hd];decide)
def Rw.tx(r:Rw):List Nat:=jJ r.hd r.cs
def CG{r:Rw}(h:yV r.hd r.cs):oB [.str (T r.tx)]=.ok (.val (.tup r.d) true []):=by
 have e1:=Jc h (forms:=rowsF) (λp hp=>⟨Ab p hp,(yE r).1 p hp⟩) (yE r).2;have e2:=Jd h;have e3:D.aC (F7 r.hd r.cs)=true:=by rw[<- tB];exact(gf r).aC
 rw[tB];unfold Rw.tx;have e1:cO [.str (T (jJ r.hd r.cs)),.tup [.tup [.str "skip"],.tup [.str "set",.str "V",.str "N"],.tup [.str "any",.str "V"],.tup [.str "turn",.str "V"],.tup [.str "if",.str "V",.str "N",.str "K"],.tup [.str "go",.str "K"],.tup [.str "fork",.str "K"],.tup [.str "call",.str "F"],.tup [.str "back"],.tup [.str "stop"]]]=.ok (.val (.tup (wR r.hd r.cs)) true []):=e1;simp_arith[oB,yo,e1,oR,e2,e3]
noncomputable abbrev Pq:=Str×List Rw
def CH(rs:List Rw):List Nat:=jn [44,32] (rs.map Rw.tx)
def kU(q:Pq):List Nat:=jn [58,32] [q.1.cps.toList,CH q.2]
structure OG(q:Pq):Prop where
 nm:Nm q.1.cps.toList
 ne:0<q.2.length
 le:q.2.length<=300
 rw:∀r∈q.2,yV r.hd r.cs
def Jg{r:Rw}(h:yV r.hd r.cs){c:Nat}(hc:(c<48/\c≠32)\/(57<c/\c<97)):c∉r.tx:=λz=>by
 rcases tz z with z|⟨p,hp,z⟩
 .simp at z;lia
 .exact h.no (hc.imp (·.1) id) p hp z
def Jh{rs:List Rw}(h:∀r∈rs,yV r.hd r.cs){c:Nat}(hc:(c<48/\c≠32/\c≠44)\/(57<c/\c<97)):c∉CH rs:=λz=>by
 rcases tz z with z|⟨p,hp,z⟩
 .simp at z;lia
 .obtain⟨r,hr,rfl⟩:=dP.mp hp;exact Jg (h r hr) (hc.imp (λz=>⟨z.1,z.2.1⟩) id) z
def Ac{rs:List Rw}(h:∀r∈rs,yV r.hd r.cs)(hl:rs.length<=300):(CH rs).length<=11400:=by
 have:=wQ [44,32] (n:=36) (rs.map Rw.tx) λp hp=>by obtain⟨r,hr,rfl⟩:=dP.mp hp;exact(h r hr).FZ
 rw[bH]at this;simp only[gK,qL]at this;unfold CH;have h2:rs.length*(36+(0+1+1))<=300*(36+(0+1+1)):=o7 _ hl;lia
def Ad{q:Pq}(h:OG q):(kU q).length<=11500:=by
 have h1:=Ac h.rw h.le;have h2:=h.nm.1.2;have:(kU q).length=q.1.cps.toList.length+2+(CH q.2).length:=by unfold kU;rw[mx _ _ (by simp)];simp[jn];lia
 lia
def Oj{q:Pq}(h:OG q):59∉kU q:=λz=>by
 rcases tz z with z|⟨p,hp,z⟩
 .simp at z
 .simp only[cB,fw,mH]at hp;rcases hp with rfl|rfl
  .exact Bd (Fk h.nm) (.inr (by decide)) z
  .exact Jh h.rw (.inr (by decide)) z
def Ol:(": " : Str)=T [58,32]:=by decide
def Om:(", " : Str)=T [44,32]:=by decide
def On:("; " : Str)=T [59,32]:=by decide
def qD(q:Pq):D:=.tup [.str q.1,.lst (q.2.map λr=>.tup r.d)]
def P_(d e:D)(ds:List D):b0 (d::e::ds) 1=some e:=by unfold b0 t8;rw[c5 (by decide),c5 (by simp;lia)];rfl
def HV{q:Pq}(h:OG q):fM [.str (T (kU q))]=.ok (.val (qD q) true []):=by
 have h1:=Ac h.rw h.le;have h2:=Ad h;have hle:=h.le;have hne:=h.ne;have s1:∀(f:Bool)(al:List Nat),gS (T (kU q)) (.val (.str ": ") f al)=.ok (.new [.str (T q.1.cps.toList),.str (T (CH q.2))] true):=λf al=>
  oQ (c:=58) (st:=[32]) (ps:=[q.1.cps.toList,CH q.2]) Ol (by simp) (λp hp=>by
   simp only[cB,fw,mH]at hp;rcases hp with rfl|rfl
   .exact Bd (Fk h.nm) (.inr (by decide))
   .exact Jh h.rw (.inr (by decide))) (by show(kU q).length<=100000;lia) (by show 2<=100000;decide) (by decide) (by decide)
 have s2:∀(f:Bool)(al:List Nat),gS (T (CH q.2)) (.val (.str ", ") f al)=.ok (.new ((q.2.map Rw.tx).map λp=>D.str (T p)) true):=λf al=>oQ (c:=44) (st:=[32]) (ps:=q.2.map Rw.tx) Om (by intro z;have:(q.2.map Rw.tx).length=0:=(by rw[z];rfl);rw[bH]at this;lia) (λp hp=>by obtain⟨r,hr,rfl⟩:=dP.mp hp;exact Jg (h.rw r hr) (.inl (by decide))) (by show(CH q.2).length<=100000;lia) (by rw[bH];lia) (by decide) (by decide);have e0:T q.1.cps.toList=q.1:=(uw _).symm;have nm:=tw h.nm;rw[e0]at s1 nm;have a0:∀y,b0 [D.str q.1,y] 0=some (.str q.1):=λy=>Aa _ _;have a1:∀y,b0 [D.str q.1,y] 1=some y:=λy=>P_ _ _ _;have hcm:=bb (mk:=λd=>gN 0 d true (dv [some (.val (.str (T (kU q))) false),some (.own [.str q.1,.str (T (CH q.2))] true)] 1 [])) (test:=λ_=>.ok true) (elt:=f_) (λr:Rw=>D.str (T r.tx)) (λr=>.val (.tup r.d) true []) q.2
  λr hr=>⟨[some (.val (.str (T r.tx)) true)],rfl,rfl,by have fl:=(gf r).aC;simp_arith[f_,CG (h.rw r hr),fl]⟩
 have fl:D.aC (q.2.map λr=>D.tup r.d)=true:=cT λd hd=>by obtain⟨r,_,rfl⟩:=dP.mp hd;exact(gf r).aC
 simp_arith[fM,lC,oP,mz,s1,zB,il,a0,nm];rw[s2,dQ];simp_arith;rw[show List.map ((λp=>D.str (T p)) ∘ Rw.tx) q.2=q.2.map (λr=>D.str (T r.tx))from rfl,bI (by rw[bH];lia) hcm,eV (λr:Rw=>D.tup r.d),bJ fl];simp_arith[qD]
def Fo{α:Type}(g:α->D)(xs:List α):bz (xs.map λa=>.mG (g a))=true:=by
 induction xs with
 |nil=>rfl
 |cons a r ih=>rw[b8,u6,ih];rfl
def LH{α:Type}(g:α->D)(xs:List α):(xs.map λa=>R.mG (g a)).map R.d=xs.map g:=by rw[dQ];rfl
def nP(sv ov:Int):List l5:=[cN "S" sv,cN "S" ov]
def LI{sv ov:Int}(h1:1<=sv)(h2:sv<=4)(h3:1<=ov)(h4:ov<=4):yV "values" (nP sv ov):=by
 refine⟨by decide,by decide,by show 2<=3;decide,λc hc=>?_⟩;unfold nP at hc;simp only[cB,fw,mH]at hc;rcases hc with rfl|rfl
 .exact QG h1 h2
 .exact QG h3 h4
def Ji(sv ov:Int)(qs:List Pq):List Nat:=jn [59,32] (jJ "values" (nP sv ov)::qs.map kU)
def kW(sv ov:Int)(qs:List Pq):D:=.tup [.int sv,.int ov,.lst (qs.map qD)]
def HW(q:Pq):(qD q).flat=false:=by unfold qD;simp only[dZ,be,yd,oh,Rx,Rm]
def lR(sv ov:Int)(qs:List Pq):(kW sv ov qs).flat=false:=by unfold kW;simp only[dZ,be,gz,oh,Rx,Rm]
structure Iq(sv ov:Int) (qs:List Pq):Prop where
 s1:1<=sv
 s2:sv<=4
 o1:1<=ov
 o2:ov<=4
 n0:0<qs.length
 n4:qs.length<=4
 qw:∀q∈qs,OG q
section
variable{sv ov:Int}{qs:List Pq}
def Iq.len(h:Iq sv ov qs):(Ji sv ov qs).length<=100000:=by
 have hv:=(LI h.s1 h.s2 h.o1 h.o2).FZ;have h4:=h.n4;have:=wQ [59,32] (n:=11500) (jJ "values" (nP sv ov)::qs.map kU) λp hp=>by
  rcases cB.mp hp with rfl|hp
  .lia
  .obtain⟨q,hq,rfl⟩:=dP.mp hp;exact Ad (h.qw q hq)
 simp only[gK,qL,bH]at this;have h2:(qs.length+1)*(11500+(0+1+1))<=5*(11500+(0+1+1)):=o7 _ (by lia);unfold Ji;lia
def CJ(h:Iq sv ov qs):i_ [.str (T (Ji sv ov qs))]=.ok (.val (kW sv ov qs) true []):=by
 have hv:=LI h.s1 h.s2 h.o1 h.o2;have h4:=h.n4;have h0:=h.n0;have cK:=h.len;have s1:∀(f:Bool)(al:List Nat),gS (T (Ji sv ov qs)) (.val (.str "; ") f al)=.ok (.new ((jJ "values" (nP sv ov)::qs.map kU).map λp=>D.str (T p)) true):=λf al=>
  oQ (c:=59) (st:=[32]) (ps:=jJ "values" (nP sv ov)::qs.map kU) On (by simp) (λp hp=>by
   rcases cB.mp hp with rfl|hp
   .intro z;rcases tz z with z|⟨p,hp,z⟩
    .simp at z
    .exact hv.no (.inr (by decide)) p hp z
   .obtain⟨q,hq,rfl⟩:=dP.mp hp;exact Oj (h.qw q hq)) cK (by simp;lia) (by decide) (by decide)
 rw[b8,dQ]at s1;have e1:=Jc hv (forms:=[("values",[.str "S",.str "S"])]) (λp hp=>by rw[gr.mp hp];exact⟨rfl,λ_=>rfl⟩) (by simp);have e1:cO [.str (T (jJ "values" (nP sv ov))),.tup [.tup [.str "values",.str "S",.str "S"]]]=.ok (.val (.tup (wR "values" (nP sv ov))) true []):=e1;have e2:=Jd hv;have e2:dE [.str (T (jJ "values" (nP sv ov))),.tup (wR "values" (nP sv ov))]=.ok (.val (.tup [.str "values",.int sv,.int ov]) true []):=e2;have hcm:=λ(x y:Option Sl)=>bb (mk:=λd=>gN 0 d true (dv [x,some (.own (D.str (T (jJ "values" (nP sv ov)))::qs.map λq=>D.str (T (kU q))) true),y] 1 [])) (test:=λ_=>.ok true) (elt:=ji) (λq:Pq=>D.str (T (kU q))) (λq=>.mG (qD q)) qs
  λq hq=>⟨[some (.val (.str (T (kU q))) true)],rfl,rfl,by simp_arith[ji,HV (h.qw q hq),HW]⟩
 have s1:∀(f:Bool)(al:List Nat),gS (T (Ji sv ov qs)) (.val (.str "; ") f al)=.ok (.new (D.str (T (jJ "values" (nP sv ov)))::qs.map λq=>D.str (T (kU q))) true):=s1;have a0:∀(d:D)(ds:List D),b0 (d::ds) 0=some d:=Aa;have c1:=Fi (D.str (T (jJ "values" (nP sv ov)))) (qs.map λq=>D.str (T (kU q)));have f2:D.aC (qs.map λq=>D.str (T (kU q)))=true:=aV _ _ λ_=>rfl;have hl1:((((qs.map λq=>D.str (T (kU q))).length+1:Nat):Int)==1)=false:=by rw[bH];simp;lia
 have i1:b0 [D.str "values",D.int sv,D.int ov] 1=some (.int sv):=rfl;have i2:b0 [D.str "values",D.int sv,D.int ov] 2=some (.int ov):=rfl;simp_arith[i_,qm,Lo,oP,mz,s1,a0,e1,oR,e2,me,cJ,il,hl1,i1,i2,c1,f2];rw[bI (by rw[bH];lia) (hcm _ _),LH qD,Fo,List.filter_nil,kH,cf];simp_arith[kW]
end
def Fp(l:List Str):D.gH (l.map D.str)<=50:=ib (yi (n:=0) λ_=>cC 0) (lY _)
def Fq(neg:Bool)(x:Str)(l:List Str):ug neg (.str x) (.lst (l.map D.str))=.ok (.val (.bl (if neg then !decide (x∈l)else decide (x∈l))) true []):=by
 show IJ neg (.str x) (l.map D.str)=_;unfold IJ;rw[c5 ⟨Fp l,lY _⟩];have e:(l.map D.str).any (λe=>b6 e (.str x))=decide (x∈l):=by
  rw[List.any_map,Bool.eq_iff_iff,List.any_eq_true,gq];constructor
  .rintro⟨y,hy,h⟩;have:y=x:=by simpa[b6]using h
   exact this▸hy
  .intro h;exact⟨x,h,by simp[b6]⟩
 rw[e]
def tD(x:Str)(l:List Str):ug true (.str x) (.lst (l.map D.str))=.ok (.val (.bl (!decide (x∈l))) true []):=Fq true x l
def wV{t:En->Res Bool}{a bj:En->Res Fl}{env:En}(h:t env=.ok false):aG (eJ t a bu) bj env=bj env:=by rw[ya,Es,h];rfl
def Fs{s bj:En->Res Fl}{env bp:En}(h:s env=.ok (.nx bp)):aG s bj env=bj bp:=by rw[ya,h];rfl
section
variable{sv ov:Int}{qs:List Pq}{names:List Str}
def Qa(w:Bool):jv [("shared",0),("own",1)] (wd w)=some (if w then 1 else 0):=by cases w<;>decide
def Oo(w:Bool):b0 [D.int sv,D.int ov,D.lst (qs.map qD)] (if w then 1 else 0)=some (.int (vl sv ov w)):=by cases w<;>rfl
def bP{rs:List Rw}{i:Int}{ds:List D}{hd:Str}{b1 b2 b3 b4 last:Bool}(ea:b0 (rs.map λr=>D.tup r.d) i=some (.tup ds))(fl:D.aC ds=true)(a0:b0 ds 0=some (.str hd))(hlast:(i==(rs.length:Int)-1)=last)
 (q1:b6 (.str hd) (.str "call")=b1) (c1:b1=true->∃f,b0 ds 1=some (.str f)/\f∈names)
 (q2:ug false (.str hd) (.tup [.str "set",.str "if"])=.ok (.val (.bl b2) true [])) (c2:b2=true->∃w n,b0 ds 1=some (.str (wd w))/\b0 ds 2=some (.int n)/\n<vl sv ov w)
 (q3:ug false (.str hd) (.tup [.str "if",.str "go",.str "fork"])=.ok (.val (.bl b3) true [])) (c3:b3=true->∃k,b0 ds (-1)=some (.int k)/\k<rs.length)
 (q4:ug true (.str hd) (.tup [.str "go",.str "back",.str "stop"])=.ok (.val (.bl b4) true [])) (c4:last=true->b4=false) :
 cP [kW sv ov qs,.lst (names.map D.str),.lst (rs.map λr=>.tup r.d),.int i]=.ok (.val .ig true []):=by
 have hln:(((rs.map λr=>D.tup r.d).length:Nat):Int)=rs.length:=by simp
 have s0:bS 4 (aE 2 (aj 3)) [some (.val (kW sv ov qs) false),some (.val (.lst (names.map D.str)) false),some (.val (.lst (rs.map λr=>.tup r.d)) false),some (.val (.int i) false),none]=.ok (.nx [some (.val (kW sv ov qs) false),some (.val (.lst (names.map D.str)) false),some (.val (.lst (rs.map λr=>.tup r.d)) false),some (.val (.int i) false),some (.val (.tup ds) true)]):=by simp_arith[ea,fl]
 show js (eO [some (.val (kW sv ov qs) false),some (.val (.lst (names.map D.str)) false),some (.val (.lst (rs.map λr=>.tup r.d)) false),some (.val (.int i) false),none])=_;unfold eO;rw[Fs s0,wV (t:=su _ (vB (v2 jT _ _))) (by
  cases b1 with
  |false=>simp_arith[fl,a0,cJ,q1]
  |true=>obtain⟨f,hf,hm⟩:=c1 rfl;simp_arith[fl,a0,cJ,q1,hf,A1,tD,hm]),wV (t:=su _ (vB (v2 DG _ (aE 0 _)))) (by
  cases b2 with
  |false=>simp_arith[fl,a0,q2]
  |true=>obtain⟨w,n,h1,h2,h3⟩:=c2 rfl;have h4:decide (vl sv ov w<=n)=false:=fm (by lia);simp_arith[fl,a0,q2,h1,h2,E5 (Qa w),kW,Oo,h4]),wV (t:=su _ (vB (v2 DG (aE 4 (zp _)) _))) (by
  cases b3 with
  |false=>simp_arith[fl,a0,q3]
  |true=>obtain⟨k,h1,h2⟩:=c3 rfl;have h4:decide ((rs.length:Int)<=k)=false:=fm (by lia);simp_arith[fl,a0,q3,h1,hln,h4]),Es]
 cases last with
 |false=>simp_arith[fl,il,hln,hlast,cJ]
 |true=>simp_arith[fl,il,hln,hlast,cJ,a0,q4,c4 rfl]
def CK{rs:List Rw}{i:Nat}{r:Rw}(e:rs[i]?=some r)(h:RwOk names sv ov rs.length (decide (i+1=rs.length)) r) :
 cP [kW sv ov qs,.lst (names.map D.str),.lst (rs.map λr=>.tup r.d),.int (i:Nat)]=.ok (.val .ig true []):=by
 have hi:=(cD.mp e).1;have fl:=(gf r).aC;have ea:b0 (rs.map λr=>D.tup r.d) (i:Int)=some (.tup r.d):=by unfold b0;rw[zU (by lia) (by rw[bH];lia)];simp[e]
 have hlast:((i:Int)==(rs.length:Int)-1)=decide (i+1=rs.length):=by
  by_cases q:i+1=rs.length
  .rw[gh q];simp;lia
  .rw[fm q];simp;lia
 generalize decide (i+1=rs.length)=last at *;have no:∀{P:Prop},false=true->P:=λz=>by cases z
 have nl:∀{P:Prop},last=false->last=true->P:=λa b=>by rw[a]at b;cases b
 cases r with
 |skip=>exact bP ea fl rfl hlast rfl no rfl no rfl no rfl (nl h)
 |back=>exact bP ea fl rfl hlast rfl no rfl no rfl no rfl λ_=>rfl
 |stop=>exact bP ea fl rfl hlast rfl no rfl no rfl no rfl λ_=>rfl
 |any w=>exact bP ea fl rfl hlast rfl no rfl no rfl no rfl (nl h)
 |turn w=>exact bP ea fl rfl hlast rfl no rfl no rfl no rfl (nl h)
 |set w n=>exact bP ea fl rfl hlast rfl no rfl (λ_=>⟨w,n,rfl,rfl,h.1.2⟩) rfl no rfl (nl h.2)
 |iff w n k=>exact bP ea fl rfl hlast rfl no rfl (λ_=>⟨w,n,rfl,rfl,h.1.1.2⟩) rfl (λ_=>⟨k,rfl,h.1.2.2⟩) rfl (nl h.2)
 |go k=>exact bP ea fl rfl hlast rfl no rfl no rfl (λ_=>⟨k,rfl,h.2⟩) rfl λ_=>rfl
 |fork k=>exact bP ea fl rfl hlast rfl no rfl no rfl (λ_=>⟨k,rfl,h.1.2⟩) rfl (nl h.2)
 |call f=>exact bP ea fl rfl hlast rfl (λ_=>⟨f,rfl,h.1⟩) rfl no rfl no rfl (nl h.2)
end
theorem Ft:∀(xs a:List Str),(a++xs).Nodup->xs.foldl F4 a=a++xs
 |[],a,_=>by simp
 |x::xs,a,h=>by
  have hx:a.contains x=false:=by
   cases q:a.contains x with
   |false=>rfl
   |true=>
    have hm:x∈a:=by simpa using q
    have:=List.nodup_append.mp h;exact(this.2.2 x hm x (by simp) rfl).elim
  rw[List.foldl_cons];have e:F4 a x=a++[x]:=by unfold F4;rw[hx];rfl
  rw[e,Ft xs (a++[x]) (by simpa using h)];simp
def CL{xs:List Str}(h:xs.Nodup):pr xs=xs:=by have:=Ft xs [] (by simpa using h);simpa[pr]using this
def Fu(f:En->Res R)(env:En):wo f env=(f env).bind rH:=(rfl)
def Ae{xs:List Str}{f:Bool}{al:List Nat}(h:xs.length<=1000)(nd:xs.Nodup):rH (.val (.lst (xs.map D.str)) f al)=.ok (.val (.int (xs.length:Nat)) true []):=by show(match ku (xs.map D.str)with|some xs=>if xs.length<=1000 then _ else _|none=>_)=_;rw[pC];show(if xs.length<=1000 then _ else _)=_;rw[c5 h,CL nd]
def LJ(f:En->Res R)(env:En):Ep f env=(f env).bind (Eo env):=(rfl)
def HX(env:En)(r:R):Eo env r=.ok (.nx env):=(rfl)
section
variable{sv ov:Int}{qs:List Pq}
noncomputable abbrev qA(qs:List Pq):List Str:=qs.map (·.1)
def Fv{t:Option Sl}{q:Pq}(hr:∀i r,q.2[i]?=some r->RwOk (qA qs) sv ov q.2.length (decide (i+1=q.2.length)) r){x y:Option Sl}:∃z:Option Sl,
 cI (gN 5) true oC ((List.range q.2.length).map λk=>D.int (k:Nat)) [t,some (.val (kW sv ov qs) true),some (.own ((qA qs).map D.str) true),x,some (.val (.lst (q.2.map λr=>.tup r.d)) true),y]
  = .ok (.nx [t,some (.val (kW sv ov qs) true),some (.own ((qA qs).map D.str) true),x,some (.val (.lst (q.2.map λr=>.tup r.d)) true),z]):=by
 obtain⟨bp,lp,z,rfl⟩:=eB (λk:Nat=>D.int k) (asg:=gN 5) (fr:=true) (body:=oC) (List.range q.2.length) (λ_ env=>∃z:Option Sl,env=[t,some (.val (kW sv ov qs) true),some (.own ((qA qs).map D.str) true),x,some (.val (.lst (q.2.map λr=>.tup r.d)) true),z]) (List.range q.2.length) []
  [t,some (.val (kW sv ov qs) true),some (.own ((qA qs).map D.str) true),x,some (.val (.lst (q.2.map λr=>.tup r.d)) true),y] rfl ⟨_,rfl⟩
  (by
    rintro pre post k env ea ⟨z,rfl⟩;have hk:k<q.2.length:=by
     have:k∈List.range q.2.length:=by rw[ea];simp
     exact nh.mp this
    have e:=CK (qs:=qs) (i:=k) (r:=q.2[k]) (by simp[hk]) (hr k _ (by simp[hk]));refine⟨_,[t,some (.val (kW sv ov qs) true),some (.own ((qA qs).map D.str) true),x,some (.val (.lst (q.2.map λr=>.tup r.d)) true),some (.val (.int (k:Nat)) true)],rfl,?_,_,rfl⟩
    .simp_arith[oC,LJ,lR,e,HX])
 exact⟨z,lp⟩
def Fw(h:Iq sv ov qs)(hr:∀q∈qs,∀i r,q.2[i]?=some r->RwOk (qA qs) sv ov q.2.length (decide (i+1=q.2.length)) r){t:Option Sl}:∃x y z:Option Sl,
 cI (gT 2 (ay (gN 3) (ay (gN 4) bA))) true oD (qs.map qD) [t,some (.val (kW sv ov qs) true),some (.own ((qA qs).map D.str) true),none,none,none]
  = .ok (.nx [t,some (.val (kW sv ov qs) true),some (.own ((qA qs).map D.str) true),x,y,z]):=by
 obtain⟨bp,lp,x,y,z,rfl⟩:=eB qD (asg:=gT 2 (ay (gN 3) (ay (gN 4) bA))) (fr:=true) (body:=oD) qs (λ_ env=>∃x y z:Option Sl,env=[t,some (.val (kW sv ov qs) true),some (.own ((qA qs).map D.str) true),x,y,z]) qs []
  [t,some (.val (kW sv ov qs) true),some (.own ((qA qs).map D.str) true),none,none,none] rfl ⟨_,_,_,rfl⟩
  (by
    rintro pre post q env ea ⟨x,y,z,rfl⟩;have hq:q∈qs:=by rw[ea];simp
    obtain⟨z',lp⟩:=Fv (t:=t) (hr q hq) (x:=some (.val (.str q.1) true)) (y:=z);have hle:=(h.qw q hq).le;have hln:(((q.2.map λr=>D.tup r.d).length:Nat):Int)=(q.2.length:Nat):=by simp
    refine⟨[t,some (.val (kW sv ov qs) true),some (.own ((qA qs).map D.str) true),some (.val (.str q.1) true),some (.val (.lst (q.2.map λr=>.tup r.d)) true),z],[t,some (.val (kW sv ov qs) true),some (.own ((qA qs).map D.str) true),some (.val (.str q.1) true),some (.val (.lst (q.2.map λr=>.tup r.d)) true),z'],rfl,?_,_,_,_,rfl⟩
    .simp_arith[oD,hln];rw[u9 (by lia) (by lia),qU,o8,jU];simp_arith[lp])
 exact⟨x,y,z,lp⟩
def HY(h:Iq sv ov qs)(nd:(qA qs).Nodup) (hm:("main" : Str)∈qA qs) (hr:∀q∈qs,∀i r,q.2[i]?=some r->RwOk (qA qs) sv ov q.2.length (decide (i+1=q.2.length)) r) :
 wC [.str (T (Ji sv ov qs))]=.ok (.val (kW sv ov qs) true []):=by
 have h4:=h.n4;have hl:(qA qs).length<=1000:=by rw[bH];lia
 obtain⟨x,y,z,lp⟩:=Fw h hr (t:=some (.val (.str (T (Ji sv ov qs))) false));have a2:b0 [D.int sv,D.int ov,D.lst (qs.map qD)] 2=some (.lst (qs.map qD)):=rfl;have hcm:=λ(a b c d e:Option Sl)=>bb (mk:=λd'=>gT 2 (ay (gN 0) (ay (gN 1) bA)) d' true (dv [a,some (.val (kW sv ov qs) true),b,c,d,e] 2 [])) (test:=λ_=>.ok true) (elt:=sU) qD (λq=>.val (.str q.1) true []) qs
  λq hq=>⟨[some (.val (.str q.1) true),some (.val (.lst (q.2.map λr=>.tup r.d)) true)],rfl,rfl,by simp_arith[sU]⟩
 have fl:D.aC (qs.map λq=>D.str q.1)=true:=aV _ _ λ_=>rfl;have en:(qs.map λq=>D.str q.1)=(qA qs).map D.str:=by rw[dQ];rfl
 have hln:((((qA qs).map D.str).length:Nat):Int)=((qA qs).length:Nat):=by rw[bH]
 have hlt:decide ((((qA qs).length:Nat):Int)<(((qA qs).length:Nat):Int))=false:=fm (by lia);have iq:pE (kW sv ov qs) (.int 2) true []=.ok (.val (.lst (qs.map qD)) true []):=by unfold kW;simp_arith[a2]
 simp_arith[wC,E7,CJ h,lR,me,zD,iq];rw[bI (by rw[bH];lia) (hcm _ _ _ _ _),eV (λq:Pq=>D.str q.1),bJ fl,en];simp_arith[Fu,Ae hl nd,hln,hlt,tD,hm,lR,iq,lp]
end
def wW(fo fa:En->Res R)(env:En):x8 fo fa env=(fo env).bind (sH fa env):=(rfl)
def tE{fa:En->Res R}{env:En}{a:Str}{f:Bool}{al:List Nat}:sH fa env (.val (.str a) f al)=(fa env).bind (pD a):=(rfl)
def Oq(ps:List (List Nat)):ku (ps.map λp=>D.str (T p))=some (ps.map T):=by have:=pC (ps.map T);rw[dQ]at this;exact this
def Fx{sep:Str}{n:Nat}(ps:List (List Nat))(h:∀p∈ps,p.length<=n):qf sep (ps.map T)<=ps.length*(n+sep.length):=by
 unfold qf;rw[bH,Nat.mul_add];refine Nat.add_le_add ?_ (cC _);induction ps with
 |nil=>exact lY _
 |cons p r ih=>rw[b8,b8,List.sum_cons,gK,Nat.succ_mul,kD];have h1:=h p (by simp);have h2:=ih λq hq=>h q (by simp[hq]);lia
def HZ{x:Str}{sep:List Nat}{ps:List (List Nat)}{n:Nat}(hx:x=T sep)(h:ps≠[])(hn:∀p∈ps,p.length<=n)(hl:ps.length*(n+sep.length)<=1000000) :
 qf x (ps.map T)<=1000000/\Txt.join x (ps.map T)=T (jn sep ps):=by
 subst hx;refine⟨ib (Fx ps hn) (by rw[kD];exact hl),HQ sep ps h⟩
def pQ{x:Str}{sep:List Nat}{ps:List (List Nat)}{n:Nat}{r:R}(hr:r.d=.lst (ps.map λp=>.str (T p)))(hx:x=T sep)(h:ps≠[])(hn:∀p∈ps,p.length<=n)(hl:ps.length*(n+sep.length)<=1000000):pD x r=.ok (.val (.str (T (jn sep ps))) true []):=by obtain⟨a,b⟩:=HZ hx h hn hl;unfold pD;rw[hr];dsimp only;rw[Oq];dsimp only;rw[c5 a,b]
def LK{w:Str}{cs:List l5}(h:yV w cs)(f:Bool):d3 [some (.val (.tup (F7 w cs)) f)]=.ok (.val (.str (T (jJ w cs))) true []):=by
 have fl:D.aC (F7 w cs)=true:=by unfold F7;rw[be,cT λd hd=>by obtain⟨c,hc,rfl⟩:=dP.mp hd;exact(h.wk c hc).flat];rfl
 have hl:=h.len;have ew:F7 w cs=(((w.cps.toList,D.str w)::cs.map λc=>(c.w,c.d)):List (List Nat×D)).map (·.2):=by unfold F7;rw[b8,dQ];rfl
 have hw:(((w.cps.toList,D.str w)::cs.map λc=>(c.w,c.d)):List (List Nat×D)).map (·.1)=wU w cs:=by unfold wU;rw[b8,dQ];rfl
 generalize hps:((w.cps.toList,D.str w)::cs.map λc=>(c.w,c.d):List (List Nat×D))=ps at ew hw;have hks:∀p∈ps,(∀(g:Bool)(al:List Nat),uf [.val p.2 g al]=.ok (.val (.str (T p.1)) true []))/\p.2.flat=true:=by
  rw[<- hps];intro p hp;rcases cB.mp hp with rfl|hp
  .exact⟨λg al=>by rw[<- uw];rfl,rfl⟩
  .obtain⟨c,hc,rfl⟩:=dP.mp hp;exact⟨(h.wk c hc).str,(h.wk c hc).flat⟩
 have hpl:ps.length<=4:=by rw[<- hps];simp;lia
 have hcm:=bb (mk:=λd=>gN 0 d true (dv [some (.val (.tup (F7 w cs)) f)] 1 [])) (test:=λ_=>.ok true) (elt:=jj) (λp:List Nat×D=>p.2) (λp=>.val (.str (T p.1)) true []) ps
  λp hp=>⟨[some (.val p.2 true)],rfl,rfl,by have:=hks p hp;simp_arith[jj,this.2,this.1]⟩
 have f2:D.aC (ps.map λp=>D.str (T p.1))=true:=aV _ _ λ_=>rfl;have ed:(ps.map λp=>D.str (T p.1))=(wU w cs).map λp=>D.str (T p):=by rw[<- hw,dQ];rfl
 have hj:=λg=>pQ (x:=" ") (sep:=[32]) (ps:=wU w cs) (n:=8) (r:=.new ((wU w cs).map λp=>D.str (T p)) g) rfl LD (by unfold wU;simp) (λp hp=>by
  rcases cB.mp hp with rfl|hp
  .exact h.hl
  .obtain⟨c,hc,rfl⟩:=dP.mp hp;exact(h.wk c hc).len) (by
   have:(wU w cs).length<=4:=by unfold wU;simp;lia
   have h2:(wU w cs).length*(8+[32].length)<=4*(8+[32].length):=o7 _ this;have:4*(8+[32].length)<=1000000:=by decide
   exact ib h2 this)
 rw[ew]at fl hcm ⊢;simp_arith[d3,wW,tE,fl];rw[bI (by rw[bH];lia) hcm,eV (λp:List Nat×D=>D.str (T p.1)),bJ f2,ed];simp_arith[hj];rfl
def Fy{r:Rw}(h:yV r.hd r.cs)(f:Bool):d3 [some (.val (.tup r.d) f)]=.ok (.val (.str (T r.tx)) true []):=by rw[tB];exact LK h f
section
variable{sv ov:Int}{qs:List Pq}
def LL{q:Pq}(h:OG q)(r:R)(hr:r.d=.lst ((q.2.map Rw.tx).map λp=>.str (T p))):pD ", " r=.ok (.val (.str (T (CH q.2))) true []):=by
 have hle:=h.le;have hne:=h.ne;refine pQ (n:=36) hr Om (by intro z;have:(q.2.map Rw.tx).length=0:=(by rw[z];rfl);rw[bH]at this;lia) (λp hp=>by obtain⟨r,hr,rfl⟩:=dP.mp hp;exact(h.rw r hr).FZ) ?_;rw[bH];have h2:q.2.length*(36+[44,32].length)<=300*(36+[44,32].length):=o7 _ hle;have:300*(36+[44,32].length)<=1000000:=by decide
 lia
def CM(h:Iq sv ov qs){P:Option Sl}:∃x y:Option Sl,
 cI (gT 2 (ay (gN 2) (ay (gN 3) bA))) false gx (qs.map qD) [P,some (.own [.str (T (jJ "values" (nP sv ov)))] true),none,none]
  = .ok (.nx [P,some (.own ((jJ "values" (nP sv ov)::qs.map kU).map λp=>.str (T p)) true),x,y]):=by
 have h4:=h.n4;obtain⟨bp,lp,x,y,rfl⟩:=eB qD (asg:=gT 2 (ay (gN 2) (ay (gN 3) bA))) (fr:=false) (body:=gx) qs (λpre env=>∃x y:Option Sl,env=[P,some (.own ((jJ "values" (nP sv ov)::pre.map kU).map λp=>.str (T p)) true),x,y]) qs []
  [P,some (.own [.str (T (jJ "values" (nP sv ov)))] true),none,none] rfl ⟨_,_,rfl⟩
  (by
    rintro pre post q env ea ⟨x,y,rfl⟩;have hq:q∈qs:=by rw[ea];simp
    have hw:=h.qw q hq;have hle:=hw.le;have hpl:pre.length+post.length+1=qs.length:=by have:=ie List.length ea;simp at this;lia
    have hcm:=λ(a b c:Option Sl)=>bb (mk:=λd=>gN 0 d false (dv [a,b,c,some (.val (.lst (q.2.map λr=>.tup r.d)) false)] 1 [])) (test:=λ_=>.ok true) (elt:=d3) (λr:Rw=>D.tup r.d) (λr=>.val (.str (T r.tx)) true []) q.2
     λr hr=>⟨[some (.val (.tup r.d) false)],rfl,rfl,Fy (hw.rw r hr) false⟩
    have f2:D.aC (q.2.map λr=>D.str (T r.tx))=true:=aV _ _ λ_=>rfl;have ed:(q.2.map λr=>D.str (T r.tx))=(q.2.map Rw.tx).map λp=>D.str (T p):=by rw[dQ];rfl
    have hj:=LL hw (.new ((q.2.map Rw.tx).map λp=>D.str (T p)) true) rfl;have hn:=hw.nm.1.2;have hr:=Ac hw.rw hw.le;have e0:q.1=T q.1.cps.toList:=uw _;have ad1:bn (.val (.str q.1) true []) (.val (.str ": ") true [])=.ok (.val (.str (T (q.1.cps.toList++[58,32]))) true []):=by rw[e0,Ol];exact dM (by simp at hn ⊢;lia)
    have ad2:bn (.val (.str (T (q.1.cps.toList++[58,32]))) true []) (.val (.str (T (CH q.2))) true [])=.ok (.val (.str (T (kU q))) true []):=by
     rw[dM (by simp at hn ⊢;lia)];have:kU q=q.1.cps.toList++[58,32]++CH q.2:=by unfold kU;rw[mx _ _ (by simp)];rfl
     rw[this]
    have hp:((jJ "values" (nP sv ov)::pre.map kU).map λp=>D.str (T p)).length<1000000:=by rw[bH,gK,bH];lia
    refine⟨[P,some (.own ((jJ "values" (nP sv ov)::pre.map kU).map λp=>.str (T p)) true),some (.val (.str q.1) false),some (.val (.lst (q.2.map λr=>.tup r.d)) false)],[P,some (.own ((jJ "values" (nP sv ov)::(pre++[q]).map kU).map λp=>.str (T p)) true),some (.val (.str q.1) false),some (.val (.lst (q.2.map λr=>.tup r.d)) false)],rfl,?_,_,_,rfl⟩;have eacc:((jJ "values" (nP sv ov)::(pre++[q]).map kU).map λp=>D.str (T p))=((jJ "values" (nP sv ov)::pre.map kU).map λp=>D.str (T p))++[.str (T (kU q))]:=by simp
    rw[eacc];generalize((jJ "values" (nP sv ov)::pre.map kU).map λp=>D.str (T p))=acc at *;simp_arith[gx,wW,tE,ad1];rw[bI (by rw[bH];lia) (hcm _ _ _),eV (λr:Rw=>D.str (T r.tx)),bJ f2,ed];simp_arith[hj,ad2,pF,hp])
 exact⟨x,y,lp⟩
def H_(h:Iq sv ov qs):ja [kW sv ov qs]=.ok (.val (.str (T (Ji sv ov qs))) true []):=by
 have h4:=h.n4;obtain⟨a,ha⟩ : ∃a:Nat,sv=a:=⟨sv.toNat,by have:=h.s1;lia⟩;obtain⟨b,hb⟩ : ∃b:Nat,ov=b:=⟨ov.toNat,by have:=h.o1;lia⟩;have a3:a<300:=by have:=h.s2;lia
 have b3:b<300:=by have:=h.o2;lia
 obtain⟨x,y,lp⟩:=CM h (P:=some (.val (kW sv ov qs) false));have hla:=(oO a3).2.2.2;have hlb:=(oO b3).2.2.2;have va:("values " : Str)=T (("values" : Str).cps.toList++[32]):=by decide
 have vl:(("values" : Str).cps.toList++[32]).length=7:=by decide
 have ks:∀f al,uf [.val (.int sv) f al]=.ok (.val (.str (T (m6 a))) true []):=λf al=>by rw[ha];exact Be a3 f al
 have ko:∀f al,uf [.val (.int ov) f al]=.ok (.val (.str (T (m6 b))) true []):=λf al=>by rw[hb];exact Be b3 f al
 have etx:jJ "values" (nP sv ov)=("values" : Str).cps.toList++[32]++m6 a++[32]++m6 b:=by
  unfold jJ wU nP;have ea:(cN "S" sv).w=m6 a:=by show m6 sv.toNat=m6 a;rw[ha];rfl
  have eb:(cN "S" ov).w=m6 b:=by show m6 ov.toNat=m6 b;rw[hb];rfl
  rw[b8,b8,xf,ea,eb];simp[jn]
 have ad1:bn (.val (.str "values ") true []) (.val (.str (T (m6 a))) true [])=.ok (.val (.str (T (("values" : Str).cps.toList++[32]++m6 a))) true []):=by rw[va];exact dM (by lia)
 have ad2:bn (.val (.str (T (("values" : Str).cps.toList++[32]++m6 a))) true []) (.val (.str " ") true [])=.ok (.val (.str (T (("values" : Str).cps.toList++[32]++m6 a++[32]))) true []):=by rw[LD];exact dM (by rw[gp,vl];simp;lia)
 have ad3:bn (.val (.str (T (("values" : Str).cps.toList++[32]++m6 a++[32]))) true []) (.val (.str (T (m6 b))) true [])=.ok (.val (.str (T (jJ "values" (nP sv ov)))) true []):=by rw[etx];exact dM (by rw[gp,gp,vl];simp;lia)
 have i0:pE (kW sv ov qs) (.int 0) false []=.ok (.val (.int sv) true []):=by unfold kW;simp_arith[show b0 [D.int sv,D.int ov,D.lst (qs.map qD)] 0=some (.int sv)from rfl]
 have i1:pE (kW sv ov qs) (.int 1) false []=.ok (.val (.int ov) true []):=by unfold kW;simp_arith[show b0 [D.int sv,D.int ov,D.lst (qs.map qD)] 1=some (.int ov)from rfl]
 have i2:pE (kW sv ov qs) (.int 2) false []=.ok (.val (.lst (qs.map qD)) false []):=by unfold kW;simp_arith[show b0 [D.int sv,D.int ov,D.lst (qs.map qD)] 2=some (.lst (qs.map qD))from rfl]
 have hj:=λ(f:Bool)(al:List Nat)=>pQ (x:="; ") (sep:=[59,32]) (ps:=jJ "values" (nP sv ov)::qs.map kU) (n:=11500) (r:=.val (.lst ((jJ "values" (nP sv ov)::qs.map kU).map λp=>D.str (T p))) f al) rfl On (by simp) (λp hp=>by
  rcases cB.mp hp with rfl|hp
  .have:=(LI h.s1 h.s2 h.o1 h.o2).FZ;lia
  .obtain⟨q,hq,rfl⟩:=dP.mp hp;exact Ad (h.qw q hq)) (by
   have:(jJ "values" (nP sv ov)::qs.map kU).length<=5:=by simp;lia
   have h2:(jJ "values" (nP sv ov)::qs.map kU).length*(11500+[59,32].length)<=5*(11500+[59,32].length):=o7 _ this;exact ib h2 (by show 5*(11500+2)<=1000000;decide))
 generalize((jJ "values" (nP sv ov)::qs.map kU).map λp=>D.str (T p))=L at lp hj;simp_arith[ja,qo,lR,i0,i1,i2,ks,ko,ad1,ad2,ad3,lp,wW,tE,hj];rfl
end
def Mf(q:Pq):Pr:=(q.1,q.2.map Rw.d)
theorem Bf{names:List Str}{sv ov many:Int}{F:Nat->Bool}:∀(rs:List (List D))(k:Nat),(∀(i:Nat)(r:List D),rs[i]?=some r->RowC names sv ov many (F (k+i)) r)->∃ws:List Rw,rs=ws.map Rw.d/\∀(i:Nat)(w:Rw),ws[i]?=some w->RwOk names sv ov many (F (k+i)) w
 |[],_,_=>⟨[],rfl,λi w z=>by simp at z⟩
 |r::rs,k,h=>by
  obtain⟨w,e,hw⟩:=h 0 r rfl;obtain⟨ws,e2,h2⟩:=Bf rs (k+1) λi r hr=>by
   have:=h (i+1) r (by simpa using hr)
   rwa [show k+1+i=k+(i+1) by lia]
  refine⟨w::ws,by rw[e,e2];rfl,λi x hx=>?_⟩;cases i with
  |zero=>simp at hx;subst hx;exact hw
  |succ i=>
   have:=h2 i x (by simpa using hx)
   rwa [show k+1+i=k+(i+1) by lia]at this
theorem yF{names:List Str}{sv ov:Int}:∀(ps:List Pr),(∀p∈ps,OV names sv ov p)->∃qs:List Pq,ps=qs.map Mf/\∀q∈qs,0<q.2.length/\q.2.length<=300/\∀(i:Nat)(r:Rw),q.2[i]?=some r->RwOk names sv ov q.2.length (decide (i+1=q.2.length)) r
 |[],_=>⟨[],rfl,λ_ z=>by cases z⟩
 |(n,rs)::ps,h=>by
  obtain⟨⟨_,a1,_,_⟩,a2,a3⟩:=h (n,rs) (by simp);obtain⟨qs,e,hq⟩:=yF ps λp hp=>h p (by simp[hp]);obtain⟨ws,e2,hw⟩:=Bf (many:=rs.length) (F:=λi=>decide (i+1=rs.length)) rs 0 (λi r hr=>by
   have:=a2 i r hr
   rwa [Rz])
  have hl:ws.length=rs.length:=by have:=ie List.length e2;simpa using this.symm
  refine⟨(n,ws)::qs,by rw[e,b8];unfold Mf;rw[<- e2],λq hq'=>?_⟩;rcases cB.mp hq' with rfl|hq'
  .refine⟨by show 0<ws.length;rw[hl];exact a1,by show ws.length<=300;rw[hl];exact a3,λi r hr=>?_⟩;have:=hw i r hr;show RwOk names sv ov (ws.length:Nat) (decide (i+1=ws.length)) r;rw[hl]
   rwa [Rz]at this
  .exact hq q hq'
def Os(sv ov:Int)(qs:List Pq):P6 sv ov (qs.map Mf)=kW sv ov qs:=by
 unfold P6 kW;have:(qs.map Mf).map Fb=qs.map qD:=by rw[dQ];refine tS λq _=>?_;show Fb (Mf q)=qD q;unfold Fb Mf qD;simp only[dQ];rfl
 rw[this]
noncomputable def LM(names:List Str):Rw->Prop
 |.call f=>f∈names
 |_=>True
def QH(names:List Str)(q:Pq):Prop:=0<q.2.length/\q.2.length<=400/\∀r∈q.2,LM names r
abbrev pq:=kW
def m7(s o:Int)(qs:List Pq):pq s o qs=.tup [.int s,.int o,.lst (qs.map qD)]:=rfl
def fW(s o:Int)(qs:List Pq):(pq s o qs).flat=false:=lR s o qs
noncomputable def bM:Int->List Pq->Str->Int
 |f,[],_=>f
 |f,q::qs,n=>if q.1=n then f else bM (f+q.2.length) qs n
def Af{a b:Str}(h:a≠b):b6 (.str a) (.str b)=false:=by show(a==b)=false;simpa using h
abbrev iU(i j:Nat):D->Bool->En->Option En:=gT 2 (ay (gN i) (ay (gN j) bA))
def oS(q:Pq):(((q.2.map λr=>D.tup r.d).length:Nat):Int)=q.2.length:=by simp
def mB{asg:D->Bool->En->Option En}{fr:Bool}{body:En->Res Fl}{d:D}{ds:List D}{env env1 env2:En}(h1:asg d fr env=some env1)(h2:body env1=.ok (.nx env2)):cI asg fr body (d::ds) env=cI asg fr body ds env2:=by
 conv=>lhs;unfold cI
 rw[h1];dsimp only;rw[h2];rfl
def wY{asg:D->Bool->En->Option En}{fr:Bool}{body:En->Res Fl}{d:D}{ds:List D}{env env1:En}{r:R}(h1:asg d fr env=some env1)(h2:body env1=.ok (.rt r)):cI asg fr body (d::ds) env=.ok (.rt r):=by unfold cI;rw[h1];dsimp only;rw[h2];rfl
def rL{f:Int}{q:Pq}{qs:List Pq}:bM f (q::qs) q.1=f:=c5 rfl
def rM{f:Int}{q:Pq}{qs:List Pq}{n:Str}(h:q.1≠n):bM f (q::qs) n=bM (f+q.2.length) qs n:=dS h
theorem tF{P:Option Sl}{n:Str}:∀(qs:List Pq)(f:Int)(x y:Option Sl),(∀q∈qs,0<q.2.length)->n∈qs.map (·.1)->
 cI (iU 4 5) false fN (qs.map qD) [P,some (.val (.str n) false),some (.val (.int 0) false),some (.val (.int f) true),x,y]=.ok (.rt (.val (.int (bM f qs n)) true []))
 |[],f,x,y,_,h=>by cases h
 |q::qs,f,x,y,hl,hn=>by
  have st:(iU 4 5) (qD q) false [P,some (.val (.str n) false),some (.val (.int 0) false),some (.val (.int f) true),x,y]=some [P,some (.val (.str n) false),some (.val (.int 0) false),some (.val (.int f) true),some (.val (.str q.1) false),some (.val (.lst (q.2.map λr=>D.tup r.d)) false)]:=rfl;rw[b8];by_cases h:q.1=n
  .subst h;have h0:=hl q (by simp);have d2:decide ((q.2.length:Int)<=0)=false:=fm (by lia);have d1:decide ((0:Int)<0)=false:=rfl;refine wY st ?_;rw[rL,show f=f+0 by lia];simp_arith[fN,cJ,da,d1,oS,d2];rw[Int.add_zero]
  .have b:=Af h;have:fN [P,some (.val (.str n) false),some (.val (.int 0) false),some (.val (.int f) true),some (.val (.str q.1) false),some (.val (.lst (q.2.map λr=>D.tup r.d)) false)]=.ok (.nx [P,some (.val (.str n) false),some (.val (.int 0) false),some (.val (.int (f+q.2.length)) true),some (.val (.str q.1) false),some (.val (.lst (q.2.map λr=>D.tup r.d)) false)]):=by simp_arith[fN,cJ,b,oS]
   rw[rM h,mB st this];refine tF qs (f+q.2.length) _ _ (λx hx=>hl x (by simp[hx])) ?_;rw[b8,cB]at hn;exact hn.resolve_left λz=>h z.symm
def Fz{s o:Int}{qs:List Pq}{n:Str}(hl:∀q∈qs,0<q.2.length)(hn:n∈qs.map (·.1)):iF [pq s o qs,.str n,.int 0]=.ok (.val (.int (bM 0 qs n)) true []):=by have h:=tF (P:=some (.val (.tup [.int s,.int o,.lst (qs.map qD)]) false)) qs 0 none none hl hn;unfold iU at h;rw[m7];simp_arith[iF,sW,h]
noncomputable def Mg(qs ps:List Pq):List DK:=ps.map λq=>.inl (.inr q.1)
def Ot(qs ps:List Pq):List D:=ps.map λq=>.int (bM 0 qs q.1)
def rA(qs:List Pq):D:=.lS (Mg qs qs) (Ot qs qs)
theorem tG{α:Type}(k:α->Str)(v:α->Int):∀xs:List α,lm (xs.map λa=>D.tup [.str (k a),.int (v a)])=some (xs.map λa=>(.inr (k a),.int (v a)))
 |[]=>rfl
 |a::xs=>by rw[b8,b8];unfold lm;rw[tG k v xs];rfl
theorem vv(t:List (b5×D)):∀(ps:List (b5×D))(t:List (b5×D)),((t++ps).map (·.1)).Nodup->p_ t ps=t++ps
 |[],t,_=>by rw[kH];rfl
 |p::ps,t,h=>by
  have hn:(t.any λx=>decide (x.1=p.1))=false:=by rw[List.any_eq_false];intro x hx;rw[gq];intro e;rw[kE,List.nodup_append]at h;exact h.2.2 x.1 (lZ hx) p.1 (by simp) e
  show p_ (zu t p.1 p.2) ps=_;have:zu t p.1 p.2=t++[p]:=by unfold zu;rw[dS (by rw[hn];simp)]
  rw[this,vv t ps (t++[p]) (by simpa using h)];simp
def CN{s o:Int}{qs:List Pq}(hl:∀q∈qs,0<q.2.length)(hq:qs.length<=4)(nd:(qs.map (·.1)).Nodup):fP [pq s o qs]=.ok (.mG (rA qs)):=by
 have hc:=bb (mk:=λd=>(iU 0 1) d false (dv [some (.val (pq s o qs) false)] 2 [0])) (test:=λ_=>.ok true) (elt:=gb) (λq:Pq=>qD q) (λq=>.val (.tup [.str q.1,.int (bM 0 qs q.1)]) true []) qs
  λq hq=>⟨[some (.val (.str q.1) false),some (.val (.lst (q.2.map λr=>D.tup r.d)) false),some (.val (pq s o qs) false)],rfl,rfl,by simp_arith[gb,fW,Fz (s:=s) (o:=o) hl (lZ (f:=(·.1)) hq)]⟩
 have hfl:D.aC (qs.map λq=>D.tup [.str q.1,.int (bM 0 qs q.1)])=true:=aV _ _ λ_=>rfl;have hp:=tG (λq:Pq=>q.1) (λq=>bM 0 qs q.1) qs;have hnd:(([]++(qs.map λq:Pq=>((.inr q.1:b5),D.int (bM 0 qs q.1)))).map (λx:b5×D=>x.1)).Nodup:=by
  rw[Rh,dQ];have:((qs.map (·.1)).map λn=>(.inr n:b5)).Nodup:=by rw[List.Nodup,o9];exact nd.imp λ{a b} h e=>h (tT e)
  rw[dQ]at this;exact this
 have hd:sC [.new (qs.map λq=>D.tup [.str q.1,.int (bM 0 qs q.1)]) true]=.ok (.mG (rA qs)):=by unfold sC;dsimp only[R.d];rw[hp];dsimp only;rw[vv [] _ [] hnd,Rh,c5 (cT λd hd=>by obtain⟨x,hx,rfl⟩:=dP.mp hd;obtain⟨q,_,rfl⟩:=dP.mp hx;rfl)];unfold Ko rA Mg Ot;rw[dQ,dQ];rfl
 unfold iU at hc;rw[m7]at hc ⊢;simp_arith[fP,lF];rw[bI (by rw[bH];lia) hc,eV (λq:Pq=>D.tup [.str q.1,.int (bM 0 qs q.1)]),bJ hfl];simp_arith[hd]
theorem FA{s o:Int}(qs:List Pq)(n:Str):∀ps:List Pq,n∈ps.map (·.1)->getD (Mg qs ps) (Ot qs ps) (.inl (.inr n))=some (.int (bM 0 qs n))
 |[],h=>by cases h
 |q::ps,h=>by
  unfold Mg Ot;rw[b8,b8];unfold getD;by_cases e:q.1=n
  .subst e;rw[c5 rfl]
  .rw[dS λz=>e (tT (Sum.inl.inj z))];rw[b8,cB]at h;exact FA (s:=s) (o:=o) qs n ps (h.resolve_left λz=>e z.symm)
def Jj{qs:List Pq}{n:Str}{f g:Bool}{al bl:List Nat}(h:n∈qs.map (·.1)):sB (.val (rA qs) f al) (.val (.str n) g bl)=.ok (lg (.int (bM 0 qs n)) f al):=Lj (ra:=.val (rA qs) f al) (rk:=.val (.str n) g bl) (ks:=Mg qs qs) (ds:=Ot qs qs) rfl rfl (by unfold Mg;rw[g6];intro k hk;obtain⟨q,_,rfl⟩:=dP.mp hk;rfl) (FA (s:=0) (o:=0) qs n qs h)
def vw:b6 (.str "any") (.str "set")=false:=by decide
def CO:b6 (.str "any") (.str "any")=true:=by decide
def Ag:b6 (.str "any") (.str "turn")=false:=by decide
def tH:b6 (.str "turn") (.str "set")=false:=by decide
def Ah:b6 (.str "turn") (.str "any")=false:=by decide
def yG:b6 (.str "turn") (.str "turn")=true:=by decide
def Bg:b6 (.str "if") (.str "if")=true:=by decide
def Bh:b6 (.str "if") (.str "go")=false:=by decide
def vx:b6 (.str "if") (.str "fork")=false:=by decide
def yH:b6 (.str "call") (.str "back")=false:=by decide
def yI:b6 (.str "call") (.str "stop")=false:=by decide
def yJ:b6 (.str "call") (.str "call")=true:=by decide
def Jk{f:Bool}{al:List Nat}:Co [("shared",0),("own",1)] (.val (.str "shared") f al)=.ok (.val (.int 0) true []):=rfl
def Jl{f:Bool}{al:List Nat}:Co [("shared",0),("own",1)] (.val (.str "own") f al)=.ok (.val (.int 1) true []):=rfl
section
variable{s o:Int}{qs:List Pq}
def rN(h1:0<o)(h2:o<=4)(p w:Int):dG [pq s o qs,.int p,.int w]=.ok (.val (.int (p*o+w)) true []):=by
 have k1:-18446744073709551616<o:=by lia
 have k2:o<18446744073709551616:=by lia
 rw[m7];simp_arith[dG,vh,k1,k2]
noncomputable def rb(r:Rw)(place sh ow:Int):List Int:=match r with
 |.go k=>[k]
 |.fork k=>[place+1,k]
 |.iff w n k=>[if(if w then ow else sh)=n then k else place+1]
 |_=>[place+1]
noncomputable def yK:Rw->Bool
 |.set _ _=>true
 |.any _=>true
 |.turn _=>true
 |_=>false
def CP(r:Rw)(place sh ow:Int)(h:yK r=false):d5 [.tup r.d,.int place,.tup [.int sh,.int ow]]=.ok (.new ((rb r place sh ow).map .int) true):=by
 cases r with
 |iff w n k=>
  cases w with
  |false=>
   have hb:(sh==n)=decide (sh=n):=rfl;generalize hd:decide (sh=n)=b at hb;have hb:b6 (.int sh) (.int n)=b:=hb;have er:rb (.iff false n k) place sh ow=[if b then k else place+1]:=by subst hd;by_cases hn:sh=n<;>simp[rb,hn]
   rw[er];simp_arith[d5,jk,Rw.d,cJ,Bh,vx,Bg,Lp,Jk,hb];cases b<;>rfl
  |true=>
   have hb:(ow==n)=decide (ow=n):=rfl;generalize hd:decide (ow=n)=b at hb;have hb:b6 (.int ow) (.int n)=b:=hb;have er:rb (.iff true n k) place sh ow=[if b then k else place+1]:=by subst hd;by_cases hn:ow=n<;>simp[rb,hn]
   rw[er];simp_arith[d5,jk,Rw.d,cJ,Bh,vx,Bg,Lq,Jl,hb];cases b<;>rfl
 |set w n=>cases h
 |any w=>cases h
 |turn w=>cases h
 |_=>rfl
noncomputable def vm(r:Rw)(v c:Int):List Int:=match r with
 |.set _ n=>[n]
 |.turn _=>[(v+1)%c]
 |_=>(List.range c.toNat).map λ(k:Nat)=>(k:Int)
def Bi(r:Rw)(v c:Int)(h:yK r=true)(h1:0<c)(h2:c<=4):d7 [.tup r.d,.int v,.int c]=.ok (.new ((vm r v c).map .int) true):=by
 have z0:0<=c:=by lia
 have z1:c<=1000:=by lia
 cases r with
 |set w n=>rfl
 |turn w=>simp_arith[d7,jl,Rw.d,vm,cJ,tH,yG,h1,cf]
 |any w=>simp_arith[d7,jl,Rw.d,vm,cJ,vw,Ag,EY z0 z1,jU,dQ];rfl
 |_=>cases h
end
noncomputable def LN(a b:En->Res R)(env:En)(k:Bool):Res R:=if k then a env else b env
def Jm(c:En->Res Bool)(a b:En->Res R)(env:En):OR c a b env=(c env).bind (LN a b env):=(rfl)
def FC(a b:En->Res R)(env:En):LN a b env true=a env:=(rfl)
def FD(a b:En->Res R)(env:En):LN a b env false=b env:=(rfl)
noncomputable def Rw.t:Rw->Str
 |.skip=>"skip"
 |.back=>"back"
 |.stop=>"stop"
 |.set _ _=>"set"
 |.any _=>"any"
 |.turn _=>"turn"
 |.iff _ _ _=>"if"
 |.go _=>"go"
 |.fork _=>"fork"
 |.call _=>"call"
def Ou(r:Rw):∃l,r.d=.str r.t::l:=by cases r<;>exact⟨_,rfl⟩
noncomputable def Ia:Rw->Bool
 |.set w _=>w
 |.any w=>w
 |.turn w=>w
 |_=>false
def Qb(r:Rw)(h:yK r=true):∃l,r.d=.str r.t::.str (wd (Ia r))::l:=by cases r<;>first|exact⟨_,rfl⟩|cases h
def QI(r:Rw):ug true (.str r.t) (.tup [.str "set",.str "any",.str "turn"])=.ok (.val (.bl (!yK r)) true []):=by cases r<;>rfl
noncomputable def Qc:Rw->Bool
 |.stop=>true
 |.back=>true
 |.call _=>true
 |_=>false
def Q6(r:Rw)(h:Qc r=false):b6 (.str r.t) (.str "stop")=false/\b6 (.str r.t) (.str "back")=false/\b6 (.str r.t) (.str "call")=false:=by cases r<;>first|exact⟨rfl,rfl,rfl⟩|cases h
section
variable{s o:Int}{qs:List Pq}
def gv(r:Rw)(place s o sh ow:Int):List (Int×Int×Int):=if yK r=true then(if Ia r=true then(vm r ow o).map λv=>(place+1,sh,v)else(vm r sh s).map λv=>(place+1,v,ow))else(rb r place sh ow).map λk=>(k,sh,ow)
noncomputable def vy(g:Int×Int×Int):D:=.tup [.int g.1,.tup [.int g.2.1,.int g.2.2]]
def Qd(sh ow v:Int):hW [.tup [.int sh,.int ow],.int 0,.int v]=.ok (.val (.tup [.int v,.int ow]) true []):=by have b:b6 (.int 0) (.int 0)=true:=rfl;simp_arith[hW,pI,Jm,FC,FD,cJ,b]
def Qe(sh ow v:Int):hW [.tup [.int sh,.int ow],.int 1,.int v]=.ok (.val (.tup [.int sh,.int v]) true []):=by have b:b6 (.int 1) (.int 0)=false:=rfl;simp_arith[hW,pI,Jm,FC,FD,cJ,b]
def FE(r:Rw)(place sh ow:Int):(rb r place sh ow).length<=2:=by cases r<;>simp[rb]
def pR(r:Rw)(v c:Int)(h:c<=4):(vm r v c).length<=4:=by cases r<;>simp[vm]<;>lia
def Ib(h1:0<o)(h2:o<=4)(h3:0<s)(h4:s<=4)(r:Rw)(place sh ow:Int):h7 [pq s o qs,.tup r.d,.int place,.tup [.int sh,.int ow]]=.ok (.new ((gv r place s o sh ow).map vy) true):=by
 have hfl:D.aC ((gv r place s o sh ow).map vy)=true:=aV _ _ λ_=>rfl;rw[m7];cases hV:yK r with
 |false=>
  obtain⟨l,el⟩:=Ou r;have hb:=CP r place sh ow hV;have hn:=QI r;rw[hV]at hn;have hc:=bb (mk:=λd=>gN 0 d true (dv [some (.val (.tup [.int s,.int o,.lst (qs.map qD)]) false),some (.val (.tup r.d) false),some (.val (.int place) false),some (.val (.tup [.int sh,.int ow]) false),none,none] 1 [3])) (test:=λ_=>.ok true) (elt:=lG) (λk:Int=>D.int k) (λk=>.val (vy (k,sh,ow)) true []) (rb r place sh ow)
   λk hk=>⟨[some (.val (.int k) true),some (.val (.tup [.int sh,.int ow]) false)],rfl,rfl,by simp_arith[lG,vy]⟩
  have eg:(rb r place sh ow).map (λk=>vy (k,sh,ow))=(gv r place s o sh ow).map vy:=by unfold gv;rw[dS (by rw[hV];simp),dQ];rfl
  have hbf:D.aC ((rb r place sh ow).map .int)=true:=bc _;have hrf:(D.tup r.d).flat=true:=(gf r).aC;rw[el]at hb hc hrf ⊢;simp_arith[h7,mj,hn,hb,hbf,hrf,Bool.not_false];rw[bI (by rw[bH];have:=FE r place sh ow;lia) hc,eV (λk:Int=>vy (k,sh,ow)),eg,bJ hfl];simp_arith
 |true=>
  obtain⟨l,el⟩:=Qb r hV;have hn:=QI r;rw[hV]at hn;have hrf:(D.tup r.d).flat=true:=(gf r).aC;cases hw:Ia r with
  |false=>
   have hm:=Bi r sh s hV h3 h4;have hc:=bb (mk:=λd=>gN 0 d true (dv [some (.val (.tup [.int s,.int o,.lst (qs.map qD)]) false),some (.val (.tup r.d) false),some (.val (.int place) false),some (.val (.tup [.int sh,.int ow]) false),some (.val (.int 0) true),some (.val (.lst ((vm r sh s).map .int)) true)] 1 [2,3,4])) (test:=λ_=>.ok true) (elt:=gD) (λk:Int=>D.int k) (λk=>.val (vy (place+1,k,ow)) true []) (vm r sh s)
    λk hk=>⟨[some (.val (.int k) true),some (.val (.int place) false),some (.val (.tup [.int sh,.int ow]) false),some (.val (.int 0) true)],rfl,rfl,by simp_arith[gD,vy,Qd]⟩
   have eg:(vm r sh s).map (λk=>vy (place+1,k,ow))=(gv r place s o sh ow).map vy:=by unfold gv;rw[c5 hV,dS (by rw[hw];simp),dQ];rfl
   rw[hw,Lp]at el;rw[el]at hm hc hrf ⊢;simp_arith[h7,mj,hn,hm,hrf,Jk,bc,Bool.not_true];rw[bI (by rw[bH];have:=pR r sh s h4;lia) hc,eV (λk:Int=>vy (place+1,k,ow)),eg,bJ hfl];simp_arith
  |true=>
   have hm:=Bi r ow o hV h1 h2;have hc:=bb (mk:=λd=>gN 0 d true (dv [some (.val (.tup [.int s,.int o,.lst (qs.map qD)]) false),some (.val (.tup r.d) false),some (.val (.int place) false),some (.val (.tup [.int sh,.int ow]) false),some (.val (.int 1) true),some (.val (.lst ((vm r ow o).map .int)) true)] 1 [2,3,4])) (test:=λ_=>.ok true) (elt:=gD) (λk:Int=>D.int k) (λk=>.val (vy (place+1,sh,k)) true []) (vm r ow o)
    λk hk=>⟨[some (.val (.int k) true),some (.val (.int place) false),some (.val (.tup [.int sh,.int ow]) false),some (.val (.int 1) true)],rfl,rfl,by simp_arith[gD,vy,Qe]⟩
   have eg:(vm r ow o).map (λk=>vy (place+1,sh,k))=(gv r place s o sh ow).map vy:=by unfold gv;rw[c5 hV,c5 hw,dQ];rfl
   rw[hw,Lq]at el;rw[el]at hm hc hrf ⊢;simp_arith[h7,mj,hn,hm,hrf,Jl,bc,Bool.not_true];rw[bI (by rw[bH];have:=pR r ow o h2;lia) hc,eV (λk:Int=>vy (place+1,sh,k)),eg,bJ hfl];simp_arith
noncomputable def mD(m:Int×List Int):D:=.tup [.int m.1,.tup (m.2.map .int)]
def Bj(m:Int×List Int):(mD m).flat=true:=by unfold mD;simp only[dZ,be,gz,bc,jy,Q_]
def mv(s o:Int)(fo:Str->Int)(first pt sh ow:Int)(r:Rw):List (Int×List Int):=match r with
 |.stop=>[]
 |.back=>[(sh,[])]
 |.call f=>[(sh,[fo f*o+ow,(pt+1)*o+ow])]
 |.skip=>[(sh,[(pt+1)*o+ow])]
 |.go k=>[(sh,[(first+k)*o+ow])]
 |.fork k=>[(sh,[(pt+1)*o+ow]),(sh,[(first+k)*o+ow])]
 |.iff w n k=>[(sh,[(if(if w then ow else sh)=n then(first+k)*o else(pt+1)*o)+ow])]
 |.set w n=>if w=true then(vm (.set w n) ow o).map λv=>(sh,[(pt+1)*o+v])else(vm (.set w n) sh s).map λv=>(v,[(pt+1)*o+ow])
 |.any w=>if w=true then(vm (.any w) ow o).map λv=>(sh,[(pt+1)*o+v])else(vm (.any w) sh s).map λv=>(v,[(pt+1)*o+ow])
 |.turn w=>if w=true then(vm (.turn w) ow o).map λv=>(sh,[(pt+1)*o+v])else(vm (.turn w) sh s).map λv=>(v,[(pt+1)*o+ow])
def Ov(fo:Str->Int)(first place sh ow:Int)(r:Rw)(h:Qc r=false):(gv r place s o sh ow).map (λg=>(g.2.1,[(first+g.1)*o+g.2.2]))=mv s o fo first (first+place) sh ow r:=by
 have e:first+(place+1)=first+place+1:=by lia
 cases r with
 |stop=>cases h
 |back=>cases h
 |call f=>cases h
 |skip=>simp[gv,yK,rb,mv,e]
 |go k=>simp[gv,yK,rb,mv]
 |fork k=>simp[gv,yK,rb,mv,e]
 |iff w n k=>
  by_cases hc:(if w=true then ow else sh)=n
  .simp[gv,yK,rb,mv,hc]
  .simp[gv,yK,rb,mv,hc,e]
 |set w n=>cases w<;>simp[gv,yK,Ia,vm,mv,e]
 |any w=>cases w<;>simp[gv,yK,Ia,vm,mv,e]<;>rfl
 |turn w=>cases w<;>simp[gv,yK,Ia,vm,mv,e]
def FG(h1:0<o)(h2:o<=4)(h3:0<s)(h4:s<=4)(r:Rw)(hr:LM (qs.map (·.1)) r)(first place sh ow:Int) :
 iJ [pq s o qs,rA qs,.int first,.tup r.d,.int place,.tup [.int sh,.int ow]]=.ok (.new ((mv s o (bM 0 qs) first (first+place) sh ow r).map mD) true):=by
 have hsg:=λp w=>rN (s:=s) (qs:=qs) h1 h2 p w;have hpf:=fW s o qs;have hff:(rA qs).flat=false:=rfl;by_cases hP:Qc r=false
 .have hg:=Ib (qs:=qs) h1 h2 h3 h4 r place sh ow;have em:=Ov (s:=s) (o:=o) (bM 0 qs) first place sh ow r hP;obtain⟨t1,t2,t3⟩:=Q6 r hP;obtain⟨l,el⟩:=Ou r;have hgl:(gv r place s o sh ow).length<=4:=by
   unfold gv;split
   .split
    .rw[bH];exact pR r ow o h2
    .rw[bH];exact pR r sh s h4
   .rw[bH];have:=FE r place sh ow;lia
  have hgf:D.aC ((gv r place s o sh ow).map vy)=true:=aV _ _ λ_=>rfl;have hc:=bb (mk:=λd=>(iU 0 1) d true (dv [some (.val (pq s o qs) false),some (.val (rA qs) false),some (.val (.int first) false),some (.val (.tup r.d) false),some (.val (.int place) false),some (.val (.tup [.int sh,.int ow]) false),none,some (.val (.lst ((gv r place s o sh ow).map vy)) true)] 2 [0,2])) (test:=λ_=>.ok true) (elt:=j7) vy (λg=>.val (mD (g.2.1,[(first+g.1)*o+g.2.2])) true []) (gv r place s o sh ow)
   λg hg=>⟨[some (.val (.int g.1) true),some (.val (.tup [.int g.2.1,.int g.2.2]) true),some (.val (pq s o qs) false),some (.val (.int first) false)],rfl,rfl,by simp_arith[j7,mD,hpf,hsg]⟩
  have eg:(gv r place s o sh ow).map (λg=>mD (g.2.1,[(first+g.1)*o+g.2.2]))=(mv s o (bM 0 qs) first (first+place) sh ow r).map mD:=by rw[<- em,dQ];rfl
  have hrf:(D.tup r.d).flat=true:=(gf r).aC;unfold iU at hc;rw[el]at hg hc hrf ⊢;simp_arith[iJ,nI,cJ,t1,t2,t3,hpf,hg,hgf,hrf];rw[bI (by rw[bH];lia) hc,eV (λg:Int×Int×Int=>mD (g.2.1,[(first+g.1)*o+g.2.2])),eg,bJ (aV _ _ Bj)];simp_arith
 .cases r with
  |stop=>rfl
  |back=>rfl
  |call f=>have hg:=λ(f0 g:Bool)(al bl:List Nat)=>Jj (qs:=qs) (n:=f) (f:=f0) (g:=g) (al:=al) (bl:=bl) hr;simp_arith[iJ,nI,Rw.d,cJ,yI,yH,yJ,hff,hg,hpf,hsg,mv,mD,cf]
  |_=>exact(hP rfl).elim
noncomputable def C2(sh sg:Int)(m:Int×List Int):D:=.tup [.int sh,.int sg,.int m.1,.tup (m.2.map .int)]
def yL(sh sg:Int)(m:Int×List Int):(C2 sh sg m).flat=true:=by unfold C2;simp only[dZ,be,gz,bc,jy,Q_]
def FH(s o:Int)(fo:Str->Int)(first pt sh ow:Int)(r:Rw):List D:=(mv s o fo first pt sh ow r).map (C2 sh (pt*o+ow))
def FI(h2:o<=4)(h4:s<=4)(fo:Str->Int)(first pt sh ow:Int)(r:Rw):(mv s o fo first pt sh ow r).length<=4:=by
 cases r with
 |set w n=>cases w<;>simp[mv,vm]
 |any w=>cases w<;>simp[mv,vm]<;>lia
 |turn w=>cases w<;>simp[mv,vm]
 |_=>simp[mv]
def Bk(h2:o<=4)(h4:s<=4)(fo:Str->Int)(first pt sh ow:Int)(r:Rw):(FH s o fo first pt sh ow r).length<=4:=by unfold FH;rw[bH];exact FI h2 h4 fo first pt sh ow r
theorem tI{α β:Type}(f:α->List β)(b:Nat):∀xs:List α,(∀x∈xs,(f x).length<=b)->(xs.flatMap f).length<=b*xs.length
 |[],_=>by simp
 |x::xs,h=>by have h1:=h x (by simp);have h2:=tI f b xs λy hy=>h y (by simp[hy]);rw[List.flatMap_cons,gp,gK,RA];lia
def Bl{α β:Type}(f:α->List β)(xs:List α)(x:α):(xs++[x]).flatMap f=xs.flatMap f++f x:=by simp
def FJ(s o:Int)(fo:Str->Int)(first pt ow:Int)(r:Rw):List D:=(List.range s.toNat).flatMap λsh:Nat=>FH s o fo first pt sh ow r
def FK(s o:Int)(fo:Str->Int)(first pt:Int)(r:Rw):List D:=(List.range o.toNat).flatMap λow:Nat=>FJ s o fo first pt ow r
def Ic(h1:0<o)(h2:o<=4)(h3:0<s)(h4:s<=4)(r:Rw)(hr:LM (qs.map (·.1)) r)(first place ow:Int)(acc:List D)(ha:acc.length<=1000)(x y:Option Sl):∃x' y':Option Sl,
 cI (gN 8) true gV ((List.range s.toNat).map λk=>D.int (k:Nat)) [some (.val (pq s o qs) false),some (.val (rA qs) false),some (.val (.int first) false),some (.val (.tup r.d) false),some (.val (.int place) false),some (.own acc true),some (.val (.int ow) true),some (.val (.int ((first+place)*o+ow)) true),x,y]
  = .ok (.nx [some (.val (pq s o qs) false),some (.val (rA qs) false),some (.val (.int first) false),some (.val (.tup r.d) false),some (.val (.int place) false),some (.own (acc++FJ s o (bM 0 qs) first (first+place) ow r) true),some (.val (.int ow) true),some (.val (.int ((first+place)*o+ow)) true),x',y']):=by
 have hpf:=fW s o qs;have hff:(rA qs).flat=false:=rfl;have hrf:(D.tup r.d).flat=true:=(gf r).aC;obtain⟨bp,lp,x',y',rfl⟩:=eB (λk:Nat=>D.int k) (asg:=gN 8) (fr:=true) (body:=gV) (List.range s.toNat) (λpre env=>∃x' y':Option Sl,env=[some (.val (pq s o qs) false),some (.val (rA qs) false),some (.val (.int first) false),some (.val (.tup r.d) false),some (.val (.int place) false),some (.own (acc++pre.flatMap λsh:Nat=>FH s o (bM 0 qs) first (first+place) sh ow r) true),some (.val (.int ow) true),some (.val (.int ((first+place)*o+ow)) true),x',y']) (List.range s.toNat) []
  [some (.val (pq s o qs) false),some (.val (rA qs) false),some (.val (.int first) false),some (.val (.tup r.d) false),some (.val (.int place) false),some (.own acc true),some (.val (.int ow) true),some (.val (.int ((first+place)*o+ow)) true),x,y] rfl ⟨x,y,by simp⟩
  (by
    rintro pre post k env ea ⟨x',y',rfl⟩;have hpl:pre.length+post.length+1=s.toNat:=by have:=ie List.length ea;simp at this;lia
    have hle:=FG h1 h2 h3 h4 r hr first place k ow;have hml:=FI h2 h4 (bM 0 qs) first (first+place) k ow r;have hfl:=tI (λsh:Nat=>FH s o (bM 0 qs) first (first+place) sh ow r) 4 pre λsh _=>Bk h2 h4 _ _ _ _ _ _;generalize hA:(acc++pre.flatMap λsh:Nat=>FH s o (bM 0 qs) first (first+place) sh ow r)=A;have hAl:A.length<=2000:=by rw[<- hA,gp];lia
    have hmf:D.aC ((mv s o (bM 0 qs) first (first+place) k ow r).map mD)=true:=aV _ _ Bj;have hc:=bb (mk:=λd=>(iU 0 1) d true (dv [some (.val (pq s o qs) false),some (.val (rA qs) false),some (.val (.int first) false),some (.val (.tup r.d) false),some (.val (.int place) false),some (.own A true),some (.val (.int ow) true),some (.val (.int ((first+place)*o+ow)) true),some (.val (.int k) true),some (.val (.lst ((mv s o (bM 0 qs) first (first+place) k ow r).map mD)) true)] 2 [7,8])) (test:=λ_=>.ok true) (elt:=j8) mD (λm=>.val (C2 k ((first+place)*o+ow) m) true []) (mv s o (bM 0 qs) first (first+place) k ow r)
     λm hm=>⟨[some (.val (.int m.1) true),some (.val (.tup (m.2.map .int)) true),some (.val (.int ((first+place)*o+ow)) true),some (.val (.int k) true)],rfl,rfl,by simp_arith[j8,C2,bc]⟩
    unfold iU at hc;refine⟨_,[some (.val (pq s o qs) false),some (.val (rA qs) false),some (.val (.int first) false),some (.val (.tup r.d) false),some (.val (.int place) false),some (.own (A++FH s o (bM 0 qs) first (first+place) k ow r) true),some (.val (.int ow) true),some (.val (.int ((first+place)*o+ow)) true),some (.val (.int k) true),some (.val (.lst ((mv s o (bM 0 qs) first (first+place) k ow r).map mD)) true)],rfl,?_,some (.val (.int k) true),some (.val (.lst ((mv s o (bM 0 qs) first (first+place) k ow r).map mD)) true),by rw[Bl,<- qN,hA]⟩;have hel:A.length+((mv s o (bM 0 qs) first (first+place) k ow r).map (C2 k ((first+place)*o+ow))).length<=1000000:=by rw[bH];lia
    simp_arith[gV,hpf,hff,hrf,hle,hmf];rw[bI (by rw[bH];lia) hc,eV (C2 k ((first+place)*o+ow)),bJ (aV _ _ λm=>yL _ _ m)];simp_arith[Lh hel];rfl)
 exact⟨x',y',lp⟩
def Bm(h2:o<=4)(h4:s<=4)(fo:Str->Int)(first pt ow:Int)(r:Rw):(FJ s o fo first pt ow r).length<=16:=by have:=tI (λsh:Nat=>FH s o fo first pt sh ow r) 4 (List.range s.toNat) λsh _=>Bk h2 h4 _ _ _ _ _ _;rw[vF]at this;unfold FJ;lia
def Bn(h2:o<=4)(h4:s<=4)(fo:Str->Int)(first pt:Int)(r:Rw):(FK s o fo first pt r).length<=64:=by have:=tI (λow:Nat=>FJ s o fo first pt ow r) 16 (List.range o.toNat) λow _=>Bm h2 h4 _ _ _ _ _;rw[vF]at this;unfold FK;lia
def yM(h1:0<o)(h2:o<=4)(h3:0<s)(h4:s<=4)(r:Rw)(hr:LM (qs.map (·.1)) r)(first place:Int) :
 j_ [pq s o qs,rA qs,.int first,.tup r.d,.int place]=.ok (.val (.lst (FK s o (bM 0 qs) first (first+place) r)) true [5]):=by
 have hpf:=fW s o qs;have hsg:=λp w=>rN (s:=s) (qs:=qs) h1 h2 p w;have hp0:∀{f:Bool}{al:List Nat}{k:Int},pE (pq s o qs) (.int k) f al=F6 f al (b0 [.int s,.int o,.lst (qs.map qD)] k):=by intro f al k;rw[m7];rfl
 have c1:-4611686018427387904<=s:=by lia
 have c2:s<4611686018427387904:=by lia
 have c3:-4611686018427387904<=o:=by lia
 have c4:o<4611686018427387904:=by lia
 obtain⟨bp,lp,a,b,c,d,rfl⟩:=eB (λk:Nat=>D.int k) (asg:=gN 6) (fr:=true) (body:=j9) (List.range o.toNat) (λpre env=>∃a b c d:Option Sl,env=[some (.val (pq s o qs) false),some (.val (rA qs) false),some (.val (.int first) false),some (.val (.tup r.d) false),some (.val (.int place) false),some (.own (pre.flatMap λow:Nat=>FJ s o (bM 0 qs) first (first+place) ow r) true),a,b,c,d]) (List.range o.toNat) []
  [some (.val (pq s o qs) false),some (.val (rA qs) false),some (.val (.int first) false),some (.val (.tup r.d) false),some (.val (.int place) false),some (.own [] true),none,none,none,none] rfl ⟨_,_,_,_,rfl⟩
  (by
    rintro pre post k env ea ⟨a,b,c,d,rfl⟩;have hpl:pre.length+post.length+1=o.toNat:=by have:=ie List.length ea;simp at this;lia
    have hfl:=tI (λow:Nat=>FJ s o (bM 0 qs) first (first+place) ow r) 16 pre λow _=>Bm h2 h4 _ _ _ _ _;obtain⟨x',y',lp2⟩:=Ic h1 h2 h3 h4 r hr first place k (pre.flatMap λow:Nat=>FJ s o (bM 0 qs) first (first+place) ow r) (by lia) c d;refine⟨_,[some (.val (pq s o qs) false),some (.val (rA qs) false),some (.val (.int first) false),some (.val (.tup r.d) false),some (.val (.int place) false),some (.own ((pre.flatMap λow:Nat=>FJ s o (bM 0 qs) first (first+place) ow r)++FJ s o (bM 0 qs) first (first+place) k r) true),some (.val (.int k) true),some (.val (.int ((first+place)*o+k)) true),x',y'],rfl,?_,some (.val (.int k) true),some (.val (.int ((first+place)*o+k)) true),x',y',by rw[Bl]⟩;simp_arith[j9,hpf,hsg,hp0];rw[u9 c1 c2,qU,jU];simp_arith[lp2])
 simp_arith[j_,sZ,hpf,hp0,cf];rw[u9 c3 c4,qU,jU];simp_arith[lp];rfl
def FL{f:Bool}{al:List Nat}{k:Int}:pE (pq s o qs) (.int k) f al=F6 f al (b0 [.int s,.int o,.lst (qs.map qD)] k):=by rw[m7];rfl
def jK(s o:Int)(fo:Str->Int)(first:Int):Int->List Rw->List D
 |_,[]=>[]
 |pt,r::rs=>FK s o fo first pt r++jK s o fo first (pt+1) rs
theorem pS(h2:o<=4)(h4:s<=4)(fo:Str->Int)(first:Int):∀(rs:List Rw)(pt:Int),(jK s o fo first pt rs).length<=64*rs.length
 |[],_=>by simp[jK]
 |r::rs,pt=>by have h:=pS h2 h4 fo first rs (pt+1);have hr:=Bn h2 h4 fo first pt r;unfold jK;rw[gp,gK,RA];lia
def kR(s o:Int)(fo:Str->Int):Int->List Pq->List D
 |_,[]=>[]
 |f,q::qs=>jK s o fo (fo q.1) f q.2++kR s o fo (f+q.2.length) qs
noncomputable def yX:List Pq->Nat
 |[]=>0
 |q::qs=>q.2.length+yX qs
theorem yN(h2:o<=4)(h4:s<=4)(fo:Str->Int):∀(ps:List Pq)(f:Int),(kR s o fo f ps).length<=64*yX ps
 |[],_=>by simp[kR]
 |q::ps,f=>by have h:=yN h2 h4 fo ps (f+q.2.length);have hr:=pS h2 h4 fo (fo q.1) q.2 f;unfold kR yX;rw[gp];lia
def LO{i:Nat}{a:En->Res R}{env:En}{ds:List D}{fr:Bool}(h:jq env i=some (ds,fr)):x0 i a env=(a env).bind (AW i env ds fr):=by unfold x0;rw[h]
def Ie{i:Nat}{env:En}{ds es:List D}{fr:Bool}(h:ds.length+es.length<=1000000)(h2:D.aC es=true):AW i env ds fr (.mG (.lst es))=.ok (.nx (env.set i (some (.own (ds++es) fr)))):=c5 ⟨h,h2⟩
def Ig{ns:List Int}{f:Bool}(hs:lq ns=true):G2 [.new (ns.map .int) f]=.ok (.val (.int ns.sum) true []):=by show(match p9 (ns.map .int)with|some ns=>if lq ns then Res.ok (R.val (.int ns.sum) true [])else .stuck|none=>.stuck)=_;rw[vc];exact c5 hs
def LP(fo:Str->Int)(first pt sh ow:Int)(r:Rw):∀m∈mv s o fo first pt sh ow r,m.2.length<=2:=by
 intro m hm;cases r with
 |set w n=>cases w<;>(simp[mv,vm]at hm;subst hm;simp)
 |turn w=>cases w<;>(simp[mv,vm]at hm;subst hm;simp)
 |any w=>cases w<;>(simp[mv,vm]at hm;obtain⟨a,_,rfl⟩:=hm;simp)
 |stop=>cases hm
 |fork k=>simp[mv]at hm;rcases hm with rfl|rfl<;>simp
 |_=>simp[mv]at hm;subst hm;simp
def Ih(fo:Str->Int)(first pt sh ow:Int)(r:Rw):∀d∈FH s o fo first pt sh ow r,∃(a b:Int)(m:Int×List Int),d=C2 a b m/\m.2.length<=2:=λd hd=>by obtain⟨m,hm,rfl⟩:=dP.mp hd;exact⟨_,_,m,rfl,LP fo first pt sh ow r m hm⟩
def Bo(fo:Str->Int)(first pt:Int)(r:Rw):∀d∈FK s o fo first pt r,∃(a b:Int)(m:Int×List Int),d=C2 a b m/\m.2.length<=2:=λd hd=>by obtain⟨x,_,hx⟩:=List.mem_flatMap.mp hd;obtain⟨y,_,hy⟩:=List.mem_flatMap.mp hx;exact Ih fo first pt _ _ r d hy
theorem vz(fo:Str->Int)(first:Int):∀(rs:List Rw)(pt:Int),∀d∈jK s o fo first pt rs,∃(a b:Int)(m:Int×List Int),d=C2 a b m/\m.2.length<=2
 |[],_,d,hd=>by cases hd
 |r::rs,pt,d,hd=>by
  unfold jK at hd;rcases gg.mp hd with h|h
  .exact Bo fo first pt r d h
  .exact vz fo first rs (pt+1) d h
theorem yO(fo:Str->Int):∀(ps:List Pq)(f:Int),∀d∈kR s o fo f ps,∃(a b:Int)(m:Int×List Int),d=C2 a b m/\m.2.length<=2
 |[],_,d,hd=>by cases hd
 |q::ps,f,d,hd=>by
  unfold kR at hd;rcases gg.mp hd with h|h
  .exact vz fo _ q.2 f d h
  .exact yO fo ps _ d h
def CQ(fo:Str->Int)(first pt:Int)(r:Rw):D.aC (FK s o fo first pt r)=true:=cT λd hd=>by obtain⟨a,b,m,rfl,_⟩:=Bo fo first pt r d hd;exact yL a b m
abbrev hE(s o:Int)(qs:List Pq)(acc:List D)(q:Pq)(x5 x6 x7:Option Sl):En:=[some (.val (pq s o qs) false),some (.val (rA qs) true),some (.own acc true),some (.val (.str q.1) false),some (.val (.lst (q.2.map λr=>.tup r.d)) false),x5,x6,x7]
theorem Bp(h1:0<o)(h2:o<=4)(h3:0<s)(h4:s<=4)(q:Pq)(hq:q.1∈qs.map (·.1))(x7:Option Sl):∀(rs:List Rw)(n:Nat)(acc:List D)(x5 x6:Option Sl),(∀r∈rs,LM (qs.map (·.1)) r)->acc.length+64*rs.length<=800000->∃x5' x6':Option Sl,
 cI (iU 5 6) false gW (fC n (rs.map λr=>D.tup r.d)) (hE s o qs acc q x5 x6 x7)=.ok (.nx (hE s o qs (acc++jK s o (bM 0 qs) (bM 0 qs q.1) (bM 0 qs q.1+n) rs) q x5' x6' x7))
 |[],n,acc,x5,x6,_,_=>⟨x5,x6,by simp[jK,cI,fC]⟩
 |r::rs,n,acc,x5,x6,hr,hl=>by
  rw[gK,RA]at hl;have hol:=Bn h2 h4 (bM 0 qs) (bM 0 qs q.1) (bM 0 qs q.1+n) r;have hra:=yM (qs:=qs) h1 h2 h3 h4 r (hr r (by simp)) (bM 0 qs q.1) n;have hpf:=fW s o qs;have hff:(rA qs).flat=false:=rfl;have hrf:(D.tup r.d).flat=true:=(gf r).aC;have hg:=λ(f0 g:Bool)(al bl:List Nat)=>Jj (qs:=qs) (n:=q.1) (f:=f0) (g:=g) (al:=al) (bl:=bl) hq;have hof:=CQ (s:=s) (o:=o) (bM 0 qs) (bM 0 qs q.1) (bM 0 qs q.1+n) r;obtain⟨x5',x6',ih⟩:=Bp h1 h2 h3 h4 q hq x7 rs (n+1) (acc++FK s o (bM 0 qs) (bM 0 qs q.1) (bM 0 qs q.1+n) r) (some (.val (.int n) false)) (some (.val (.tup r.d) false)) (λx hx=>hr x (by simp[hx])) (by rw[gp];lia);refine⟨x5',x6',?_⟩;have hx:acc.length+(FK s o (bM 0 qs) (bM 0 qs q.1) (bM 0 qs q.1+n) r).length<=1000000:=by lia
  have hlf:∀l:List D,(D.lst l).flat=false:=λ_=>rfl;have st:gW (hE s o qs acc q (some (.val (.int n) false)) (some (.val (.tup r.d) false)) x7)=.ok (.nx (hE s o qs (acc++FK s o (bM 0 qs) (bM 0 qs q.1) (bM 0 qs q.1+n) r) q (some (.val (.int n) false)) (some (.val (.tup r.d) false)) x7)):=by unfold gW;rw[LO (ds:=acc) (fr:=true) rfl];unfold hE;simp_arith[hpf,hff,hrf,hg,hra];rw[Ie hx hof];rfl
  rw[b8];unfold fC;rw[mB (env1:=hE s o qs acc q (some (.val (.int n) false)) (some (.val (.tup r.d) false)) x7) rfl st,ih,qN];rw[show bM 0 qs q.1+((n+1:Nat):Int)=bM 0 qs q.1+n+1 by lia];rfl
theorem Bq(h1:0<o)(h2:o<=4)(h3:0<s)(h4:s<=4)(x7:Option Sl):∀(ps:List Pq)(f:Int)(acc:List D)(x3 x4 x5 x6:Option Sl),(∀q∈ps,q.1∈qs.map (·.1)/\∀r∈q.2,LM (qs.map (·.1)) r)->(ps.map (·.1)).Nodup->(∀n∈ps.map (·.1),bM 0 qs n=bM f ps n)->acc.length+64*yX ps<=800000->∃x3' x4' x5' x6':Option Sl,
 cI (iU 3 4) false gX (ps.map qD) [some (.val (pq s o qs) false),some (.val (rA qs) true),some (.own acc true),x3,x4,x5,x6,x7]=.ok (.nx [some (.val (pq s o qs) false),some (.val (rA qs) true),some (.own (acc++kR s o (bM 0 qs) f ps) true),x3',x4',x5',x6',x7])
 |[],f,acc,x3,x4,x5,x6,_,_,_,_=>⟨x3,x4,x5,x6,by simp[kR,cI]⟩
 |q::ps,f,acc,x3,x4,x5,x6,hq,nd,hf,hl=>by
  unfold yX at hl;rw[b8,qK]at nd;have hfq:bM 0 qs q.1=f:=by rw[hf q.1 (by simp),rL]
  have hr:=pS h2 h4 (bM 0 qs) (bM 0 qs q.1) q.2 f;obtain⟨y5,y6,lp⟩:=Bp (qs:=qs) h1 h2 h3 h4 q (hq q (by simp)).1 x7 q.2 0 acc x5 x6 (hq q (by simp)).2 (by lia);obtain⟨x3',x4',x5',x6',ih⟩:=Bq h1 h2 h3 h4 x7 ps (f+q.2.length) (acc++jK s o (bM 0 qs) (bM 0 qs q.1) f q.2) (some (.val (.str q.1) false)) (some (.val (.lst (q.2.map λr=>.tup r.d)) false)) y5 y6 (λx hx=>hq x (by simp[hx])) nd.2
   (λn hn=>by rw[hf n (by simp at hn ⊢;exact .inr hn),rM λz=>nd.1 (z▸hn)]) (by rw[gp];lia)
  refine⟨x3',x4',x5',x6',?_⟩;have e0:bM 0 qs q.1+((0:Nat):Int)=f:=by rw[hfq];simp
  rw[e0]at lp;have st:gX (hE s o qs acc q x5 x6 x7)=.ok (.nx (hE s o qs (acc++jK s o (bM 0 qs) (bM 0 qs q.1) f q.2) q y5 y6 x7)):=by unfold hE iU at lp;unfold hE;simp_arith[gX,lp]
  rw[b8,mB (env1:=hE s o qs acc q x5 x6 x7) rfl st];unfold hE;rw[ih,qN];rfl
theorem Br:∀ps:List Pq,(ps.map λq=>(q.2.length:Int)).sum=yX ps
 |[]=>rfl
 |q::ps=>by rw[b8,List.sum_cons,Br ps,show yX (q::ps)=q.2.length+yX ps from rfl];lia
def Ai(hq:qs.length<=4)(h:∀q∈qs,q.2.length<=400):lq (qs.map λq=>(q.2.length:Int))=true:=by unfold lq;simp only[fq,g6,gq];refine⟨λn hn=>?_,by rw[bH];unfold lim;lia⟩;obtain⟨q,hq,rfl⟩:=dP.mp hn;have:=h q hq;lia
def FM(h1:0<o)(h2:o<=4)(h3:0<s)(h4:s<=4)(hq4:qs.length<=4)(hq:∀q∈qs,QH (qs.map (·.1)) q)(nd:(qs.map (·.1)).Nodup)(ht:yX qs<=2000) :
 ke [pq s o qs]=.ok (.val (.tup [.int s,.int (yX qs*o+0),.lst (kR s o (bM 0 qs) 0 qs)]) true [2]):=by
 have hfi:=CN (s:=s) (o:=o) (λq h=>(hq q h).1) hq4 nd;have hpf:=fW s o qs;have hff:(rA qs).flat=false:=rfl;have hsg:=λp w=>rN (s:=s) (qs:=qs) h1 h2 p w;obtain⟨x3,x4,x5,x6,lp⟩:=Bq (qs:=qs) h1 h2 h3 h4 none qs 0 [] none none none none (λq h=>⟨lZ h,(hq q h).2.2⟩) nd (λ_ _=>rfl) (by simp;lia);rw[Rh]at lp;have hc:=bb (mk:=λd=>(iU 0 1) d false (dv [some (.val (pq s o qs) false),some (.val (rA qs) true),some (.own (kR s o (bM 0 qs) 0 qs) true),x3,x4,x5,x6,none] 2 [])) (test:=λ_=>.ok true) (elt:=kc) (λq:Pq=>qD q) (λq=>.val (.int q.2.length) true []) qs
  λq hq=>⟨[some (.val (.str q.1) false),some (.val (.lst (q.2.map λr=>D.tup r.d)) false)],rfl,rfl,by simp_arith[kc,oS]⟩
 have hls:=Ai hq4 λq h=>(hq q h).2.1;have em:(qs.map λq=>D.int q.2.length)=(qs.map λq=>(q.2.length:Int)).map D.int:=by rw[dQ];rfl
 unfold iU at hc lp;simp_arith[ke,s_,hpf,hfi,vb,hff,FL,cf];simp_arith[lp,hpf,FL];rw[bI (by rw[bH];lia) hc,eV (λq:Pq=>D.int q.2.length),bJ (aV _ _ λ_=>rfl),em];simp_arith[Ig hls,Br,hpf,FL,hsg]
end
structure Fr where
 n:Str
 k:Int
 w:Int
noncomputable def jc(f:Fr):D:=.tup [.str f.n,.int f.k,.int f.w]
def dX(sh:Int)(fs:List Fr):D:=.tup [.int sh,.tup (fs.map jc)]
def jd(fs:List Fr):D.aC (fs.map jc)=true:=aV _ _ λ_=>rfl
def jL(sh:Int)(fs:List Fr):(dX sh fs).flat=true:=by unfold dX;simp only[dZ,be,gz,jy,jd,Q_]
noncomputable def eU:List Pq->Str->List Rw
 |[],_=>[]
 |q::qs,n=>if q.1=n then q.2 else eU qs n
def Ii{i j k:Nat}{env:En}{a b c:D}{f:Bool}(hi:i<env.length)(hj:j<env.length)(hk:k<env.length):EV (gT 3 (ay (gN i) (ay (gN j) (ay (gN k) bA)))) env (.val (.tup [a,b,c]) f [])=.ok (.nx (((env.set i (some (.val a f))).set j (some (.val b f))).set k (some (.val c f)))):=HI rfl hi hj hk
section
variable{s o:Int}{qs:List Pq}
theorem yP{P:Option Sl}{n:Str}:∀(qs:List Pq)(x y:Option Sl),n∈qs.map (·.1)->
 cI (iU 2 3) false cy (qs.map qD) [P,some (.val (.str n) false),x,y]=.ok (.rt (.val (.lst ((eU qs n).map λr=>D.tup r.d)) false []))
 |[],x,y,h=>by cases h
 |q::qs,x,y,hn=>by
  have st:(iU 2 3) (qD q) false [P,some (.val (.str n) false),x,y]=some [P,some (.val (.str n) false),some (.val (.str q.1) false),some (.val (.lst (q.2.map λr=>D.tup r.d)) false)]:=rfl;rw[b8];unfold eU;by_cases h:q.1=n
  .subst h;rw[c5 rfl];refine wY st ?_;simp_arith[cy,cJ,da]
  .have b:=Af h;have:cy [P,some (.val (.str n) false),some (.val (.str q.1) false),some (.val (.lst (q.2.map λr=>D.tup r.d)) false)]=.ok (.nx [P,some (.val (.str n) false),some (.val (.str q.1) false),some (.val (.lst (q.2.map λr=>D.tup r.d)) false)]):=by simp_arith[cy,cJ,b]
   rw[dS h,mB st this];refine yP qs _ _ ?_;rw[b8,cB]at hn;exact hn.resolve_left λz=>h z.symm
def LQ{n:Str}(hn:n∈qs.map (·.1)):fR [pq s o qs,.str n]=.ok (.val (.lst ((eU qs n).map λr=>D.tup r.d)) false []):=by have h:=yP (P:=some (.val (.tup [.int s,.int o,.lst (qs.map qD)]) false)) qs none none hn;unfold iU at h;rw[m7];simp_arith[fR,lL,h]
def Bs(s o sh:Int)(f:Fr)(r:Rw):List (Int×List Fr):=match r with
 |.stop=>[]
 |.back=>[(sh,[])]
 |.skip=>[(sh,[⟨f.n,f.k+1,f.w⟩])]
 |.call g=>[(sh,[⟨g,0,f.w⟩,⟨f.n,f.k+1,f.w⟩])]
 |.go k=>[(sh,[⟨f.n,k,f.w⟩])]
 |.fork k=>[(sh,[⟨f.n,f.k+1,f.w⟩]),(sh,[⟨f.n,k,f.w⟩])]
 |.iff w n k=>[(sh,[⟨f.n,if(if w then f.w else sh)=n then k else f.k+1,f.w⟩])]
 |.set w n=>if w=true then(vm (.set w n) f.w o).map λv=>(sh,[⟨f.n,f.k+1,v⟩])else(vm (.set w n) sh s).map λv=>(v,[⟨f.n,f.k+1,f.w⟩])
 |.any w=>if w=true then(vm (.any w) f.w o).map λv=>(sh,[⟨f.n,f.k+1,v⟩])else(vm (.any w) sh s).map λv=>(v,[⟨f.n,f.k+1,f.w⟩])
 |.turn w=>if w=true then(vm (.turn w) f.w o).map λv=>(sh,[⟨f.n,f.k+1,v⟩])else(vm (.turn w) sh s).map λv=>(v,[⟨f.n,f.k+1,f.w⟩])
def qB(fs:List Fr)(m:Int×List Fr):D:=dX m.1 (m.2++fs)
def Bt(fs:List Fr)(ms:List (Int×List Fr)):D.aC (ms.map (qB fs))=true:=aV _ _ λm=>jL _ _
def tJ(r:Rw)(v c:Int)(h:yK r=true)(h1:0<c)(h2:c<=4):cz [.tup r.d,.int v,.int c]=.ok (.new ((vm r v c).map .int) true):=by
 cases r with
 |set w n=>rfl
 |turn w=>simp_arith[cz,iO,Rw.d,vm,cJ,tH,Ah,h1,cf]
 |any w=>
  have c1:-4611686018427387904<=c:=by lia
  have c2:c<4611686018427387904:=by lia
  have hc:=bb (mk:=λd=>gN 0 d true (dv [some (.val (.tup (Rw.d (.any w))) false),some (.val (.int v) false),some (.val (.int c) false)] 1 [])) (test:=λ_=>.ok true) (elt:=gc) (λk:Nat=>D.int k) (λk=>.val (.int (k:Nat)) true []) (List.range c.toNat) λk hk=>⟨[some (.val (.int (k:Nat)) true)],rfl,rfl,by simp_arith[gc]⟩;unfold Rw.d at hc ⊢;dsimp only at hc ⊢;simp_arith[cz,iO,vm,cJ,vw,CO];rw[u9 c1 c2,qU,jU,bI (by simp;lia) hc,eV (λk:Nat=>D.int (k:Nat)),bJ (aV _ _ λ_=>rfl)];simp_arith[dQ];rfl
 |_=>cases h
def pd{a bj:En->Res Fl}{e0 e1 e2 e3 e4 e5 e6 e8:Option Sl}{ds:List D}{h x:Str}(fl:D.aC ds=true)(a0:b0 ds 0=some (.str h))(ne:b6 (.str h) (.str x)=false) :
 aG (eJ (vB (v2 gu (aE 7 (vC (.int 0))) (vC (.str x)))) a bu) bj [e0,e1,e2,e3,e4,e5,e6,some (.val (.tup ds) true),e8]=bj [e0,e1,e2,e3,e4,e5,e6,some (.val (.tup ds) true),e8]:=by
 have t:vB (v2 gu (aE 7 (vC (.int 0))) (vC (.str x))) [e0,e1,e2,e3,e4,e5,e6,some (.val (.tup ds) true),e8]=.ok false:=by simp_arith[fl,a0,cJ,ne]
 rw[ya,Es,t];rfl
def LR{a bj:En->Res Fl}{e0 e1 e2 e3 e4 e5 e6 e8:Option Sl}{ds:List D}{h x:Str}{v:R}(fl:D.aC ds=true)(a0:b0 ds 0=some (.str h))(ne:b6 (.str h) (.str x)=true)(ha:a [e0,e1,e2,e3,e4,e5,e6,some (.val (.tup ds) true),e8]=.ok (.rt v)) :
 aG (eJ (vB (v2 gu (aE 7 (vC (.int 0))) (vC (.str x)))) a bu) bj [e0,e1,e2,e3,e4,e5,e6,some (.val (.tup ds) true),e8]=.ok (.rt v):=by
 have t:vB (v2 gu (aE 7 (vC (.int 0))) (vC (.str x))) [e0,e1,e2,e3,e4,e5,e6,some (.val (.tup ds) true),e8]=.ok true:=by simp_arith[fl,a0,cJ,ne]
 rw[ya,Es,t];show(a _).bind _=_;rw[ha];rfl
abbrev mE(s o sh:Int)(qs:List Pq)(f:Fr)(fs:List Fr)(r:Rw)(g:Bool):En:=[some (.val (pq s o qs) false),some (.val (dX sh (f::fs)) g),some (.val (.int sh) true),some (.val (.str f.n) true),some (.val (.int f.k) true),some (.val (.int f.w) true),some (.val (.tup (fs.map jc)) true),some (.val (.tup r.d) true),some (.val (.tup [.str f.n,.int (f.k+1),.int f.w]) true)]
def LS{sh:Int}{f:Fr}{fs:List Fr}{r:Rw}{k:Nat}(hf:f.n∈qs.map (·.1))(hk:f.k=k)(hr:(eU qs f.n)[k]?=some r):ci [pq s o qs,dX sh (f::fs)]=js (fT (mE s o sh qs f fs r false)):=by
 have hro:=LQ (s:=s) (o:=o) hf;have fl:D.aC r.d=true:=(gf r).aC;have hat:b0 ((eU qs f.n).map λr=>D.tup r.d) f.k=some (.tup r.d):=by rw[hk];exact Q2 (by rw[iX,hr];rfl)
 have hpf:=fW s o qs;have hl:(((fs.length+1:Nat):Int)==0)=false:=Rb.mpr (by lia);have hfl:D.aC (fs.map jc)=true:=jd fs;have hcut:∀d:D,dw (d::fs.map jc) (some 1) none=fs.map jc:=λd=>by rw[sN];rfl
 have hfd:jc f=.tup [.str f.n,.int f.k,.int f.w]:=rfl;have hrl:∀l:List D,(D.lst l).flat=false:=λ_=>rfl;unfold mE dX;rw[b8,hfd];simp_arith[ci,kf,iR,hfl,cJ,bH,hl,lP,Aa,Ii,lO,hcut,lN,hpf,hro,yb,hrl,Cu,hat,fl,lM]
def ad1{d:D}{fs:List Fr}{f:Bool}{al:List Nat}(hd:d.flat=true)(hl:fs.length<=900000):zE [d] (fs.map jc) f al=.ok (.val (.tup (d::fs.map jc)) true []):=by
 have h:(D.tup (d::fs.map jc)).flat=true:=by rw[dZ,be,hd,jd];rfl
 rw[A2 (by simp;lia) (by simp)];exact ie Res.ok (zA h)
def ad2{d e:D}{fs:List Fr}{f:Bool}{al:List Nat}(hd:d.flat=true)(he:e.flat=true)(hl:fs.length<=900000):zE [d,e] (fs.map jc) f al=.ok (.val (.tup (d::e::fs.map jc)) true []):=by
 have h:(D.tup (d::e::fs.map jc)).flat=true:=by rw[dZ,be,be,hd,he,jd];rfl
 rw[A2 (by simp;lia) (by simp)];exact ie Res.ok (zA h)
def LU{fa:En->Res R}{env:En}{ds:List D}:E4 fa env (.lst ds)=(fa env).bind (u0 ds):=rfl
def Ow{f:Bool}{al:List Nat}:u0 [.str "shared",.str "own"] (.val (.str "shared") f al)=.ok (.val (.int 0) true []):=rfl
def Ox{f:Bool}{al:List Nat}:u0 [.str "shared",.str "own"] (.val (.str "own") f al)=.ok (.val (.int 1) true []):=rfl
def wv(s o sh:Int)(f:Fr)(r:Rw):List (Int×List Fr):=if Ia r=true then(vm r f.w o).map λv=>(sh,[⟨f.n,f.k+1,v⟩])else(vm r sh s).map λv=>(v,[⟨f.n,f.k+1,f.w⟩])
def Aj(h1:0<o)(h2:o<=4)(h3:0<s)(h4:s<=4){sh:Int}{f:Fr}{fs:List Fr}{r:Rw}(hl:fs.length<=900000)(hV:yK r=true)(hm:Bs s o sh f r=wv s o sh f r) :
 js (fT (mE s o sh qs f fs r false))=.ok (.new ((Bs s o sh f r).map (qB fs)) true):=by
 have fl:D.aC r.d=true:=(gf r).aC;have g0:b0 r.d 0=some (.str r.t):=by cases r<;>rfl
 have g1:b0 r.d 1=some (.str (wd (Ia r))):=by cases r<;>first|rfl|cases hV
 have ne:∀x∈(["stop","back","skip","call","go","fork","if"]:List Str),b6 (.str r.t) (.str x)=false:=by intro x hx;simp only[cB,fw,mH]at hx;rcases hx with rfl|rfl|rfl|rfl|rfl|rfl|rfl<;>cases r<;>first|rfl|cases hV
 have ff:D.aC (fs.map jc)=true:=jd fs;have a1:∀(d:D)(g:Bool)(al:List Nat),d.flat=true->zE [d] (fs.map jc) g al=.ok (.val (.tup (d::fs.map jc)) true []):=λd g al hd=>ad1 hd hl;have c:fT (mE s o sh qs f fs r false)=eG (mE s o sh qs f fs r false):=(pd fl g0 (ne "stop" (by simp))).trans ((pd fl g0 (ne "back" (by simp))).trans ((pd fl g0 (ne "skip" (by simp))).trans ((pd fl g0 (ne "call" (by simp))).trans ((pd fl g0 (ne "go" (by simp))).trans ((pd fl g0 (ne "fork" (by simp))).trans (pd fl g0 (ne "if" (by simp))))))));rw[c,hm];have hrf:(D.tup r.d).flat=true:=fl;cases hw:Ia r with
 |false=>
  have hb:=tJ r sh s hV h3 h4;have hvl:=pR r sh s h4;have hc:=bb (mk:=λd=>gN 0 d true (dv (mE s o sh qs f fs r false) 1 [6,8])) (test:=λ_=>.ok true) (elt:=iP) (λk:Int=>D.int k) (λk=>.val (qB fs (k,[⟨f.n,f.k+1,f.w⟩])) true []) (vm r sh s)
   λk hk=>⟨[some (.val (.int k) true),some (.val (.tup (fs.map jc)) true),some (.val (.tup [.str f.n,.int (f.k+1),.int f.w]) true)],rfl,rfl,by simp_arith[iP,ff,a1,qB,dX,jc]⟩
  have hbf:D.aC ((vm r sh s).map D.int)=true:=bc _;have em:(vm r sh s).map (λk=>qB fs (k,[⟨f.n,f.k+1,f.w⟩]))=(wv s o sh f r).map (qB fs):=by unfold wv;rw[dS (by rw[hw];simp),dQ];rfl
  have es:b6 (.str (wd false)) (.str "shared")=true:=by decide
  rw[hw]at g1;unfold mE at hc ⊢;rw[m7]at hc ⊢;simp_arith[eG,fl,g1,cJ,es,hb,hbf,hrf];rw[bI (by rw[bH];lia) hc,eV (λk:Int=>qB fs (k,[⟨f.n,f.k+1,f.w⟩])),em,bJ (Bt fs _)];simp_arith
 |true=>
  have hb:=tJ r f.w o hV h1 h2;have hvl:=pR r f.w o h2;have hc:=bb (mk:=λd=>gN 0 d true (dv (mE s o sh qs f fs r false) 1 [2,3,4,6])) (test:=λ_=>.ok true) (elt:=iQ) (λk:Int=>D.int k) (λk=>.val (qB fs (sh,[⟨f.n,f.k+1,k⟩])) true []) (vm r f.w o)
   λk hk=>⟨[some (.val (.int k) true),some (.val (.int sh) true),some (.val (.str f.n) true),some (.val (.int f.k) true),some (.val (.tup (fs.map jc)) true)],rfl,rfl,by simp_arith[iQ,ff,a1,qB,dX,jc]⟩
  have hbf:D.aC ((vm r f.w o).map D.int)=true:=bc _;have em:(vm r f.w o).map (λk=>qB fs (sh,[⟨f.n,f.k+1,k⟩]))=(wv s o sh f r).map (qB fs):=by unfold wv;rw[c5 hw,dQ];rfl
  have es:b6 (.str (wd true)) (.str "shared")=false:=by decide
  rw[hw]at g1;unfold mE at hc ⊢;rw[m7]at hc ⊢;simp_arith[eG,kz,fl,g1,cJ,es,hb,hbf,hrf];rw[bI (by rw[bH];lia) hc,eV (λk:Int=>qB fs (sh,[⟨f.n,f.k+1,k⟩])),em,bJ (Bt fs _)];simp_arith
def FN(h1:0<o)(h2:o<=4)(h3:0<s)(h4:s<=4){sh:Int}{f:Fr}{fs:List Fr}{r:Rw}{k:Nat}(hl:fs.length<=900000)(hf:f.n∈qs.map (·.1))(hk:f.k=k)(hr:(eU qs f.n)[k]?=some r) :
 ci [pq s o qs,dX sh (f::fs)]=.ok (.new ((Bs s o sh f r).map (qB fs)) true):=by
 rw[LS hf hk hr];have fl:D.aC r.d=true:=(gf r).aC;have g0:b0 r.d 0=some (.str r.t):=by cases r<;>rfl
 have ff:D.aC (fs.map jc)=true:=jd fs;have a1:∀(d:D)(g:Bool)(al:List Nat),d.flat=true->zE [d] (fs.map jc) g al=.ok (.val (.tup (d::fs.map jc)) true []):=λd g al hd=>ad1 hd hl;have a2:∀(d e:D)(g:Bool)(al:List Nat),d.flat=true->e.flat=true->zE [d,e] (fs.map jc) g al=.ok (.val (.tup (d::e::fs.map jc)) true []):=λd e g al hd he=>ad2 hd he hl;cases r with
 |stop=>exact ie js (LR fl g0 rfl (v:=.new [] true) rfl)
 |back=>exact ie js ((pd fl g0 rfl).trans (LR fl g0 rfl (v:=.new [qB fs (sh,[])] true) (by simp_arith[ff,qB,dX,cf])))
 |skip=>exact ie js ((pd fl g0 rfl).trans ((pd fl g0 rfl).trans (LR fl g0 rfl (v:=.new [qB fs (sh,[⟨f.n,f.k+1,f.w⟩])] true) (by simp_arith[ff,qB,dX,jc,a1,cf]))))
 |call g=>exact ie js ((pd fl g0 rfl).trans ((pd fl g0 rfl).trans ((pd fl g0 rfl).trans (LR fl g0 rfl (v:=.new [qB fs (sh,[⟨g,0,f.w⟩,⟨f.n,f.k+1,f.w⟩])] true) (by simp_arith[ff,qB,dX,jc,a2,Rw.d,cf])))))
 |go j=>exact ie js ((pd fl g0 rfl).trans ((pd fl g0 rfl).trans ((pd fl g0 rfl).trans ((pd fl g0 rfl).trans (LR fl g0 rfl (v:=.new [qB fs (sh,[⟨f.n,j,f.w⟩])] true) (by simp_arith[ff,qB,dX,jc,a1,Rw.d,cf]))))))
 |fork j=>exact ie js ((pd fl g0 rfl).trans ((pd fl g0 rfl).trans ((pd fl g0 rfl).trans ((pd fl g0 rfl).trans ((pd fl g0 rfl).trans (LR fl g0 rfl (v:=.new [qB fs (sh,[⟨f.n,f.k+1,f.w⟩]),qB fs (sh,[⟨f.n,j,f.w⟩])] true) (by simp_arith[ff,qB,dX,jc,a1,Rw.d,cf])))))))
 |iff w n j=>
  have hb:∃b:Bool,b6 (.int (if w then f.w else sh)) (.int n)=b/\(if(if w then f.w else sh)=n then j else f.k+1)=if b then j else f.k+1:=by
   by_cases hc:(if w then f.w else sh)=n
   .exact⟨true,by rw[il];simpa using hc,by simp[hc]⟩
   .exact⟨false,by rw[il];simpa using hc,by simp[hc]⟩
  obtain⟨b,hb,e⟩:=hb;refine ie js ((pd fl g0 rfl).trans ((pd fl g0 rfl).trans ((pd fl g0 rfl).trans ((pd fl g0 rfl).trans ((pd fl g0 rfl).trans ((pd fl g0 rfl).trans (LR fl g0 rfl (v:=.new [qB fs (sh,[⟨f.n,if(if w then f.w else sh)=n then j else f.k+1,f.w⟩])] true) ?_)))))));rw[e];cases w<;>cases b<;>(simp only[vE,Rk,Rv]at hb ⊢;simp_arith[ff,qB,dX,jc,a1,Rw.d,Lp,Lq,LU,Ow,Ox,cf,cJ,hb])
 |set w n=>exact Aj h1 h2 h3 h4 hl rfl rfl
 |any w=>exact Aj h1 h2 h3 h4 hl rfl rfl
 |turn w=>exact Aj h1 h2 h3 h4 hl rfl rfl
end
def gZ(o:Int)(qs:List Pq)(f:Fr):Int:=(bM 0 qs f.n+f.k)*o+f.w
noncomputable def ux(sh:Int)(gs:List Int):D:=.tup [.int sh,.lst (gs.map .int)]
def mC(sh:Int)(gs:List Int):(ux sh gs).flat=false:=(rfl)
section
variable{s o:Int}{qs:List Pq}
theorem vA{P:D}{f:Fr}(k1:-18446744073709551616<o)(k2:o<18446744073709551616)(hP:∀g,pE P (.int 1) g []=.ok (.val (.int o) true []))(hPf:P.flat=false){g0:Bool}:∀(qs:List Pq)(c:Int)(x y:Option Sl),f.n∈qs.map (·.1)->
 cI (iU 3 4) false d8 (qs.map qD) [some (.val P false),some (.val (jc f) g0),some (.val (.int c) true),x,y]=.ok (.rt (.val (.int ((bM c qs f.n+f.k)*o+f.w)) true []))
 |[],c,x,y,h=>by cases h
 |q::qs,c,x,y,hn=>by
  have st:(iU 3 4) (qD q) false [some (.val P false),some (.val (jc f) g0),some (.val (.int c) true),x,y]=some [some (.val P false),some (.val (jc f) g0),some (.val (.int c) true),some (.val (.str q.1) false),some (.val (.lst (q.2.map λr=>D.tup r.d)) false)]:=rfl;rw[b8];by_cases h:q.1=f.n
  .have hb:b6 (.str q.1) (.str f.n)=true:=by rw[h];exact da _
   refine wY st ?_;rw[<- h,rL];simp_arith[d8,jc,cJ,hb,k1,k2,hPf,Cu,hP]
  .have b:=Af h;have:d8 [some (.val P false),some (.val (jc f) g0),some (.val (.int c) true),some (.val (.str q.1) false),some (.val (.lst (q.2.map λr=>D.tup r.d)) false)]=.ok (.nx [some (.val P false),some (.val (jc f) g0),some (.val (.int (c+q.2.length)) true),some (.val (.str q.1) false),some (.val (.lst (q.2.map λr=>D.tup r.d)) false)]):=by simp_arith[d8,jc,cJ,b,oS]
   rw[rM h,mB st this];refine vA k1 k2 hP hPf qs _ _ _ ?_;rw[b8,cB]at hn;exact hn.resolve_left λz=>h z.symm
def FO(h1:0<o)(h2:o<=4){f:Fr}(hf:f.n∈qs.map (·.1)):jb [pq s o qs,jc f]=.ok (.val (.int (gZ o qs f)) true []):=by have h:=vA (P:=.tup [.int s,.int o,.lst (qs.map qD)]) (f:=f) (o:=o) (g0:=false) (by lia) (by lia) (λg=>by simp_arith) rfl qs 0 none none hf;unfold iU at h;rw[m7];simp_arith[jb,qx,h];rfl
def yQ(h1:0<o)(h2:o<=4){sh:Int}{fs:List Fr}(hf:∀f∈fs,f.n∈qs.map (·.1))(hl:fs.length<=900000):cW [ux sh (fs.map (gZ o qs)),pq s o qs,dX sh fs]=.ok (.val (.bl true) true []):=by
 have c1:=bb (mk:=λd=>gN 0 d false (dv [some (.val (ux sh (fs.map (gZ o qs))) false),some (.val (pq s o qs) false),some (.val (dX sh fs) false)] 1 [])) (test:=λ_=>.ok true) (elt:=c8) (λk:Int=>D.int k) (λ_=>.val (.bl true) true []) (fs.map (gZ o qs)) λk _=>⟨[some (.val (.int k) false)],rfl,rfl,by simp_arith[c8,pO]⟩;have c2:=bb (mk:=λd=>gN 0 d true (dv [some (.val (ux sh (fs.map (gZ o qs))) false),some (.val (pq s o qs) false),some (.val (dX sh fs) false)] 1 [1])) (test:=λ_=>.ok true) (elt:=c9) jc (λf=>.val (.int (gZ o qs f)) true []) fs λf hm=>⟨[some (.val (jc f) true),some (.val (pq s o qs) false)],rfl,rfl,by have hs:=FO (s:=s) h1 h2 (hf f hm);have hff:(jc f).flat=true:=rfl;simp_arith[c9,hff,fW,hs]⟩;have v1:cm 1 [] (fB (aE 0 (vC (.int 1)))) (gN 0) (λ_=>.ok true) c8 [some (.val (ux sh (fs.map (gZ o qs))) false),some (.val (pq s o qs) false),some (.val (dX sh fs) false)]=.ok (.new ((fs.map (gZ o qs)).map λ_=>D.bl true) true):=by rw[wq,zC,show aE 0 (vC (.int 1)) [some (.val (ux sh (fs.map (gZ o qs))) false),some (.val (pq s o qs) false),some (.val (dX sh fs) false)]=.ok (.val (.lst ((fs.map (gZ o qs)).map .int)) false []) by unfold ux;simp_arith];simp_arith;rw[bI (by simp;lia) c1,eV,bJ (aV _ _ λ_=>rfl)]
 have v2:cm 1 [1] (fB (aE 2 (vC (.int 1)))) (gN 0) (λ_=>.ok true) c9 [some (.val (ux sh (fs.map (gZ o qs))) false),some (.val (pq s o qs) false),some (.val (dX sh fs) false)]=.ok (.new (fs.map λf=>D.int (gZ o qs f)) true):=by have ff:D.aC (fs.map jc)=true:=jd fs;rw[wq,zC,show aE 2 (vC (.int 1)) [some (.val (ux sh (fs.map (gZ o qs))) false),some (.val (pq s o qs) false),some (.val (dX sh fs) false)]=.ok (.val (.tup (fs.map jc)) true []) by unfold dX;simp_arith[ff]];simp_arith;rw[bI (by simp;lia) c2,eV (λf:Fr=>D.int (gZ o qs f)),bJ (aV _ _ λ_=>rfl)]
 have ff:D.aC (fs.map jc)=true:=jd fs;have de:D.gH ((fs.map (gZ o qs)).map D.int)<=0:=Cv _;have em:(fs.map λf=>D.int (gZ o qs f))=(fs.map (gZ o qs)).map D.int:=by rw[dQ];rfl
 have eql:gu (.val (.lst ((fs.map (gZ o qs)).map .int)) false []) (.new ((fs.map (gZ o qs)).map D.int) true)=.ok (.val (.bl true) true []):=by rw[cJ (by rw[wu,wt];lia) (by rw[ww,wt];lia),wu,ww,da]
 have e2:b6 (.int 2) (.int 2)=true:=rfl;rw[em]at v2;unfold ux dX at *;simp_arith[-wq,cW,ky,zB,cJ,e2,pO,v1,pG,v2,ff,da,eql]
end
def oT(r:Rl)(room:Int)(st:List Int):Bool:=match st with
 |[]=>false
 |x::_=>r.room==room&&r.sign==x
def tL(r:Rl)(st:List Int):D:=.tup [.int r.to,.lst ((r.put++st.tail).map .int)]
def Ij(r:Rl):ml [r.d]=.ok (.val (.tup [.int r.room,.int r.sign]) true []):=by simp_arith[ml,vk,Rl.d,bc]
def Q7(a b c d:Int):b6 (.tup [.int a,.int b]) (.tup [.int c,.int d])=(a==c&&b==d):=by show(_&&(_&&true))=_;rw[Bool.and_true];rfl
def Ik(r:Rl)(room:Int)(st:List Int):tp [r.d,.tup [.int room,.lst (st.map .int)]]=.ok (.val (.bl (oT r room st)) true []):=by
 cases st with
 |nil=>
  have h0:decide ((0:Int)<(0:Nat))=false:=by decide
  simp_arith[tp,zO,h0,Rl.flat];rfl
 |cons x st=>have h0:decide ((0:Int)<((List.map D.int st).length+1:Nat))=true:=gh (by lia);simp_arith[tp,zO,h0,Rl.flat,Ij,cJ,Q7];rfl
def Ak(r:Rl)(room:Int)(st:List Int)(h:r.put.length+st.length<=1000000):mn [r.d,.tup [.int room,.lst (st.map .int)]]=.ok (.val (tL r st) true []):=by
 have hc:dw (List.map D.int st) (some 1) none=List.map D.int st.tail:=by rw[sM,sN]
 have hl:(List.map D.int r.put).length+(List.map D.int st.tail).length<=1000000:=by
  have:st.tail.length<=st.length:=by rw[List.length_tail];lia
  rw[bH,bH];lia
 have hf:D.aC (List.map D.int r.put++List.map D.int st.tail)=true:=by rw[<- kE];exact bc _
 simp_arith[mn,vo,Rl.flat,Rl.d,bc,hc,sK,hl,hf];rw[<- kE];rfl
def pT(rules:List Rl)(room:Int)(st:List Int):List D:=(rules.zipIdx.filter λp=>oT p.1 room st).map λp=>.tup [.int (p.2:Nat),tL p.1 st]
def Al(r:Rl)(st:List Int):(tL r st).flat=false:=by unfold tL;simp only[dZ,be,gz,oh,Rx,Rm]
def Am{e0:Option Sl}{room:Int}{st:List Int}{fr g:Bool}(rules:List Rl)(hl:rules.length<=1000000)(hp:∀r∈rules,r.put.length+st.length<=1000000) :
 A0 2 [1] (gT 2 (ay (gN 0) (ay (gN 1) bA))) mq mr
  [e0,some (.val (.tup [.int room,.lst (st.map .int)]) g)] ⟨fC 0 (rules.map Rl.d),fr,[]⟩=.ok (.new (pT rules room st) true):=by
 have h:=og (mk:=λd=>gT 2 (ay (gN 0) (ay (gN 1) bA)) d fr (dv [e0,some (.val (.tup [.int room,.lst (st.map .int)]) g)] 2 [1])) (test:=mq)
  (elt:=mr) (λp:Rl×Nat=>.tup [.int (p.2:Nat),p.1.d]) (λp=>oT p.1 room st) (λp=>.val (.tup [.int (p.2:Nat),tL p.1 st]) true []) rules.zipIdx
  λp hpm=>⟨[some (.val (.int (p.2:Nat)) fr),some (.val p.1.d fr),some (.val (.tup [.int room,.lst (st.map .int)]) g)],rfl,by
   simp_arith[mq,Ik,Rl.flat],λ_=>by
   have hm:p.1∈rules:=by obtain⟨a,i⟩:=p;exact(List.mem_zipIdx hpm).2.2▸F2 _
   simp_arith[mr,Ak _ _ _ (hp _ hm),Rl.flat,Al]⟩
 rw[mf,bI (by rw[bH,List.length_zipIdx];exact hl) h,eV,E6];show Res.ok (o_ (pT rules room st) true [])=_;rw[cf]
def FP(rooms signs room:Int)(rules:List Rl)(st:List Int)(hl:rules.length<=1000000)(hp:∀r∈rules,r.put.length+st.length<=1000000) :
 mw [.tup [.int rooms,.int signs,.lst (rules.map Rl.d)],.tup [.int room,.lst (st.map .int)]]=.ok (.new (pT rules room st) true):=by
 simp_arith[mw,A3,Am rules hl hp]
theorem An{β:Type}{f:Nat->List β}{a:Nat}:∀n,a<n->(∀i,i<n->i≠a->f i=[])->(List.range n).flatMap f=f a
 |0,h,_=>by lia
 |n+1,h,hf=>by
  rw[List.range_succ,List.flatMap_append];by_cases e:a=n
  .subst e;have:(List.range a).flatMap f=[]:=by rw[List.flatMap_eq_nil_iff];intro i hi;have:=nh.mp hi;exact hf i (by lia) (by lia)
   rw[this];simp
  .rw[An n (by lia) λi hi hn=>hf i (by lia) hn];have:=hf n (by lia) (kF e);simp[this]
def wZ{β:Type}{f:Nat->List β}(n:Nat)(h:∀i,i<n->f i=[]):(List.range n).flatMap f=[]:=by rw[List.flatMap_eq_nil_iff];intro i hi;exact h i (nh.mp hi)
section
variable(s o:Int)(fo:Str->Int)
def tM(first pt sh ow:Int)(r:Rw):List Rl:=(mv s o fo first pt sh ow r).map λm=>⟨sh,pt*o+ow,m.1,m.2⟩
def LV(first pt:Int)(r:Rw):List Rl:=(List.range o.toNat).flatMap λow:Nat=>(List.range s.toNat).flatMap λsh:Nat=>tM s o fo first pt sh ow r
def qC(first:Int):Int->List Rw->List Rl
 |_,[]=>[]
 |pt,r::rs=>LV s o fo first pt r++qC first (pt+1) rs
def oU:Int->List Pq->List Rl
 |_,[]=>[]
 |f,q::qs=>qC s o fo (fo q.1) f q.2++oU (f+q.2.length) qs
def Oy(first pt sh ow:Int)(r:Rw):FH s o fo first pt sh ow r=(tM s o fo first pt sh ow r).map Rl.d:=by unfold FH tM;rw[dQ];rfl
def Qf(first pt:Int)(r:Rw):FK s o fo first pt r=(LV s o fo first pt r).map Rl.d:=by unfold FK LV FJ;simp only[List.map_flatMap,Oy]
theorem FQ(first:Int):∀(rs:List Rw)(pt:Int),jK s o fo first pt rs=(qC s o fo first pt rs).map Rl.d
 |[],_=>rfl
 |r::rs,pt=>by unfold jK qC;rw[kE,Qf,FQ first rs]
theorem Jn:∀(ps:List Pq)(f:Int),kR s o fo f ps=(oU s o fo f ps).map Rl.d
 |[],_=>rfl
 |q::ps,f=>by unfold kR oU;rw[kE,FQ,Jn ps]
end
section
variable{s o:Int}{fo:Str->Int}{sh pt ow:Int}
noncomputable def C3(sh sg:Int)(r:Rl):Bool:=r.room==sh&&r.sign==sg
def FR(first pt' sh' ow':Int)(r:Rw)(h:¬(sh'=sh/\pt'*o+ow'=pt*o+ow)):(tM s o fo first pt' sh' ow' r).filter (C3 sh (pt*o+ow))=[]:=by rw[List.filter_eq_nil_iff];intro x hx hp;obtain⟨m,_,rfl⟩:=dP.mp hx;unfold C3 at hp;rw[fq,tW,tW]at hp;exact h hp
def Oz(first:Int)(r:Rw):(tM s o fo first pt sh ow r).filter (C3 sh (pt*o+ow))=tM s o fo first pt sh ow r:=by rw[List.filter_eq_self];intro x hx;obtain⟨m,_,rfl⟩:=dP.mp hx;unfold C3;rw[FX,FX];rfl
def FS{a b x y:Int}(h1:0<=x)(h2:x<o)(h3:0<=y)(h4:y<o)(h:a*o+x=b*o+y):a=b/\x=y:=by
 have e1:(a*o+x)/o=a:=by rw[Int.add_comm,Int.add_mul_ediv_right _ _ (by lia),Int.ediv_eq_zero_of_lt h1 h2];lia
 have e2:(b*o+y)/o=b:=by rw[Int.add_comm,Int.add_mul_ediv_right _ _ (by lia),Int.ediv_eq_zero_of_lt h3 h4];lia
 have:a=b:=by rw[<- e1,<- e2,h]
 subst this;exact⟨rfl,by lia⟩
def OA(w0:0<=ow)(w1:ow<o)(first pt':Int)(r:Rw)(h:pt'≠pt):(LV s o fo first pt' r).filter (C3 sh (pt*o+ow))=[]:=by unfold LV;rw[pW];refine wZ _ λi hi=>?_;rw[pW];exact wZ _ λj hj=>FR first pt' j i r λz=>h (FS (by lia) (by lia) w0 w1 z.2).1
def Qg(w0:0<=ow)(w1:ow<o)(s0:0<=sh)(s1:sh<s)(first:Int)(r:Rw):(LV s o fo first pt r).filter (C3 sh (pt*o+ow))=tM s o fo first pt sh ow r:=by
 unfold LV;rw[pW,An (a:=ow.toNat) _ (by lia) λi hi hn=>?_,pW,An (a:=sh.toNat) _ (by lia) λj hj hn=>?_]
 .rw[Int.toNat_of_nonneg w0,Int.toNat_of_nonneg s0,Oz]
 .exact FR first pt j _ r λz=>hn (by lia)
 .rw[pW];exact wZ _ λj hj=>FR first pt j i r λz=>hn (by have:=(FS (by lia) (by lia) w0 w1 z.2).2;lia)
theorem w4(w0:0<=ow)(w1:ow<o)(first:Int):∀(rs:List Rw)(pt':Int),(pt<pt'\/pt'+rs.length<=pt)->(qC s o fo first pt' rs).filter (C3 sh (pt*o+ow))=[]
 |[],_,_=>rfl
 |r::rs,pt',h=>by rw[gK]at h;unfold qC;rw[t5,OA w0 w1 first pt' r (by lia),w4 w0 w1 first rs (pt'+1) (by lia)];rfl
theorem FT(w0:0<=ow)(w1:ow<o)(s0:0<=sh)(s1:sh<s)(first:Int){r:Rw}:∀(rs:List Rw)(pt':Int)(i:Nat),pt=pt'+i->rs[i]?=some r->(qC s o fo first pt' rs).filter (C3 sh (pt*o+ow))=tM s o fo first pt sh ow r
 |[],_,_,_,h=>by cases h
 |x::rs,pt',i,e,h=>by
  unfold qC;rw[t5];cases i with
  |zero=>simp at h e;subst h e;rw[Qg w0 w1 s0 s1,w4 w0 w1 first rs (pt+1) (by lia),kH]
  |succ i=>rw[OA w0 w1 first pt' x (by lia),FT w0 w1 s0 s1 first rs (pt'+1) i (by lia) (by simpa using h)];rfl
theorem FU(n:Str):∀(ps:List Pq)(f:Int),f<=bM f ps n
 |[],f=>Int.le_refl _
 |q::ps,f=>by have:=FU n ps (f+q.2.length);unfold bM;split<;>lia
theorem Jo(w0:0<=ow)(w1:ow<o):∀(ps:List Pq)(f:Int),pt<f->(oU s o fo f ps).filter (C3 sh (pt*o+ow))=[]
 |[],_,_=>rfl
 |q::ps,f,h=>by unfold oU;rw[t5,w4 w0 w1 _ q.2 f (.inl h),Jo w0 w1 ps _ (by lia)];rfl
theorem Jp(w0:0<=ow)(w1:ow<o)(s0:0<=sh)(s1:sh<s){n:Str}{k:Nat}{r:Rw}:∀(ps:List Pq)(f:Int),n∈ps.map (·.1)->pt=bM f ps n+k->(eU ps n)[k]?=some r->(oU s o fo f ps).filter (C3 sh (pt*o+ow))=tM s o fo (fo n) pt sh ow r
 |[],_,h,_,_=>by cases h
 |q::ps,f,hn,e,hr=>by
  unfold oU;rw[t5];by_cases h:q.1=n
  .subst h;rw[rL]at e;unfold eU at hr;rw[c5 rfl]at hr;have:=(cD.mp hr).1;rw[FT w0 w1 s0 s1 _ q.2 f k e hr,Jo w0 w1 ps _ (by lia),kH]
  .rw[rM h]at e;unfold eU at hr;rw[dS h]at hr;have:=FU n ps (f+q.2.length);rw[w4 w0 w1 _ q.2 f (.inr (by lia)),Jp w0 w1 s0 s1 ps _ ?_ e hr]
   .rfl
   .rw[b8,cB]at hn;exact hn.resolve_left λz=>h z.symm
end
def w6(o:Int)(qs:List Pq)(sh sg:Int)(m:Int×List Fr):Rl:=⟨sh,sg,m.1,m.2.map (gZ o qs)⟩
def LW{s o sh:Int}{qs:List Pq}(f:Fr)(r:Rw):tM s o (bM 0 qs) (bM 0 qs f.n) (bM 0 qs f.n+f.k) sh f.w r=(Bs s o sh f r).map (w6 o qs sh (gZ o qs f)):=by
 have e:∀k,bM 0 qs f.n+k+1=bM 0 qs f.n+(k+1):=λk=>by lia
 unfold tM;cases r with
 |set w n=>cases w<;>simp[mv,Bs,vm,w6,gZ,e]
 |any w=>cases w<;>simp[mv,Bs,vm,w6,gZ,e]<;>rfl
 |turn w=>cases w<;>simp[mv,Bs,vm,w6,gZ,e]
 |iff w n k=>
  by_cases hc:(if w=true then f.w else sh)=n
  .simp[mv,Bs,w6,gZ,hc]
  .simp[mv,Bs,w6,gZ,hc,e]
 |_=>simp[mv,Bs,w6,gZ,e]
theorem yR{α β γ:Type}(g:γ->α):∀(Z:List (α×β))(ms:List γ),Z.map (·.1)=ms.map g->∃zs:List (β×γ),Z=zs.map (λz=>(g z.2,z.1))/\ms=zs.map (·.2)
 |[],[],_=>⟨[],rfl,rfl⟩
 |[],_::_,h=>by cases h
 |_::_,[],h=>by cases h
 |(a,b)::Z,m::ms,h=>by rw[b8,b8]at h;injection h with h1 h2;obtain⟨zs,e1,e2⟩:=yR g Z ms h2;have h1:a=g m:=h1;exact⟨(b,m)::zs,by rw[e1,h1];rfl,by rw[e2];rfl⟩
section
variable{s o:Int}{qs:List Pq}
noncomputable abbrev Zs:=List (Nat×Int×List Fr)
def yY(z:Nat×Int×List Fr):D:=dX z.2.1 z.2.2
def yZ(o:Int)(qs:List Pq)(z:Nat×Int×List Fr):D:=.tup [.int z.1,ux z.2.1 (z.2.2.map (gZ o qs))]
theorem Bu(h1:0<o)(h2:o<=4){cnt:Int}{e0 e2:Option Sl}:∀(zs:Zs)(last:Int)(x y:Option Sl),zs.Pairwise (λa b=>a.1<b.1)->(∀z∈zs,last<z.1/\(z.1:Int)<cnt/\z.2.2.length<=900000/\∀f∈z.2.2,f.n∈qs.map (·.1))->∃(l':Int)(x' y':Option Sl),
 cI (iU 5 6) false fV (zs.map λz=>D.tup [yZ o qs z,yY z]) [e0,some (.val (pq s o qs) false),e2,some (.val (.int cnt) false),some (.val (.int last) true),x,y]=.ok (.nx [e0,some (.val (pq s o qs) false),e2,some (.val (.int cnt) false),some (.val (.int l') true),x',y'])
 |[],last,x,y,_,_=>⟨last,x,y,rfl⟩
 |z::zs,last,x,y,hp,hz=>by
  obtain⟨a1,a2,a3,a4⟩:=hz z (by simp);rw[List.pairwise_cons]at hp;obtain⟨l',x',y',ih⟩:=Bu h1 h2 zs (z.1:Nat) (some (.val (yZ o qs z) false)) (some (.val (yY z) false)) hp.2 λw hw=>⟨by have:=hp.1 w hw;lia,(hz w (by simp[hw])).2⟩;refine⟨l',x',y',?_⟩;have st:(iU 5 6) (D.tup [yZ o qs z,yY z]) false [e0,some (.val (pq s o qs) false),e2,some (.val (.int cnt) false),some (.val (.int last) true),x,y]=some [e0,some (.val (pq s o qs) false),e2,some (.val (.int cnt) false),some (.val (.int last) true),some (.val (yZ o qs z) false),some (.val (yY z) false)]:=rfl;have hs:=yQ (s:=s) (sh:=z.2.1) h1 h2 a4 a3;have d1:decide ((z.1:Int)<=last)=false:=fm (by lia);have d2:decide (cnt<=(z.1:Int))=false:=fm (by lia);have e2':b6 (.int 2) (.int 2)=true:=rfl;have hnf:=jL z.2.1 z.2.2;have hsf:=mC z.2.1 (z.2.2.map (gZ o qs));have hpf:=fW s o qs;have tn:fV [e0,some (.val (pq s o qs) false),e2,some (.val (.int cnt) false),some (.val (.int last) true),some (.val (yZ o qs z) false),some (.val (yY z) false)]=.ok (.nx [e0,some (.val (pq s o qs) false),e2,some (.val (.int cnt) false),some (.val (.int (z.1:Nat)) true),some (.val (yZ o qs z) false),some (.val (yY z) false)]):=by unfold yZ yY;simp_arith[fV,zB,e2',pO,hsf,hnf,hpf,hs,d1,d2]
  rw[b8,mB st tn];exact ih
def vD(h1:0<o)(h2:o<=4){cnt:Int}(zs:Zs)(hp:zs.Pairwise (λa b=>a.1<b.1))(hz:∀z∈zs,(z.1:Int)<cnt/\z.2.2.length<=900000/\∀f∈z.2.2,f.n∈qs.map (·.1)) :
 dL [.lst (zs.map (yZ o qs)),pq s o qs,.lst (zs.map yY),.int cnt]=.ok (.val (.bl true) true []):=by
 obtain⟨l',x',y',lp⟩:=Bu (s:=s) (qs:=qs) (cnt:=cnt) (e0:=some (.val (.lst (zs.map (yZ o qs))) false)) (e2:=some (.val (.lst (zs.map yY)) false)) h1 h2 zs (-1) none none hp λz h=>⟨by lia,hz z h⟩;unfold iU at lp;have e:b6 (.int (zs.length:Nat)) (.int (zs.length:Nat))=true:=da _;simp_arith[dL,oJ,zB,bH,e,rK,lp]
def VF(o:Int)(qs:List Pq)(f:Fr):Prop:=f.n∈qs.map (·.1)/\(0<=f.w/\f.w<o)/\∃k:Nat,f.k=k/\k<(eU qs f.n).length
theorem rO{n:Str}:∀qs:List Pq,n∈qs.map (·.1)->∃q∈qs,eU qs n=q.2
 |[],h=>by cases h
 |q::qs,h=>by
  unfold eU;by_cases e:q.1=n
  .exact⟨q,by simp,c5 e⟩
  .rw[b8,cB]at h;obtain⟨p,hp,ep⟩:=rO qs (h.resolve_left λz=>e z.symm);exact⟨p,by simp[hp],by rw[dS e];exact ep⟩
def Il(h1:0<o)(h3:0<s)(hq:∀q∈qs,0<q.2.length/\∀(i:Nat)(r:Rw),q.2[i]?=some r->RwOk (qs.map (·.1)) s o q.2.length (decide (i+1=q.2.length)) r){sh:Int}(s0:0<=sh)(s1:sh<s){f:Fr}(hf:VF o qs f){k:Nat}{r:Rw}(hk:f.k=k)(hr:(eU qs f.n)[k]?=some r) :
 ∀m∈Bs s o sh f r,(0<=m.1/\m.1<s)/\(∀g∈m.2,VF o qs g)/\m.2.length<=2:=by
 obtain⟨hn,hw,-⟩:=hf;obtain⟨q,hqm,eq⟩:=rO qs hn;obtain⟨q0,qr⟩:=hq q hqm;rw[eq]at hr;have ok:=qr k r hr;have hkl:=(cD.mp hr).1;have here:∀(j:Int)(w:Int),0<=j->j<q.2.length->0<=w->w<o->VF o qs ⟨f.n,j,w⟩:=λj w a b c d=>⟨hn,⟨c,d⟩,j.toNat,by simp;lia,by rw[eq];lia⟩;have aft:decide (k+1=q.2.length)=false->∀w,0<=w->w<o->VF o qs ⟨f.n,f.k+1,w⟩:=λhd w c d=>here _ w (by lia) (by have:=of_decide_eq_false hd;lia) c d;have one:∀{sh':Int}{g:Fr},0<=sh'->sh'<s->VF o qs g->(0<=sh'/\sh'<s)/\(∀x∈[g],VF o qs x)/\[g].length<=2:=λa b h=>⟨⟨a,b⟩,λx hx=>by rw[gr.mp hx];exact h,by simp⟩;have val:∀w:Bool,yK r=true->decide (k+1=q.2.length)=false->(∀v∈vm r (if w then f.w else sh) (if w then o else s),0<=v/\v<(if w then o else s))->∀m∈(if w=true then(vm r f.w o).map λv=>(sh,[(⟨f.n,f.k+1,v⟩ : Fr)])else(vm r sh s).map λv=>(v,[⟨f.n,f.k+1,f.w⟩])),(0<=m.1/\m.1<s)/\(∀g∈m.2,VF o qs g)/\m.2.length<=2:=λw _ hd hv m hm=>by
  cases w with
  |true=>rw[c5 rfl]at hm;obtain⟨v,hv',rfl⟩:=dP.mp hm;have:=hv v hv';exact one s0 s1 (aft hd v this.1 this.2)
  |false=>rw[dS (by simp)]at hm;obtain⟨v,hv',rfl⟩:=dP.mp hm;have:=hv v hv';exact one this.1 this.2 (aft hd f.w hw.1 hw.2)
 intro m hm;cases r with
 |stop=>cases hm
 |back=>rw[gr.mp hm];exact⟨⟨s0,s1⟩,nofun,by simp⟩
 |skip=>rw[gr.mp hm];exact one s0 s1 (aft ok _ hw.1 hw.2)
 |go j=>rw[gr.mp hm];exact one s0 s1 (here j _ ok.1 ok.2 hw.1 hw.2)
 |fork j=>
  rcases cB.mp hm with rfl|hm
  .exact one s0 s1 (aft ok.2 _ hw.1 hw.2)
  .rw[gr.mp hm];exact one s0 s1 (here j _ ok.1.1 ok.1.2 hw.1 hw.2)
 |iff w n j=>
  rw[gr.mp hm];refine one s0 s1 ?_;by_cases hc:(if w then f.w else sh)=n
  .rw[c5 hc];exact here j _ ok.1.2.1 ok.1.2.2 hw.1 hw.2
  .rw[dS hc];exact aft ok.2 _ hw.1 hw.2
 |call g=>
  rw[gr.mp hm];obtain⟨p,hpm,ep⟩:=rO qs ok.1;have p0:=(hq p hpm).1;refine⟨⟨s0,s1⟩,λx hx=>?_,by simp⟩;rcases cB.mp hx with rfl|hx
  .exact⟨ok.1,hw,0,rfl,by rw[ep];exact p0⟩
  .rw[gr.mp hx];exact aft ok.2 _ hw.1 hw.2
 |set w n=>exact val w rfl ok.2 (λv hv=>by simp[vm]at hv;subst hv;have:=ok.1;unfold vl at this;exact this) m hm
 |any w=>exact val w rfl ok (λv hv=>by simp[vm]at hv;obtain⟨a,ha,rfl⟩:=hv;cases w<;>(simp at ha ⊢;lia)) m hm
 |turn w=>exact val w rfl ok (λv hv=>by
  simp[vm]at hv;subst hv;have hc:0<(if w then o else s):=by cases w<;>assumption
  exact⟨Int.emod_nonneg _ (by lia),Int.emod_lt_of_pos _ hc⟩) m hm
structure Std(s o:Int) (qs:List Pq) (sh:Int) (fs:List Fr):Prop where
 s0:0<=sh
 s1:sh<s
 vf:∀f∈fs,VF o qs f
abbrev LX(s o:Int)(qs:List Pq):D:=.tup [.int s,.int (yX qs*o+0),.lst (kR s o (bM 0 qs) 0 qs)]
def Im(h1:0<o)(h2:o<=4)(h3:0<s)(h4:s<=4)(ht:yX qs<=2000)(hq:∀q∈qs,0<q.2.length/\∀(i:Nat)(r:Rw),q.2[i]?=some r->RwOk (qs.map (·.1)) s o q.2.length (decide (i+1=q.2.length)) r){sh:Int}{fs:List Fr}(S:Std s o qs sh fs)(hl:fs.length<=1000) :
 ∃zs:Zs,ci [pq s o qs,dX sh fs]=.ok (.new (zs.map yY) true)/\mw [LX s o qs,ux sh (fs.map (gZ o qs))]=.ok (.new (zs.map (yZ o qs)) true)/\
  dL [.lst (zs.map (yZ o qs)),pq s o qs,.lst (zs.map yY),.int ((kR s o (bM 0 qs) 0 qs).length:Nat)]=.ok (.val (.bl true) true [])/\∀z∈zs,Std s o qs z.2.1 z.2.2/\z.2.2.length<=fs.length+1:=by
 have hX:=Jn s o (bM 0 qs) qs 0;have hal:=yN (s:=s) (o:=o) h2 h4 (bM 0 qs) qs 0;have hXl:(oU s o (bM 0 qs) 0 qs).length=(kR s o (bM 0 qs) 0 qs).length:=by rw[hX,bH]
 have hst:=FP s (yX qs*o+0) sh (oU s o (bM 0 qs) 0 qs) (fs.map (gZ o qs)) (by lia) (λr hr=>by
  have:r.d∈kR s o (bM 0 qs) 0 qs:=by rw[hX];exact lZ hr
  obtain⟨a,b,m,e,hm⟩:=yO (bM 0 qs) qs 0 _ this;have:r.put.length<=2:=by have e':=ie (λd=>match d with|D.tup [_,_,_,D.tup l]=>l.length|_=>0) e;simp[Rl.d,C2]at e';lia
  rw[bH];lia)
 rw[<- hX]at hst;cases fs with
 |nil=>
  refine⟨[],?_,?_,?_,λz hz=>by cases hz⟩
  .have hz:b6 (.int (0:Nat)) (.int 0)=true:=rfl;unfold dX;simp_arith[ci,kf,iR,cJ,hz,cf]
  .have:pT (oU s o (bM 0 qs) 0 qs) sh (List.map (gZ o qs) [])=[]:=by
    unfold pT;have:((oU s o (bM 0 qs) 0 qs).zipIdx.filter λp=>oT p.1 sh (List.map (gZ o qs) []))=[]:=List.filter_eq_nil_iff.mpr λp _=>by simp[oT]
    rw[this];rfl
   rw[this]at hst;exact hst
  .exact vD h1 h2 [] List.Pairwise.nil λz hz=>by cases hz
 |cons f fs=>
  have vf:=S.vf f (by simp);obtain⟨hn,hw,k,hk,hkl⟩:=vf;obtain⟨r,hr⟩ : ∃r,(eU qs f.n)[k]?=some r:=⟨_,ic hkl⟩;have hmv:=FN (s:=s) (o:=o) (sh:=sh) (fs:=fs) h1 h2 h3 h4 (by simp at hl;lia) hn hk hr;have nx:=Il (s:=s) h1 h3 hq S.s0 S.s1 (S.vf f (by simp)) hk hr;have hf:=Jp (s:=s) (fo:=bM 0 qs) hw.1 hw.2 S.s0 S.s1 qs 0 hn (pt:=bM 0 qs f.n+f.k) (by rw[hk]) hr;rw[LW]at hf;have hZ:((oU s o (bM 0 qs) 0 qs).zipIdx.filter λp=>oT p.1 sh ((f::fs).map (gZ o qs))).map (·.1)=(Bs s o sh f r).map (w6 o qs sh (gZ o qs f)):=by
   rw[<- hf];have:∀(l:List Rl)(n:Nat),((l.zipIdx n).filter λp=>oT p.1 sh ((f::fs).map (gZ o qs))).map (·.1)=l.filter (C3 sh ((bM 0 qs f.n+f.k)*o+f.w)):=λl=>by
    induction l with
    |nil=>intro n;rfl
    |cons x l ih=>intro n;rw[Bz,qQ,qQ];have e:oT x sh ((f::fs).map (gZ o qs))=C3 sh ((bM 0 qs f.n+f.k)*o+f.w) x:=rfl;rw[<- ih (n+1)];dsimp only;rw[e];split<;>rfl
   exact this _ 0
  obtain⟨ys,e1,e2⟩:=yR _ _ _ hZ;refine⟨ys.map λy=>(y.1,y.2.1,y.2.2++fs),?_,?_,?_,λz hz=>?_⟩
  .rw[hmv,e2,dQ,dQ];rfl
  .refine Eq.trans hst ?_;unfold pT;rw[e1,dQ,dQ];congr 2;refine tS λy _=>?_;show D.tup [_,tL _ _]=D.tup [_,ux _ _];unfold tL ux w6;simp
  .have hidx:(ys.map (·.1)).Pairwise (·< ·)/\∀i∈ys.map (·.1),i<(kR s o (bM 0 qs) 0 qs).length:=by
    have e3:ys.map (·.1)=((oU s o (bM 0 qs) 0 qs).zipIdx.filter λp=>oT p.1 sh ((f::fs).map (gZ o qs))).map (·.2):=by rw[e1,dQ];rfl
    have sub:(ys.map (·.1)).Sublist (List.range' 0 (oU s o (bM 0 qs) 0 qs).length):=by rw[e3,<- List.zipIdx_map_snd];exact(List.filter_sublist).map _
    refine⟨List.Pairwise.sublist sub List.pairwise_lt_range',λi hi=>?_⟩;have:=List.mem_range'_1.mp (sub.subset hi);lia
   refine vD h1 h2 _ ?_ λz hz=>?_
   .rw[o9];have:=hidx.1;rw[o9]at this;exact this
   .obtain⟨y,hy,rfl⟩:=dP.mp hz;have hm:y.2∈Bs s o sh f r:=by rw[e2];exact lZ hy
    obtain⟨a,b,c⟩:=nx y.2 hm;have hi:=hidx.2 y.1 (lZ hy);refine⟨by simp only[];lia,by simp at hl ⊢;lia,λg hg=>?_⟩;rcases gg.mp hg with h|h
    .exact(b g h).1
    .exact(S.vf g (by simp[h])).1
  .obtain⟨y,hy,rfl⟩:=dP.mp hz;have hm:y.2∈Bs s o sh f r:=by rw[e2];exact lZ hy
   obtain⟨a,b,c⟩:=nx y.2 hm;refine⟨⟨a.1,a.2,λg hg=>?_⟩,by simp;lia⟩;rcases gg.mp hg with h|h
   .exact b g h
   .exact S.vf g (by simp[h])
end
def CS(ns:List Int)(hl:ns.length<=63):∃(s o:Int)(qs:List Pq),0<s/\s<=4/\0<o/\o<=4/\qs.length<=4/\Iq s o qs/\(qA qs).Nodup/\("main" : Str)∈qA qs/\(∀q∈qs,0<q.2.length/\q.2.length<=300/\∀(i:Nat)(r:Rw),q.2[i]?=some r->RwOk (qA qs) s o q.2.length (decide (i+1=q.2.length)) r)/\
 i9 [.lst (ns.map .int),.int 90]=.ok (.mG (pq s o qs)):=by
 obtain⟨names,n1,n2,n3,n4,n5,en⟩:=Fg (CA ns 1);have v1:=iS (CA ns 0) 1033 4 (by decide);have v2:=iS (CA ns 0) 1039 4 (by decide);have v3:=iT (CA ns 0) 1033 4 (by decide);have v4:=iT (CA ns 0) 1039 4 (by decide);have d1:=bK (CA ns 0) 1033 4 (by decide) (by decide);have d2:=bK (CA ns 0) 1039 4 (by decide) (by decide);generalize hS:dg (CA ns 0) 1033 4=sv at v1 v3 d1;generalize hO:dg (CA ns 0) 1039 4=ov at v2 v4 d2;obtain⟨lo,hlo⟩ : ∃k:Int,(if 90/((1+sv)*(1+ov))-4>2 then 90/((1+sv)*(1+ov))-4 else 2)=k:=⟨_,rfl⟩;have hcl:=yh ns (some 2) (some (2+lo));obtain⟨ps,r1,r2,ep⟩:=zW (cs:=dw ns (some 2) (some (2+lo))) (seed:=CA ns 0) (sv:=1+sv) (ov:=1+ov) n1 n2 (λn hn=>by have:=(n4 n hn).1.2;show n.cps.size<=20;simp at this;lia) (by lia) (by lia) (by lia);obtain⟨qs,rfl,q2⟩:=yF ps r2;have eqn:qA qs=names:=by rw[<- r1,dQ];rfl
 have hql:qs.length=names.length:=by rw[<- eqn,bH]
 have W:Iq (1+sv) (1+ov) qs:=by refine⟨by lia,by lia,by lia,by lia,by lia,by lia,λq hq'=>?_⟩;obtain⟨b1,b2,b3⟩:=q2 q hq';refine⟨n4 q.1 (by rw[<- eqn];exact dP.mpr ⟨q,hq',rfl⟩),b1,b2,λr hr=>?_⟩;obtain⟨i,hi⟩:=gm.mp hr;exact P9 (b3 i r hi) n4 (by lia) (by lia) (by lia)
 refine⟨1+sv,1+ov,qs,by lia,by lia,by lia,by lia,by lia,W,by rw[eqn];exact n3,by rw[eqn];exact n5,by rw[eqn];exact q2,?_⟩;have k1:-18446744073709551616<1+ov:=by lia
 have k2:1+ov<18446744073709551616:=by lia
 have hp0:0<(1+sv)*(1+ov):=Int.mul_pos (by lia) (by lia);have hp1:(1+sv)*(1+ov)<1073741824:=by have:(1+sv)*(1+ov)<=4*4:=Int.mul_le_mul (by lia) (by lia) (by lia) (by lia);lia
 have hnf:D.aC (names.map D.str)=true:=aV _ _ λ_=>rfl;have hcf:D.aC ((dw ns (some 2) (some (2+lo))).map D.int)=true:=bc _;have hpf:=fW (1+sv) (1+ov) qs;rw[Os]at ep;simp_arith[i9,qh,Fa ns 0 (by decide),Fa ns 1 (by decide),d1,d2,en,hnf,IS,k1,k2,hp0,hp1,hlo,sM,hcf,cf,ep,hpf]
def RwOk.n{names:List Str}{s o m:Int}{b:Bool}{r:Rw}(h:RwOk names s o m b r):LM names r:=by cases r<;>first|exact h.1|exact True.intro
def FV(rs:List R)(ds:List D):(fA rs (.new ds true)).d=.lst ds/\(fA rs (.new ds true)).fr=true/\(fA rs (.new ds true)).al=[]:=by
 cases h:D.aC ds with
 |true=>rw[yc rs h];exact⟨rfl,rfl,rfl⟩
 |false=>rw[u7 rs h];exact⟨rfl,rfl,rfl⟩
def w8(rs:List R)(ds:List D):(fA rs (.new ds true)).d=.lst ds:=(FV rs ds).1
def Bv(rs:List R)(ds:List D):(fA rs (.new ds true)).fr=true:=(FV rs ds).2.1
def Bw(rs:List R)(ds:List D):(fA rs (.new ds true)).al=[]:=(FV rs ds).2.2
def LY(ns:List Int)(hl:ns.length<=63):yq [.lst (ns.map .int)]=.ok (.val (.bl true) true []):=by
 obtain⟨s,o,qs,h3,h4,h1,h2,hq4,W,nd,hmn,hq,em⟩:=CS ns hl;have hpf:=fW s o qs;have htl:∀ps:List Pq,(∀q∈ps,q.2.length<=300)->yX ps<=300*ps.length:=λps=>by
  induction ps with
  |nil=>intro _;exact cC _
  |cons q ps ih=>intro h;have:=ih λx hx=>h x (by simp[hx]);have:=h q (by simp);rw[show yX (q::ps)=q.2.length+yX ps from rfl,gK,RA];lia
 have ht:=htl qs λq h=>(hq q h).2.1;have hQ:∀q∈qs,QH (qs.map (·.1)) q:=λq h=>by obtain⟨a,b,c⟩:=hq q h;refine⟨a,by lia,λr hr=>?_⟩;obtain⟨i,hi⟩:=gm.mp hr;exact(c i r hi).n
 have hh:=FM h1 h2 h3 h4 hq4 hQ nd (by lia);have tx:=H_ W;have rd:=HY W nd hmn λq h=>(hq q h).2.2;have hp:=Fz (s:=s) (o:=o) (λq h=>(hq q h).1) hmn;have hsg:=λp w=>rN (s:=s) (qs:=qs) h1 h2 p w;have hbe:bM 0 qs "main"*o+0=gZ o qs ⟨"main",0,0⟩:=by unfold gZ;simp
 have hb:gF [pq s o qs]=.ok (.val (ux 0 ([⟨"main",0,0⟩].map (gZ o qs))) true []):=by unfold ux;rw[b8,xf,<- hbe];simp_arith[gF,qq,hpf,hp,hsg,cf]
 have hq':∀q∈qs,0<q.2.length/\∀(i:Nat)(r:Rw),q.2[i]?=some r->RwOk (qs.map (·.1)) s o q.2.length (decide (i+1=q.2.length)) r:=λq h=>⟨(hq q h).1,(hq q h).2.2⟩;have bo:=λ{sh:Int}{fs:List Fr}=>Im (sh:=sh) (fs:=fs) h1 h2 h3 h4 (by lia) hq';have S0:Std s o qs 0 [⟨"main",0,0⟩]:=by refine⟨by lia,h3,λf hf=>?_⟩;rw[gr.mp hf];obtain⟨q,hqm,e⟩:=rO qs hmn;exact⟨hmn,⟨by simp,h1⟩,0,rfl,by simp only[];rw[e];exact(hq q hqm).1⟩
 have hs0:=yQ (s:=s) (sh:=0) (fs:=[⟨"main",0,0⟩]) h1 h2 (λf hf=>by rw[gr.mp hf];exact hmn) (by simp);have hnow:(D.tup [.int 0,.tup [.tup [.str "main",.int 0,.int 0]]])=dX 0 [⟨"main",0,0⟩]:=rfl;have hhf:(LX s o qs).flat=false:=rfl;have hn0:=jL 0 [⟨"main",0,0⟩];have hh2:∀g al,pE (LX s o qs) (.int 2) g al=.ok (lg (.lst (kR s o (bM 0 qs) 0 qs)) g al):=λg al=>by simp_arith
 have lp:∀e8:Option Sl,∃bf,cI (gN 6) true oK ((dw ns none (some 90)).map .int) [some (.val (.lst (ns.map .int)) false),some (.val (pq s o qs) true),some (.val (pq s o qs) true),some (.val (LX s o qs) true),some (.val (ux 0 ([⟨"main",0,0⟩].map (gZ o qs))) true),some (.val (dX 0 [⟨"main",0,0⟩]) true),none,none,none,none]=.ok (.nx bf)/\∃(sh:Int)(fs:List Fr)(e6 e7 e8 e9:Option Sl),Std s o qs sh fs/\fs.length<=1000/\bf=[some (.val (.lst (ns.map .int)) false),some (.val (pq s o qs) true),some (.val (pq s o qs) true),some (.val (LX s o qs) true),some (.val (ux sh (fs.map (gZ o qs))) true),some (.val (dX sh fs) true),e6,e7,e8,e9]:=λ_=>by
  have hcl:=yh ns none (some 90);obtain⟨bf,h,sh,fs,e6,e7,e8,e9,S,hf,rfl⟩:=eB D.int (asg:=gN 6) (fr:=true) (body:=oK) (dw ns none (some 90)) (λpre env=>∃(sh:Int)(fs:List Fr)(e6 e7 e8 e9:Option Sl),Std s o qs sh fs/\fs.length<=1+pre.length/\env=[some (.val (.lst (ns.map .int)) false),some (.val (pq s o qs) true),some (.val (pq s o qs) true),some (.val (LX s o qs) true),some (.val (ux sh (fs.map (gZ o qs))) true),some (.val (dX sh fs) true),e6,e7,e8,e9]) (dw ns none (some 90)) [] _ rfl ⟨0,_,none,none,none,none,S0,by simp,rfl⟩ (by
   rintro pre post c env hall ⟨sh,fs,e6,e7,e8,e9,S,hf,rfl⟩;have hpl:pre.length<64:=by have:=ie List.length hall;simp at this;lia
   obtain⟨zs,z1,z2,z3,z4⟩:=bo S (by lia);refine⟨[some (.val (.lst (ns.map .int)) false),some (.val (pq s o qs) true),some (.val (pq s o qs) true),some (.val (LX s o qs) true),some (.val (ux sh (fs.map (gZ o qs))) true),some (.val (dX sh fs) true),some (.val (.int c) true),e7,e8,e9],?_⟩;have hnf:=jL sh fs;have hsf:=mC sh (fs.map (gZ o qs));have wl:∀l:List D,(D.lst l).flat=false:=λ_=>rfl;cases zs with
   |nil=>have hz:b6 (.int (0:Nat)) (.int 0)=true:=rfl;refine⟨_,rfl,?_,0,[⟨"main",0,0⟩],some (.val (.int c) true),some (.val (.lst []) true),some (.val (.lst []) true),e9,S0,by simp,rfl⟩;simp only[xf]at z1 z2 z3;simp_arith[oK,hpf,hnf,z1,w8,Bv,Bw,hsf,hhf,z2,Cu,hh2,wl,z3,cJ,hz,hnow,hn0,hb,mC,wx,me]
   |cons z zs=>
    have hn:(0:Int)<((zs.length+1:Nat):Int):=by lia
    have hz:b6 (.int ((zs.length+1:Nat):Int)) (.int 0)=false:=by rw[il];simpa using(by lia:((zs.length+1:Nat):Int)≠0)
    have dd:=bK c 1193 ((zs.length+1:Nat):Int) (by decide) hn;have j0:=iS c 1193 ((zs.length+1:Nat):Int) hn;have j1:=iT c 1193 ((zs.length+1:Nat):Int) hn;generalize dg c 1193 ((zs.length+1:Nat):Int)=j at dd j0 j1;obtain⟨y,ey,my⟩:=sO (xs:=z::zs) j0 (by simpa using j1);obtain⟨Sy,ly⟩:=z4 y (fj my);have a1:b0 (yY z::zs.map yY) j=some (dX y.2.1 y.2.2):=by have:=rJ yY (z::zs) j;rw[ey]at this;exact this
    have a2:b0 (yZ o qs z::zs.map (yZ o qs)) j=some (.tup [.int (y.1:Nat),ux y.2.1 (y.2.2.map (gZ o qs))]):=by have:=rJ (yZ o qs) (z::zs) j;rw[ey]at this;exact this
    have yf:=jL y.2.1 y.2.2;have yg:=mC y.2.1 (y.2.2.map (gZ o qs));refine⟨_,rfl,?_,y.2.1,y.2.2,some (.val (.int c) true),some (.val (.lst (yY z::zs.map yY)) true),some (.val (.lst (yZ o qs z::zs.map (yZ o qs))) true),some (.val (.int j) true),Sy,by simp;lia,rfl⟩;rw[b8]at z1 z2 z3;rw[b8]at z3;simp_arith[oK,hpf,hnf,z1,w8,Bv,Bw,hsf,hhf,z2,Cu,hh2,wl,z3,cJ,bH,hz,dd,wx,me,a1,yf,a2,yg,zD])
  exact⟨_,h,sh,fs,e6,e7,e8,e9,S,by lia,rfl⟩
 obtain⟨bf,lp,sh,fs,e6,e7,e8,e9,S,hf,rfl⟩:=lp none;obtain⟨zs,z1,z2,z3,z4⟩:=bo S (by lia);have hnf:=jL sh fs;have hsf:=mC sh (fs.map (gZ o qs));have hfi:D.aC (ns.map D.int)=true:=bc _;have hcf:D.aC ((dw ns none (some 90)).map D.int)=true:=bc _;have wl:∀l:List D,(D.lst l).flat=false:=λ_=>rfl;simp only[b8,xf]at hs0 lp;simp_arith[yq,IY,em,hpf,wx,me,A_,tx,rd,A9,hh,hhf,A8,hb,mC,A7,hnow,A6,hn0,hs0,A5,sM,hcf,lp];simp_arith[A4,hhf,hsf,z2,hpf,hnf,z1,w8,Cu,hh2,wl,z3]
end W
open PySem PySem.W PyProof.Rows
set_option maxRecDepth 100000 in
set_option maxHeartbeats 0 in
theorem PySem.Challenge.cw_callwalk_k56_whole_program_runs_holds : PySem.Challenge.rw_callwalk_k56_whole_program_runs.Holds := by
 w_on;refine PySem.W.Ed ?_
 k_fill
 refine' L2.Dx (l:=PySem.Challenge.rw_callwalk_k56_whole_program_runs) (n:=63) (k:=9) (x:="_law_script") (CX:=fun w=>L2.g_ PySem.Challenge.pw_callwalk_k56_whole_program_runs w) (sp:=fun _=>L3.OT W.yq) (kts:=_) rfl (by decide) rfl ⟨rfl,by decide,by decide⟩ (fun w h Y=>PySem.W.kIn_of Y) ?kT ?kN ?kL ?F ?S ?C
 case kT=>
  intro w
  refine' W.N_ ?g_VALUES ?d_VALUES ?g_ROWS ?d_ROWS ?d_ROWS_0 ?d_ROWS_1 ?d_ROWS_2 ?d_ROWS_3 ?d_ROWS_4 ?d_ROWS_5 ?d_ROWS_6 ?d_ROWS_7 ?d_ROWS_8 ?d_ROWS_9
  (case g_VALUES=>k_is)
  (case d_VALUES=>k_is)
  (case g_ROWS=>k_is)
  (case d_ROWS=>k_is)
  (case d_ROWS_0=>k_is)
  (case d_ROWS_1=>k_is)
  (case d_ROWS_2=>k_is)
  (case d_ROWS_3=>k_is)
  (case d_ROWS_4=>k_is)
  (case d_ROWS_5=>k_is)
  (case d_ROWS_6=>k_is)
  (case d_ROWS_7=>k_is)
  (case d_ROWS_8=>k_is)
  (case d_ROWS_9=>k_is)
 case kN=>exact⟨by decide,by decide⟩
 case kL=>exact fun w=>⟨by rfl,by rfl,by rfl⟩
 case F=>
  intro w mg fa h KX G hmg hT
  refine W.Ln hmg ?_
  refine' Exists.imp (fun _ _=>True.intro) (W.N9 KX G (L2.GG hT) ?a_a ?l_a ?c_a ?a_b ?l_b ?c_b ?a_c ?l_c ?c_c ?a_d ?l_d ?c_d ?a_e ?l_e ?c_e ?a_f ?l_f ?c_f ?a_g ?l_g ?c_g ?a_h ?l_h ?c_h ?a_i ?l_i ?c_i ?a_j ?l_j ?c_j ?a_k ?l_k ?c_k ?a_l ?l_l ?c_l ?a_m ?l_m ?c_m ?a_n ?l_n ?c_n ?a_o ?l_o ?c_o ?a_p ?l_p ?c_p ?a_q ?l_q ?c_q ?a_r ?l_r ?c_r ?a_s ?l_s ?c_s ?a_t ?l_t ?c_t ?a_u ?l_u ?c_u ?a_v ?l_v ?c_v ?a_w ?l_w ?c_w ?a_x ?l_x ?c_x ?a_y ?l_y ?c_y ?a_z ?l_z ?c_z ?a_A ?l_A ?c_A ?a_B ?l_B ?c_B ?a_C ?l_C ?c_C ?a_D ?l_D ?c_D ?a_E ?l_E ?c_E ?a_F ?l_F ?c_F ?a_G ?l_G ?c_G ?a_H ?l_H ?c_H ?a_I ?l_I ?c_I ?a_J ?l_J ?c_J ?a_K ?l_K ?c_K ?a_L ?l_L ?c_L ?a_M ?l_M ?c_M ?a_N ?l_N ?c_N ?a_O ?l_O ?c_O ?z_all ?z_bool ?z_dict ?z_enumerate ?z_int ?z_isinstance ?z_len ?z_list ?z_max ?z_range ?z_set ?z_str ?z_sum ?z_tuple ?z_zip ?b_Twice ?e_Twice ?b_NoName ?e_NoName ?b_NoText ?e_NoText ?b_NoValue ?e_NoValue ?b_NoRow ?e_NoRow ?g_PLACES ?d_PLACES ?m_PLACES_0 ?m_PLACES_1 ?g_VALUES ?q_VALUES ?g_ROWS ?q_ROWS ?n_PLACES)
  (case a_a=>k_is)
  (case l_a=>k_is)
  (case c_a=>k_is)
  (case a_b=>k_is)
  (case l_b=>k_is)
  (case c_b=>k_is)
  (case a_c=>k_is)
  (case l_c=>k_is)
  (case c_c=>k_is)
  (case a_d=>k_is)
  (case l_d=>k_is)
  (case c_d=>k_is)
  (case a_e=>k_is)
  (case l_e=>k_is)
  (case c_e=>k_is)
  (case a_f=>k_is)
  (case l_f=>k_is)
  (case c_f=>k_is)
  (case a_g=>k_is)
  (case l_g=>k_is)
  (case c_g=>k_is)
  (case a_h=>k_is)
  (case l_h=>k_is)
  (case c_h=>k_is)
  (case a_i=>k_is)
  (case l_i=>k_is)
  (case c_i=>k_is)
  (case a_j=>k_is)
  (case l_j=>k_is)
  (case c_j=>k_is)
  (case a_k=>k_is)
  (case l_k=>k_is)
  (case c_k=>k_is)
  (case a_l=>k_is)
  (case l_l=>k_is)
  (case c_l=>k_is)
  (case a_m=>k_is)
  (case l_m=>k_is)
  (case c_m=>k_is)
  (case a_n=>k_is)
  (case l_n=>k_is)
  (case c_n=>k_is)
  (case a_o=>k_is)
  (case l_o=>k_is)
  (case c_o=>k_is)
  (case a_p=>k_is)
  (case l_p=>k_is)
  (case c_p=>k_is)
  (case a_q=>k_is)
  (case l_q=>k_is)
  (case c_q=>k_is)
  (case a_r=>k_is)
  (case l_r=>k_is)
  (case c_r=>k_is)
  (case a_s=>k_is)
  (case l_s=>k_is)
  (case c_s=>k_is)
  (case a_t=>k_is)
  (case l_t=>k_is)
  (case c_t=>k_is)
  (case a_u=>k_is)
  (case l_u=>k_is)
  (case c_u=>k_is)
  (case a_v=>k_is)
  (case l_v=>k_is)
  (case c_v=>k_is)
  (case a_w=>k_is)
  (case l_w=>k_is)
  (case c_w=>k_is)
  (case a_x=>k_is)
  (case l_x=>k_is)
  (case c_x=>k_is)
  (case a_y=>k_is)
  (case l_y=>k_is)
  (case c_y=>k_is)
  (case a_z=>k_is)
  (case l_z=>k_is)
  (case c_z=>k_is)
  (case a_A=>k_is)
  (case l_A=>k_is)
  (case c_A=>k_is)
  (case a_B=>k_is)
  (case l_B=>k_is)
  (case c_B=>k_is)
  (case a_C=>k_is)
  (case l_C=>k_is)
  (case c_C=>k_is)
  (case a_D=>k_is)
  (case l_D=>k_is)
  (case c_D=>k_is)
  (case a_E=>k_is)
  (case l_E=>k_is)
  (case c_E=>k_is)
  (case a_F=>k_is)
  (case l_F=>k_is)
  (case c_F=>k_is)
  (case a_G=>k_is)
  (case l_G=>k_is)
  (case c_G=>k_is)
  (case a_H=>k_is)
  (case l_H=>k_is)
  (case c_H=>k_is)
  (case a_I=>k_is)
  (case l_I=>k_is)
  (case c_I=>k_is)
  (case a_J=>k_is)
  (case l_J=>k_is)
  (case c_J=>k_is)
  (case a_K=>k_is)
  (case l_K=>k_is)
  (case c_K=>k_is)
  (case a_L=>k_is)
  (case l_L=>k_is)
  (case c_L=>k_is)
  (case a_M=>k_is)
  (case l_M=>k_is)
  (case c_M=>k_is)
  (case a_N=>k_is)
  (case l_N=>k_is)
  (case c_N=>k_is)
  (case a_O=>k_is)
  (case l_O=>k_is)
  (case c_O=>k_is)
  (case z_all=>k_is)
  (case z_bool=>k_is)
  (case z_dict=>k_is)
  (case z_enumerate=>k_is)
  (case z_int=>k_is)
  (case z_isinstance=>k_is)
  (case z_len=>k_is)
  (case z_list=>k_is)
  (case z_max=>k_is)
  (case z_range=>k_is)
  (case z_set=>k_is)
  (case z_str=>k_is)
  (case z_sum=>k_is)
  (case z_tuple=>k_is)
  (case z_zip=>k_is)
  (case b_Twice=>k_is)
  (case e_Twice=>k_exc)
  (case b_NoName=>k_is)
  (case e_NoName=>k_exc)
  (case b_NoText=>k_is)
  (case e_NoText=>k_exc)
  (case b_NoValue=>k_is)
  (case e_NoValue=>k_exc)
  (case b_NoRow=>k_is)
  (case e_NoRow=>k_exc)
  (case g_PLACES=>k_is)
  (case d_PLACES=>k_is)
  (case m_PLACES_0=>rfl)
  (case m_PLACES_1=>rfl)
  (case g_VALUES=>k_is)
  (case q_VALUES=>exact⟨_,_,rfl,L2.cS (List.mem_of_getElem? (i:=0) rfl) hT,⟨_,_,rfl,rfl,⟨_,_,rfl,rfl,⟨_,_,rfl,rfl,rfl⟩⟩⟩⟩)
  (case g_ROWS=>k_is)
  (case q_ROWS=>exact⟨_,_,rfl,L2.cS (List.mem_of_getElem? (i:=1) rfl) hT,⟨_,_,rfl,⟨_,_,rfl,L2.cS (List.mem_of_getElem? (i:=2) rfl) hT,⟨_,_,rfl,rfl,rfl⟩⟩,⟨_,_,rfl,⟨_,_,rfl,L2.cS (List.mem_of_getElem? (i:=3) rfl) hT,⟨_,_,rfl,rfl,⟨_,_,rfl,rfl,⟨_,_,rfl,rfl,rfl⟩⟩⟩⟩,⟨_,_,rfl,⟨_,_,rfl,L2.cS (List.mem_of_getElem? (i:=4) rfl) hT,⟨_,_,rfl,rfl,⟨_,_,rfl,rfl,rfl⟩⟩⟩,⟨_,_,rfl,⟨_,_,rfl,L2.cS (List.mem_of_getElem? (i:=5) rfl) hT,⟨_,_,rfl,rfl,⟨_,_,rfl,rfl,rfl⟩⟩⟩,⟨_,_,rfl,⟨_,_,rfl,L2.cS (List.mem_of_getElem? (i:=6) rfl) hT,⟨_,_,rfl,rfl,⟨_,_,rfl,rfl,⟨_,_,rfl,rfl,⟨_,_,rfl,rfl,rfl⟩⟩⟩⟩⟩,⟨_,_,rfl,⟨_,_,rfl,L2.cS (List.mem_of_getElem? (i:=7) rfl) hT,⟨_,_,rfl,rfl,⟨_,_,rfl,rfl,rfl⟩⟩⟩,⟨_,_,rfl,⟨_,_,rfl,L2.cS (List.mem_of_getElem? (i:=8) rfl) hT,⟨_,_,rfl,rfl,⟨_,_,rfl,rfl,rfl⟩⟩⟩,⟨_,_,rfl,⟨_,_,rfl,L2.cS (List.mem_of_getElem? (i:=9) rfl) hT,⟨_,_,rfl,rfl,⟨_,_,rfl,rfl,rfl⟩⟩⟩,⟨_,_,rfl,⟨_,_,rfl,L2.cS (List.mem_of_getElem? (i:=10) rfl) hT,⟨_,_,rfl,rfl,rfl⟩⟩,⟨_,_,rfl,⟨_,_,rfl,L2.cS (List.mem_of_getElem? (i:=11) rfl) hT,⟨_,_,rfl,rfl,rfl⟩⟩,rfl⟩⟩⟩⟩⟩⟩⟩⟩⟩⟩⟩)
  (case n_PLACES=>rfl)
 case S=>exact fun w H a ns hl hS=>L3.Ke (fun ns hn=>⟨_,_,W.LY ns hn⟩) H a ns hl hS
 case C=>exact fun _ _ _ _ _ z=>L3.Kf z
