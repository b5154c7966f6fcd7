import PyProof.Rows.All
import Wide.All
import OpenK.AllK
import Wide.FinOn
import Lean
import PyProof.EqAt
import PyProof.EqKinds
import PyProof.TupleCall
import PyProof.ZipIter
import PyProof.AttrMissHeap
import PyProof.Walks
import PyProof.WalksS
import PySem.SetTable
import KE.KSortTup
import KE.KRevIter
import PyProof.Rows.SetFrom
import PyProof.CollectWalk
import PyProof.DictWalks
import PyProof.DictItems
import KE.KDictList
import PyProof.ListRange
import PyProof.EqAt
import PyProof.WalkInts
import PyProof.StrBlockG
import PyProof.SumWalk
import PyProof.Rows.TupIter
import PyProof.StrLawsIdx
import PyProof.CallStr
import PyProof.StrCalls2
import PyProof.StrWalks
import KE.KIntText
import PyProof.SetRoads
import PyProof.StrLawsTight
import PyProof.Rows.FStr
import PyProof.ExcArgsOwn
import PyProof.Draws
import PyProof.EnumMake
import PyProof.ConsumeWalk
import PySem.Challenge.RW_callwalk_k05_refusals_stand_apart
set_option autoImplicit true
set_option Elab.async false
set_option linter.all false
set_option genSizeOf false
set_option genSizeOfSpec false
set_option compiler.extract_closed false
set_option maxRecDepth 100000
set_option maxHeartbeats 4000000
set_option bootstrap.genMatcherCode false
noncomputable section
abbrev ae:=@PySem.wpAny_bind
abbrev ba:=@PySem.Heap.get?_push_of_some
abbrev bb:=@List.size_toArray
abbrev bo:=@PySem.Heap.lt_size
abbrev bp:=@PySem.wpAny_pure
abbrev bD:=@Nat.le_refl
abbrev bK:=@Nat.lt_of_lt_of_le
abbrev bX:=@List.mem_append_right
abbrev b0:=@List.getElem?_eq_some_iff
abbrev b4:=@List.getElem?_set_self
abbrev cG:=@List.getElem?_set_ne
abbrev cI:=@PySem.Heap.get?_push_size
abbrev cZ:=@PySem.W.mg_of
abbrev da:=@if_pos
abbrev db:=@Bool.and_eq_true
abbrev d8:=@Nat.ne_of_lt
abbrev eB:=@List.length_map
abbrev eF:=@PyProof.Rows.slot_tuple_getitem
abbrev fO:=@PySem.wpAny_mono
abbrev fQ:=@List.getElem?_append_right
abbrev fR:=@if_neg
abbrev gE:=@List.mem_iff_getElem?
abbrev gH:=@PySem.wpAny_newObj_type
abbrev gJ:=@decide_eq_true
abbrev jP:=@Option.some.inj
abbrev kF:=@Nat.add_sub_cancel_left
abbrev kM:=@PySem.Heap.get?_update_other
abbrev nR:=@PySem.mem_of_lookup
abbrev nW:=@Nat.le_trans
abbrev nX:=@PySem.wpAny_Call_Name_kw
abbrev xf:=@List.getElem?_map
abbrev xg:=@Ne.symm
abbrev xh:=@List.mem_cons
abbrev xi:=@PySem.wpAny_field
abbrev xj:=@List.getElem?_append_left
abbrev xk:=@List.mem_cons_of_mem
abbrev xl:=@decide_eq_false
abbrev xm:=@List.append_nil
abbrev xn:=@Nat.lt_irrefl
abbrev xo:=@PySem.wpAny_holding
abbrev xp:=@List.lookup_cons
abbrev xq:=@PySem.W.mg_none_of
abbrev xr:=@PyProof.Rows.callWith_type1
abbrev xt:=@PySem.sizeLine_eq
abbrev xu:=@List.length_set
abbrev xw:=@Array.getElem?_eq_some_iff
abbrev xy:=@List.mem_append_left
abbrev xA:=@List.mem_of_getElem?
abbrev xB:=@List.length_take
abbrev xC:=@List.filterMap_cons
abbrev xD:=@List.mem_cons_self
abbrev xE:=@PySem.wpAny_execs_nil
abbrev xF:=@PySem.wpAny_passesOwn
abbrev xG:=@List.length_append
abbrev xH:=@PySem.wpAny_callSpecial?_slot
abbrev xI:=@List.map_cons
abbrev xJ:=@List.getElem?_replicate
abbrev xK:=@PySem.wpAny_standAt
abbrev xL:=@PySem.Obj.data_mapFields
abbrev xM:=@PySem.W.cellsFrom_some
abbrev xN:=@PySem.wpAny_truthy_bool
abbrev xO:=@decide_eq_true_eq
abbrev xP:=@Array.getElem?_setIfInBounds_ne
abbrev xQ:=@List.length_replicate
abbrev xR:=@List.set_getElem_self
abbrev xS:=@PySem.Heap.get?_update_self
abbrev xT:=@PySem.Obj.isFreed_of_fields
abbrev xU:=@List.eq_nil_of_length_eq_zero
abbrev xV:=@PySem.Calls.evalArgs_plain
abbrev xW:=@List.mem_append
abbrev xX:=@List.nodup_cons
abbrev xY:=@List.of_mem_zip
abbrev xZ:=@Bool.or_eq_true
abbrev x0:=@PySem.W.of_hideAll
abbrev x5:=@List.mem_filterMap
abbrev x6:=@PySem.codeAny_mono
abbrev x8:=@PySem.W.callWith_K
abbrev x9:=@if_true
abbrev x_:=@PySem.wpAny_setField
abbrev ya:=@Nat.zero_le
abbrev yb:=@List.all_eq_true
abbrev yc:=@if_false
abbrev yd:=@beq_iff_eq
abbrev ye:=PySem.Shared
abbrev yf:=PySem.W.Frag
abbrev yg:=PySem.Program
abbrev yh:=PySem.Value
abbrev yi:=PySem.Around
theorem yp (h : True := by rfl) : True := h
theorem yj (h : True := by decide) : True := h
theorem yn (h : ∀ u : Unit, u = u := by intro _; rfl) : True := True.intro
theorem yk (h : True := by first|exact .inl rfl|exact .inr rfl|assumption) : True := h
theorem ym (h : True := by first|exact Or.inl rfl|exact Or.inr (Or.inl rfl)|exact Or.inr (Or.inr rfl)) : True := h
theorem yo (h : True := by intro _ _; rfl) : True := h

namespace L2
open PySem PySem.Spec PyProof.Rows
noncomputable abbrev gK:=Sum Int Str
noncomputable def pT:gK->yh->Bool
 | .inl k,v=>Value.isInt k v
 | .inr x,v=>Value.isStrOf x v
noncomputable def vj (w:World):gK->Int
 | .inl k=>hashInt k
 | .inr x=>hashStr w x
theorem aS:∀{k:gK}{v:yh},pT k v=true->(∃ i t,k=Sum.inl i/\v=Value.int i t)\/(∃ x t,k=Sum.inr x/\v=Value.str x t)
 | .inl i,v,h=>by obtain⟨t,e⟩:=Value.isInt_shape (k:=i) (v:=v) h;exact .inl ⟨i,t,rfl,e⟩
 | .inr x,v,h=>by obtain⟨t,e⟩:=Value.isStrOf_shape (x:=x) (v:=v) h;exact .inr ⟨x,t,rfl,e⟩
theorem qz (a b:Int):decide ((Sum.inl a:gK)=Sum.inl b)=(a==b):=by grind
theorem qA (a b:Str):decide ((Sum.inr a:gK)=Sum.inr b)=decide (a=b):=by grind
theorem qB (a:Int)(b:Str):decide ((Sum.inl a:gK)=Sum.inr b)=false:=xl (fun q=>nomatch q)
theorem qC (a:Str)(b:Int):decide ((Sum.inr a:gK)=Sum.inl b)=false:=xl (fun q=>nomatch q)
def eO (prog:yg)(w:World):PySem.KeyKind prog w gK where
 is:=pT
 hash:=vj w
 inj:=fun v a b ha hb=>by
  rcases aS ha with⟨i,t,rfl,rfl⟩|⟨x,t,rfl,rfl⟩
  .rcases aS hb with⟨j,u,rfl,e⟩|⟨y,u,rfl,e⟩
   .injection e with e1 _;rw[e1]
   .exact nomatch e
  .rcases aS hb with⟨j,u,rfl,e⟩|⟨y,u,rfl,e⟩
   .exact nomatch e
   .injection e with e1 _;rw[e1]
 byValue:=fun k v h=>by rcases aS h with⟨i,t,rfl,rfl⟩|⟨x,t,rfl,rfl⟩<;>rfl
 pyHash:=fun hv h=>by
  rcases aS hv with⟨i,t,rfl,rfl⟩|⟨x,t,rfl,rfl⟩
  .exact wpAny_pyHash_int h
  .exact wpAny_pyHash_str h
 eqBool:=fun hu hv h=>by
  rcases aS hu with⟨i,t,rfl,rfl⟩|⟨x,t,rfl,rfl⟩
  .rcases aS hv with⟨j,u,rfl,rfl⟩|⟨y,u,rfl,rfl⟩
   .rw[qz]at h;exact wpAny_eqBool_int h
   .rw[qB]at h;exact SeqAt.EqAt.int_str i t y u _ _ _ _ h
  .rcases aS hv with⟨j,u,rfl,rfl⟩|⟨y,u,rfl,rfl⟩
   .rw[qC]at h;exact SeqAt.EqAt.str_int x t j u _ _ _ _ h
   .rw[qA]at h;exact wpAny_eqBool_str h
 «strs»:=fun k x t v h=>by
  rcases aS h with⟨i,u,rfl,e⟩|⟨y,u,rfl,e⟩
  .exact nomatch e
  .injection e with e1 _;subst e1;cases v<;>rfl
inductive V where
 |cH|bl (b:Bool)|int (i:Int)|str (x:Str)|u5 (b:Array UInt8)|wg (b:UInt64)|ref (a:Addr)|ty (n:String)
 deriving DecidableEq
noncomputable def RelV:V->yh->Prop
 | .cH,u=>u=Value.none
 | .bl b,u=>u=Value.bool b
 | .int i,u=>∃ t,u=Value.int i t
 | .str x,u=>∃ t,u=Value.str x t
 | .u5 b,u=>∃ t,u=Value.bytes b t
 | .wg b,u=>∃ t,u=Value.float b t
 | .ref a,u=>u=Value.ref a
 | .ty n,u=>u=Value.type n
abbrev Vals:List V->List yh->Prop:=Paired RelV
theorem Vals.length (r:Vals xs us):xs.length=us.length:=Paired.length r
theorem Vals.get:∀{xs:List V}{us:List yh}{i:Nat}{x:V},Vals xs us->xs[i]?=some x->∃ u,us[i]?=some u/\RelV x u
 |_,_,_,_,.nil,e=>by simp at e
 |_,_,0,_,.cons r _,e=>by simp at e;subst e;exact⟨_,rfl,r⟩
 |_,_,i+1,x,.cons _ t,e=>by obtain⟨u,h1,h2⟩:=Vals.get (i:=i) (x:=x) t (by simpa using e);exact⟨u,by simpa using h1,h2⟩
theorem Vals.append:∀{xs ys:List V}{us ws:List yh},Vals xs us->Vals ys ws->Vals (xs++ys) (us++ws)
 |_,_,_,_,.nil,s=>s
 |_,_,_,_,.cons r t,s=>.cons r (Vals.append t s)
theorem Vals.take:∀{xs:List V}{us:List yh}(n:Nat),Vals xs us->Vals (xs.take n) (us.take n)
 |_,_,0,_=>.nil
 |_,_,_+1,.nil=>.nil
 |_,_,n+1,.cons r t=>.cons r (Vals.take n t)
theorem Vals.drop:∀{xs:List V}{us:List yh}(n:Nat),Vals xs us->Vals (xs.drop n) (us.drop n)
 |_,_,0,r=>r
 |_,_,_+1,.nil=>.nil
 |_,_,n+1,.cons _ t=>Vals.drop n t
def tm:Option V->Option yh->Prop
 |some v,some u=>RelV v u
 |none,none=>True
 |_,_=>False
def KV {κ:Type}:List (κ×V)->List (κ×yh)->Prop:=Paired fun(p:κ×V)(q:κ×yh)=>p.1=q.1/\RelV p.2 q.2
noncomputable def kV:gK->V
 | .inl i=>.int i
 | .inr x=>.str x
inductive HO where
  
 |lst (xs:List V)
  
 |tup (xs:List V)
  
 |dK (kvs:List (gK×V))|dT (kvs:List (List gK×V))
  
 |set (S:Int->Bool) (n:Nat)
  
 |ins (C dx:Addr) (fs:List (Str×V))
  
 |own (x:Addr)
  
 |xd (fs:List (Str×V))
  
 |met (f x:Addr)
  
 |vi (lo hi:Int)
  
 |bF (o:Obj) (u:HO)
  
 |qu (ps:Array yh)
  
 |ext (φ:Heap->Prop)
noncomputable abbrev Hp:=Addr->Option HO
noncomputable def aX (H:Hp)(a:Addr)(o:HO):Hp:=fun b=>if b=a then some o else H b
theorem aI:aX H a o a=some o:=by unfold aX;rw[da rfl]
theorem aA (h:b≠a):aX H a o b=H b:=by unfold aX;rw[fR h]
theorem aH {H:Hp}(h:H a=some o)(h':H b=none):a≠b:=by intro e;subst e;rw[h]at h';cases h'
section
variable (P:yg)(w:World)
def ObjOk (H:Hp)(h:Heap)(a:Addr):HO->Prop
 | .lst xs=>xs.length<=sizeLine/\∃(its:List yh)(n:Nat),Vals xs its/\h.get? a=some { cls:=.type "list",data:=.seq its.toArray n }
 | .tup xs=>xs.length<=sizeLine/\∃ its:List yh,Vals xs its/\IsTup h a its.toArray
 | .dK kvs=>kvs.length<=sizeLine/\(a==sysModules)=false/\∃ vs,KV kvs vs/\h.DictOf (eO P w) a vs
 | .dT kvs=>kvs.length<=sizeLine/\(a==sysModules)=false/\∃ xs:List (List gK×Addr×yh),
  Paired (fun(p:List gK×V)(q:List gK×Addr×yh)=>p.1=q.1/\H q.2.1=some (.tup (p.1.map kV))/\RelV p.2 q.2.2) kvs xs/\
  ∃ o es ep,h.get? a=some o/\o.ExactDict/\o.data=.dict es ep/\es.toList=xs.map (entryOfKey (tupleKind (eO P w)))/\(xs.map (·.1)).Nodup
 | .set S n=>h.SetOf (intKind P w) a S n
 | .ins C dx fs=>H dx=some (.own a)/\fs.length<=1000/\dx≠a/\h.get? a=some (PySem.W.instObj C dx)/\
  ∃ mA,h.Ns1 dx mA/\(∀ f,tm (fs.lookup f) (mA f))/\PySem.Within mA (fs.map (·.1))
 | .own _=>∃ o,h.get? a=some o
 | .xd fs=>∃ mA,h.Ns1 a mA/\∀ f,tm (fs.lookup f) (mA f)
 | .vi lo hi=>∃ t u v,h.get? a=some { cls:=.type "range",data:=.fields #[.int lo t,.int hi u,.int 1 v] }
 | .bF o u=>h.get? a=some o/\ObjOk H h a u
 | .qu ps=>h.get? a=some { cls:=.none,data:=.fields ps }
 | .met f x=>h.get? a=some (PySem.W.methodObj (.ref f) (.ref x))
 | .ext φ=>φ h/\(∃ o,h.get? a=some o)/\∀ h1 h2:Heap,φ h1->(∀ o,h1.get? a=some o->h2.get? a=some o)->φ h2
def HOk (H:Hp)(h:Heap):Prop:=∀ a o,H a=some o->ObjOk P w H h a o
end
section
theorem ObjOk.lt (x:ObjOk P w H h a o):a<h.objs.size:=by
 cases o with
 |lst xs=>obtain⟨_,_,_,_,e⟩:=x;exact bo e
 |tup xs=>obtain⟨_,_,_,p⟩:=x;exact p.lt
 |dK kvs=>obtain⟨_,_,_,_,o,_,_,e,_⟩:=x;exact bo e
 |dT kvs=>obtain⟨_,_,_,_,o,_,_,e,_⟩:=x;exact bo e
 |set S n=>obtain⟨o,_,_,_,e,_⟩:=x;exact bo e
 |ins C dx fs=>obtain⟨_,_,_,e,_⟩:=x;exact bo e
 |own y=>obtain⟨_,e⟩:=x;exact bo e
 |xd fs=>obtain⟨_,⟨_,_,_,e,_⟩,_⟩:=x;exact bo e
 |vi lo hi=>obtain⟨_,_,_,e⟩:=x;exact bo e
 |bF ob u=>obtain⟨e,_⟩:=x;exact bo e
 |qu ps=>exact bo (show h.get? a=some _ from x)
 |met f y=>exact bo (show h.get? a=some _ from x)
 |ext φ=>obtain⟨_,⟨_,e⟩,_⟩:=x;exact bo e
theorem Paired.wj {α β:Type}{F G:α->β->Prop}{l₁:List α}{l₂:List β}(h:Paired F l₁ l₂)(f:∀ a b,F a b->G a b):Paired G l₁ l₂:=by
 induction h with
 |nil=>exact .nil
 |cons r _ ih=>exact .cons (f _ _ r) ih
theorem ObjOk.stay (x:ObjOk P w H h a o)(k:∀ b u,(b=a\/H b=some (.own a))->h.get? b=some u->h'.get? b=some u)
 (ho:∀ b,H b=some (.own a)->H' b=some (.own a)) (ht:∀ b xs,H b=some (.tup xs)->H' b=some (.tup xs)):ObjOk P w H' h' a o:=by
 induction o with
 |lst xs=>obtain⟨z,its,n,r,e⟩:=x;exact⟨z,its,n,r,k _ _ (.inl rfl) e⟩
 |tup xs=>obtain⟨z,its,r,ob,e,c⟩:=x;exact⟨z,its,r,ob,k _ _ (.inl rfl) e,c⟩
 |dK kvs=>obtain⟨z,y,vs,r,ob,es,ep,e,c⟩:=x;exact⟨z,y,vs,r,ob,es,ep,k _ _ (.inl rfl) e,c⟩
 |dT kvs=>obtain⟨z,y,xs,r,ob,es,ep,e,c⟩:=x;exact⟨z,y,xs,Paired.wj r fun p q z=>⟨z.1,ht _ _ z.2.1,z.2.2⟩,ob,es,ep,k _ _ (.inl rfl) e,c⟩
 |set S n=>obtain⟨ob,es,ep,t,e,c⟩:=x;exact⟨ob,es,ep,t,k _ _ (.inl rfl) e,c⟩
 |ins C dx fs=>obtain⟨d,z,ne,e,mA,⟨od,es,ep,e2,c⟩,r⟩:=x;exact⟨ho _ d,z,ne,k _ _ (.inl rfl) e,mA,⟨od,es,ep,k _ _ (.inr d) e2,c⟩,r⟩
 |own y=>obtain⟨ob,e⟩:=x;exact⟨ob,k _ _ (.inl rfl) e⟩
 |xd fs=>obtain⟨mA,⟨od,es,ep,e,c⟩,r⟩:=x;exact⟨mA,⟨od,es,ep,k _ _ (.inl rfl) e,c⟩,r⟩
 |vi lo hi=>obtain⟨t,u,v,e⟩:=x;exact⟨t,u,v,k _ _ (.inl rfl) e⟩
 |bF ob u ih=>obtain⟨e,q⟩:=x;exact⟨k _ _ (.inl rfl) e,ih q⟩
 |qu ps=>have e:h.get? a=some { cls:=.none,data:=.fields ps }:=x;show h'.get? a=some { cls:=.none,data:=.fields ps };exact k a _ (.inl rfl) e
 |met f y=>have e:h.get? a=some (PySem.W.methodObj (.ref f) (.ref y)):=x;show h'.get? a=some (PySem.W.methodObj (.ref f) (.ref y));exact k a _ (.inl rfl) e
 |ext φ=>obtain⟨p,⟨o,e⟩,st⟩:=x;exact⟨st _ _ p fun o q=>k _ _ (.inl rfl) q,⟨o,k _ _ (.inl rfl) e⟩,st⟩
theorem HOk.lt (x:HOk P w H h)(e:H a=some o):a<h.objs.size:=(x a o e).lt
theorem HOk.fresh (x:HOk P w H h)(e:h.objs.size<=a):H a=none:=by
 cases q:H a with
 |none=>rfl
 |some u=>exact absurd (bK (x.lt q) e) (xn _)
theorem HOk.kept (x:HOk P w H h)(k:∀ b u,h.get? b=some u->h'.get? b=some u):HOk P w H h':=fun a o e=>(x a o e).stay (fun b u _ q=>k b u q) (fun _ q=>q) fun _ _ q=>q
theorem HOk.laid (x:HOk P w H h)(k:∀ b u,h.get? b=some u->h'.get? b=some u)(hp:h.objs.size<=a)(new:ObjOk P w (aX H a o) h' a o):HOk P w (aX H a o) h':=fun b u e=>by
 have hn:=x.fresh hp;by_cases hb:b=a
 .subst hb;rw[aI]at e;cases e;exact new
 .rw[aA hb]at e;exact(x b u e).stay (fun c v _ q=>k c v q) (fun c q=>by rw[aA (aH q hn)];exact q) fun c xs q=>by rw[aA (aH q hn)];exact q
end
def Rd (H:Hp)(a:Addr)(u:HO):Prop:=H a=some u\/∃ o,H a=some (.bF o u)
theorem Rd.ok (r:Rd H a u)(x:HOk P w H h):ObjOk P w H h a u:=by
 rcases r with r|⟨o,r⟩
 .exact x a u r
 .obtain⟨_,q⟩:=x a _ r;exact q
noncomputable def u9:Option HO->Prop
 |some (.lst _)=>True
 |some (.dK _)=>True
 |some (.dT _)=>True
 |some (.set _ _)=>True
 |some (.ins _ _ _)=>True
 |some (.ext _)=>True
 |_=>False
section
theorem HOk.write (ok:HOk P w H h)(mu:u9 (H x))(he:e=x\/H e=some (.own x))(k:∀ b u,b≠e->h.get? b=some u->h'.get? b=some u)(heo:∃ u,h'.get? e=some u)
 (new:ObjOk P w (aX H x o') h' x o'):HOk P w (aX H x o') h':=fun b u q=>by
 have nown:∀ c y,H c=some (.own y)->c≠x:=fun c y r z=>by subst z;rw[r]at mu;exact mu
 have ntup:∀ c xs,H c=some (.tup xs)->c≠x:=fun c xs r z=>by subst z;rw[r]at mu;exact mu
 by_cases hb:b=x
 .subst hb;rw[aI]at q;cases q;exact new
 .rw[aA hb]at q;by_cases hbe:b=e
  .have q':H b=some (.own x):=by
    grind
   rw[q]at q';cases q';obtain⟨v,hv⟩:=heo;exact⟨v,by rw[hbe];exact hv⟩
  .refine(ok b u q).stay (fun c v hc r=>k c v ?_ r) (fun c r=>by rw[aA (nown c b r)];exact r) fun c xs r=>by rw[aA (ntup c xs r)];exact r
   grind
end
def Qt (H:Hp)(b:Addr):Prop:=H b=none\/∃ xs,H b=some (.tup xs)
structure Un (fs ex:List Addr) (H H':Hp) (h h':Heap):Prop where
 keep:∀ b o,h.get? b=some o->Qt H b->b∉fs->b∉ex->h'.get? b=some o
 slot:∀ b o,h.get? b=some o->H b=none->b∈fs->b∉ex->∃ sl,h'.get? b=some { o with slots:=sl }
 free:∀ b o,h.get? b=some o->H b=none->b∉ex->H' b=none
 there:∀ b o,h.get? b=some o->b∉ex->∃ o',h'.get? b=some o'
 cE:∀ b xs,H b=some (.tup xs)->H' b=some (.tup xs)
 c7:∀ b o u,H b=some (.bF o u)->H' b=some (.bF o u)
 dH:∀ b ps,H b=some (.qu ps)->∃ more,H' b=some (.qu (ps++more))
section
theorem Un.any (u:Un fs ex H H1 h h1)(q:h.get? b=some ob)(n:H b=none)(hx:b∉ex):∃ sl,h1.get? b=some { ob with slots:=sl }:=by
 by_cases hb:b∈fs
 .exact u.slot b ob q n hb hx
 .exact⟨ob.slots,u.keep b ob q (.inl n) hb hx⟩
theorem Un.kept (k:∀ b u,h.get? b=some u->h'.get? b=some u):Un fs ex H H h h':=⟨fun b ob q _ _ _=>k b ob q,fun b ob q _ _ _=>⟨ob.slots,k b ob q⟩,fun _ _ _ n _=>n,fun b ob q _=>⟨ob,k b ob q⟩,fun _ _ q=>q,fun _ _ _ q=>q,fun _ ps q=>⟨#[],by rw[q];simp⟩⟩
theorem Un.refl:Un fs ex H H h h:=Un.kept fun _ _ q=>q
theorem Un.laid (k:∀ b u,h.get? b=some u->h'.get? b=some u)(hp:h.objs.size<=a)(hn:H a=none):Un fs ex H (aX H a o) h h' where
 keep:=fun b u q _ _ _=>k b u q
 slot:=fun b u q _ _ _=>⟨u.slots,k b u q⟩
 free:=fun b u q n _=>by rw[aA (d8 (bK (bo q) hp))];exact n
 there:=fun b u q _=>⟨u,k b u q⟩
 cE:=fun b xs q=>by rw[aA (aH q hn)];exact q
 c7:=fun b u xs q=>by rw[aA (aH q hn)];exact q
 dH:=fun b ps q=>⟨#[],by rw[aA (aH q hn),q];simp⟩
theorem Un.write (mu:u9 (H x))(he:e=x\/H e=some (.own x))(k:∀ b u,b≠e->h.get? b=some u->h'.get? b=some u)(heo:∃ u,h'.get? e=some u):Un fs ex H (aX H x o) h h':=by
 have hx:∀ b,H b=none->b≠x:=fun b n z=>by subst z;rw[n]at mu;exact mu
 have hb:∀ b,H b=none->b≠e:=fun b n z=>by grind
 have hm:∀ b u,H b=some u->¬ u9 (some u)->b≠x:=fun b u q nm z=>by subst z;rw[q]at mu;exact nm mu
 refine⟨fun b u q n _ _=>k b u (n.elim (hb b) fun⟨xs,ee⟩ z=>by rcases he with r|r;(·rw[<- r,<- z,ee]at mu;exact mu);(·rw[<- z,ee]at r;cases r)) q,fun b u q n _ _=>⟨u.slots,k b u (hb b n) q⟩,fun b u q n _=>by rw[aA (hx b n)];exact n,fun b u q _=>?_,
  fun b xs q=>by rw[aA (hm b _ q fun z=>z)];exact q,fun b u xs q=>by rw[aA (hm b _ q fun z=>z)];exact q,fun b ps q=>⟨#[],by rw[aA (hm b _ q fun z=>z),q];simp⟩⟩
 by_cases hbe:b=e
 .subst hbe;exact heo
 .exact⟨u,k b u hbe q⟩
end
noncomputable def hW (h:Heap)(H:Hp):List Addr:=(List.range h.objs.size).filter fun a=>(H a).isSome
def hZ (h:Heap)(H:Hp):Heap:=PySem.W.hideAll h (hW h H)
theorem kN (h:Heap)(H:Hp):(hZ h H).objs.size=h.objs.size:=PySem.W.hideAll_size _ _
theorem h8 (e:h.get? b=some o)(n:H b=none):(hZ h H).get? b=some o:=PySem.W.hideAll_get _ e fun hm=>by have q:(H b).isSome=true:=(List.mem_filter.mp hm).2;rw[n]at q;simp at q
theorem n8 (e:(hZ h H).get? b=some o):h.get? b=some o/\H b=none:=by
 have e':h.get? b=some o:=x0 (hW h H) e;refine⟨e',?_⟩;cases q:H b with
 |none=>rfl
 |some x=>have hm:b∈hW h H:=List.mem_filter.mpr ⟨List.mem_range.mpr (bo e'),by simp[q]⟩;have z:(hZ h H).get? b=none:=PySem.W.hideAll_none (hW h H) hm;rw[z]at e;cases e
noncomputable def n9 (g h:Heap)(L:Addr):List (Addr×Obj):=(List.range h.objs.size).filterMap fun a=>if a=L\/(g.get? a).isSome=true then none else (h.get? a).map fun o=>(a,o)
def aP (g h:Heap)(L d:Addr):List (Addr×Obj):=(n9 g h L).filter fun p=>decide (p.1≠d)
noncomputable def wH:yh->V
 | .str x _=>.str x
 | .ref a=>.ref a
 |_=>.cH
def qD (o:Obj):Option (Addr×List V):=match o.cls with
 | .type n=>if n=="kt" then (match o.data with
  | .seq its _=>(match its.toList with
   | .ref a::r=>some (a,r.map wH)
   |_=>none)
  |_=>none) else none
 |_=>none
def vk (K:yf)(H:Hp):Prop:=∀ p∈K,∀ a xs,qD p.2=some (a,xs)->H a=some (.tup xs)
structure Mod (K:yf) (mg:Str->Option yh) (base:Heap):Prop where
 qw:K.In base
 glob:base.Ns mainGlobals mg
 blt:∃ mb,base.Ns builtinsNs mb/\∀ x:Str,x≠"__name__"->mb x=bootBuiltins x
 nolimit:base.NoLimit
structure Cx where
 prog:yg
 w:World
 K:yf
 mg:Str->Option yh
 base:Heap
 A:yi
 N:List Str
 s₀:ye
 H₀:Hp
 env:Env
 outer:List Env
 stack:List Env
 ex:List Addr
 fn:Str->Bool
 calm:Bool
 pn:List (Addr×Obj)
 xe:yh->ye->Prop
abbrev wX (X:Cx){α:Type}(m:Sem α):(α->ye->Prop)->(yh->ye->Prop)->ye->Prop:=wpAny (model X.prog X.w) X.A m
abbrev sE (X:Cx)(e:Expr)(es:List Expr):Prop:=starEach (e::es) X.env=(false,eval e X.env)::starEach es X.env
abbrev bT (X:Cx)(p:Pos)(es:List Expr):Prop:=(backTo p (starEach es X.env)).any (·.1)=false
abbrev dB (x:Str):Prop:=(x==("__debug__" : Str))=false
noncomputable def cM (l:List Env):List Addr:=l.filterMap (·.frame)
abbrev Cx.fs (X:Cx):List Addr:=cM X.outer
def vm (sc:Scope)(x:Str):Prop:=sc.names.lookup x=some .local\/sc.names.lookup x=some .cell\/sc.names.lookup x=some .free
def n_ (sc:Scope)(x:Str):Prop:=sc.names.lookup x=some .local\/sc.names.lookup x=some .cell
def vn (env:Env)(h:Heap)(m:Str->Option yh)(x:Str)(u:yh):Prop:=(env.kindOf x=some .local/\m x=some u)\/((env.kindOf x=some .cell\/env.kindOf x=some .free)/\∃ c,env.cells.lookup x=some c/\h.IsCell c (some u))
structure Cx.Ok (X:Cx):Prop where
 mod:Mod X.K X.mg X.base
 kind:X.env.scope.kind=.function
 glob:X.env.globals=mainGlobals
 blt:X.env.builtins=builtinsNs
 above:X.s₀.heap.objs.size<=X.env.locals
 inj:∀ x y c,X.env.cells.lookup x=some c->X.env.cells.lookup y=some c->x=y
 has:∀ x,(X.env.kindOf x=some .cell\/X.env.kindOf x=some .free)->∃ c,X.env.cells.lookup x=some c
 qy:∀ x c,X.fn x=true->X.env.cells.lookup x=some c->X.s₀.heap.objs.size<=c
 hd:X.calm=true->X.A.handled=none
 frames:X.A.frames=some X.stack
 sY:X.stack=X.outer\/(X.stack=X.env::X.outer/\X.env.frame=some X.env.locals)
 u3:∀ b∈X.ex,b≠X.env.locals/\∀ x c,X.env.cells.lookup x=some c->c≠b
 bs:∀ b o,X.base.get? b=some o->X.s₀.heap.get? b=some o/\X.H₀ b=none
 lF:X.base.objs.size<=X.s₀.heap.objs.size
 iN:∀ b o,X.base.get? b=some o->b∉X.ex
 jQ:∀ b∈X.ex,b∉X.fs
 dn:X.s₀.heap.FunFrames X.base X.outer
 n6:∀ b∈X.fs,X.H₀ b=none
 kt:vk X.K X.H₀
structure Inv (X:Cx) (aa:List (Addr×Obj)) (σ:List (Option V)) (H:Hp) (s:ye):Prop where
 ok:X.Ok
 os:s.os=X.s₀.os
 bare:AllBare s.gens
 base:Un X.fs X.ex X.H₀ H X.s₀.heap s.heap
 loc:∃ m,s.heap.Ns X.env.locals m/\∀(i:Nat)(x:Str)(v:V),X.N[i]?=some x->σ[i]?=some (some v)->vm X.env.scope x->∃ u,RelV v u/\vn X.env s.heap m x u
 cell:∀ x c,X.env.cells.lookup x=some c->∃ v,s.heap.IsCell c v
 free:H X.env.locals=none
 bS:∀ x c,X.env.cells.lookup x=some c->H c=none
 pin:∀ p∈X.pn++aa,s.heap.get? p.1=some p.2/\H p.1=none/\p.1≠X.env.locals/\p.1∉X.fs/\∀ v,p.2.data≠.cell v
 bc:HOk X.prog X.w H s.heap
 len:σ.length=X.N.length
section
variable {X:Cx}{aa:List (Addr×Obj)}{σ:List (Option V)}{H H':Hp}{s:ye}
theorem Cx.Ok.wq (ok:X.Ok)(e:X.base.get? b=some o):b∉X.fs:=fun hb=>by have:=(ok.dn.mem hb).1;rw[e]at this;cases this
theorem Inv.bs (I:Inv X aa σ H s):∀ b o,X.base.get? b=some o->s.heap.get? b=some o/\H b=none:=fun b o e=>⟨I.base.keep b o (I.ok.bs b o e).1 (.inl (I.ok.bs b o e).2) (I.ok.wq e) (I.ok.iN b o e),I.base.free b o (I.ok.bs b o e).1 (I.ok.bs b o e).2 (I.ok.iN b o e)⟩
theorem Inv.kt (I:Inv X aa σ H s):vk X.K H:=fun p hp a xs e=>I.base.cE a xs (I.ok.kt p hp a xs e)
theorem Inv.bk (I:Inv X aa σ H s):∀ b o,X.base.get? b=some o->s.heap.get? b=some o:=fun b o e=>(I.bs b o e).1
theorem Inv.mod (I:Inv X aa σ H s):Mod X.K X.mg X.base:=I.ok.mod
theorem Inv.kD (I:Inv X aa σ H s):X.K.In s.heap:=I.ok.mod.qw.keeps I.bk
theorem Inv.lt (I:Inv X aa σ H s):X.env.locals<s.heap.objs.size:=let ⟨_,hn,_⟩:=I.loc;hn.lt
theorem Inv.sz (I:Inv X aa σ H s):X.s₀.heap.objs.size<=s.heap.objs.size:=nW I.ok.above (Nat.le_of_lt I.lt)
theorem Inv.wo (I:Inv X aa σ H s)(h:s.heap.objs.size<=a):a∉X.fs:=fun hb=>by obtain⟨_,o,ho,_⟩:=I.ok.dn.mem hb;exact absurd (bK (bo ho) (nW I.sz h)) (xn _)
theorem Inv.nB (I:Inv X aa σ H s):∀ x c,X.env.cells.lookup x=some c->c≠X.env.locals:=fun x c e z=>by obtain⟨v,o,ho,hd⟩:=I.cell x c e;obtain⟨m,⟨o',es,ep,ho',hd',_⟩,_⟩:=I.loc;rw[z,ho']at ho;cases ho;rw[hd']at hd;cases hd
theorem Inv.dn (I:Inv X aa σ H s):s.heap.FunFrames X.base X.outer:=by
 have all:∀(l:List Env),(∀ b∈cM l,b∈X.fs)->X.s₀.heap.FunFrames X.base l->s.heap.FunFrames X.base l:=by
  intro l;induction l with
  |nil=>intro _ _;trivial
  |cons env r ih=>intro hs hl;obtain⟨hk,⟨L,o,hf,hn,ho,hd⟩,hr⟩:=hl;have hL:L∈X.fs:=hs L (by unfold cM;rw[xC,hf];exact xD);obtain⟨sl,e⟩:=I.base.slot L o ho (I.ok.n6 L hL) hL fun z=>I.ok.jQ L z hL;exact⟨hk,⟨L,_,hf,hn,e,hd⟩,ih (fun b hb=>hs b (by unfold cM;rw[xC,hf];exact xk _ hb)) hr⟩
 exact all X.outer (fun _ hb=>hb) I.ok.dn
theorem Inv.stack (I:Inv X aa σ H s):s.heap.FunFrames X.base X.stack:=by
 rcases I.ok.sY with e|⟨e,hf⟩
 .rw[e];exact I.dn
 .rw[e];obtain⟨m,hn,_⟩:=I.loc;refine .cons (by rw[I.ok.kind];decide) hf hn ?_ I.dn;exact Heap.get?_none_of_le (nW I.ok.lF I.ok.above)
theorem Inv.d7 (I:Inv X aa σ H s):∀ b∈cM X.stack,b∈X.env.locals::X.fs:=fun b hb=>by
 rcases I.ok.sY with e|⟨e,hf⟩
 .rw[e]at hb;exact xk _ hb
 .rw[e]at hb;unfold cM at hb;rw[xC,hf]at hb;exact hb
theorem Inv.hU (I:Inv X aa σ H s):∀ b∈cM X.stack,H b=none:=fun b hb=>by
 rcases xh.mp (I.d7 b hb) with e|hb
 .rw[e];exact I.free
 .obtain⟨_,o,ho,_⟩:=I.ok.dn.mem hb;exact I.base.free b o ho (I.ok.n6 b hb) fun z=>I.ok.jQ b z hb
theorem Inv.step {d':Drawn}{ch:List Addr}(I:Inv X aa σ H s)
 (hch:∀ b∈ch,(b∈X.ex\/X.s₀.heap.objs.size<=b)/\b≠X.env.locals/\(∀ x c,X.env.cells.lookup x=some c->c≠b)/\∀ p∈X.pn++aa,p.1≠b)
 (keep:∀ b o,b≠X.env.locals->b∉X.fs->b∉ch->s.heap.get? b=some o->Qt H b->h'.get? b=some o)
 (slot:∀ b o,b≠X.env.locals->b∈X.fs->b∉ch->s.heap.get? b=some o->H b=none->∃ sl,h'.get? b=some { o with slots:=sl }) (free:∀ b o,b∉ch->s.heap.get? b=some o->H b=none->H' b=none)
 (there:∀ b o,b∉ch->s.heap.get? b=some o->∃ o',h'.get? b=some o')
 (cE:∀ b xs,H b=some (.tup xs)->H' b=some (.tup xs)) (c7:∀ b o u,H b=some (.bF o u)->H' b=some (.bF o u)) (dH:∀ b ps,H b=some (.qu ps)->∃ more,H' b=some (.qu (ps++more)))
 (ns:∀ m,s.heap.Ns X.env.locals m->h'.Ns X.env.locals m) (bc:HOk X.prog X.w H' h') (hg:AllBare g') :
 Inv X aa σ H' { s with heap:=h',gens:=g',drawn:=d',toks:=t' }:=by
 have neL:∀ b o,X.s₀.heap.get? b=some o->b≠X.env.locals:=fun b o e=>d8 (bK (bo e) I.ok.above);have neC:∀ b o,X.s₀.heap.get? b=some o->b∉X.ex->b∉ch:=fun b o e hx hb=>by
  rcases (hch b hb).1 with z|z
  .exact hx z
  .exact absurd (bK (bo e) z) (xn _)
 have cellK:∀ x c,X.env.cells.lookup x=some c->∀ v,s.heap.IsCell c v->h'.IsCell c v:=fun x c e v ⟨o,ho,hd⟩=>by
  have nch:c∉ch:=fun z=>(hch c z).2.2.1 x c e rfl;by_cases hc:c∈X.fs
  .obtain⟨sl,q⟩:=slot c o (I.nB x c e) hc nch ho (I.bS x c e);exact⟨_,q,hd⟩
  .exact⟨o,keep c o (I.nB x c e) hc nch ho (.inl (I.bS x c e)),hd⟩
 refine⟨I.ok,I.os,hg,⟨fun b o e n hb hx=>?_,fun b o e n hb hx=>?_,fun b o e n hx=>?_,fun b o e hx=>?_,fun b xs e=>cE b xs (I.base.cE b xs e),fun b o xs e=>c7 b o xs (I.base.c7 b o xs e),fun b ps e=>?_⟩,?_,fun x c e=>?_,?_,fun x c e=>?_,fun p hp=>?_,bc,I.len⟩
 .exact keep b o (neL b o e) hb (neC b o e hx) (I.base.keep b o e n hb hx) (n.imp (fun n=>I.base.free b o e n hx) fun⟨xs,q⟩=>⟨xs,I.base.cE b xs q⟩)
 .obtain⟨sl,e1⟩:=I.base.slot b o e n hb hx;obtain⟨sl',e2⟩:=slot b _ (neL b o e) hb (neC b o e hx) e1 (I.base.free b o e n hx);exact⟨sl',e2⟩
 .obtain⟨o',e1⟩:=I.base.there b o e hx;exact free b o' (neC b o e hx) e1 (I.base.free b o e n hx)
 .obtain⟨o',e1⟩:=I.base.there b o e hx;exact there b o' (neC b o e hx) e1
 .obtain⟨m1,e1⟩:=I.base.dH b ps e
  grind
 .obtain⟨m,hn,hl⟩:=I.loc;refine⟨m,ns m hn,fun i x v e1 e2 e3=>?_⟩;obtain⟨u,r,l⟩:=hl i x v e1 e2 e3;refine⟨u,r,?_⟩;rcases l with l|⟨k,c,e,z⟩
  .exact .inl l
  .exact .inr ⟨k,c,e,cellK x c e _ z⟩
 .obtain⟨v,z⟩:=I.cell x c e;exact⟨v,cellK x c e v z⟩
 .obtain⟨m,⟨o,_,_,ho,_⟩,_⟩:=I.loc;exact free _ o (fun z=>(hch _ z).2.1 rfl) ho I.free
 .obtain⟨v,o,ho,hd⟩:=I.cell x c e;exact free c o (fun z=>(hch c z).2.2.1 x c e rfl) ho (I.bS x c e)
 .obtain⟨e,n,ne,nf,d⟩:=I.pin p hp;have nch:p.1∉ch:=fun z=>(hch p.1 z).2.2.2 p hp rfl;exact⟨keep p.1 p.2 ne nf nch e (.inl n),free p.1 p.2 nch e n,ne,nf,d⟩
theorem Inv.un {t':Nat}(I:Inv X aa σ H s)(u:Un X.fs [] H H' s.heap h')(bc:HOk X.prog X.w H' h'):Inv X aa σ H' { s with heap:=h',toks:=t' }:=by obtain⟨m,⟨o,es,ep,ho,r⟩,_⟩:=id I.loc;obtain⟨sl,hL⟩:=u.any ho I.free (by simp);exact I.step (g':=s.gens) (d':=s.drawn) (ch:=[]) (fun _ z=>nomatch z) (fun b o _ hb _ e n=>u.keep b o e n hb (by simp)) (fun b o _ hb _ e n=>u.slot b o e n hb (by simp)) (fun b o _ e n=>u.free b o e n (by simp)) (fun b o _ e=>u.there b o e (by simp)) u.cE u.c7 u.dH (fun m' hm=>by obtain⟨o',es',ep',ho',r'⟩:=hm;rw[ho]at ho';cases ho';exact⟨_,es',ep',hL,r'⟩) bc I.bare
theorem Inv.call {d':Drawn}{ch:List Addr}(I:Inv X aa σ H s)(u:Un (cM X.stack) ch H H' s.heap h')(bc:HOk X.prog X.w H' h')(hg:AllBare g')
 (hch:∀ b∈ch,(b∈X.ex\/X.s₀.heap.objs.size<=b)/\b≠X.env.locals/\(∀ x c,X.env.cells.lookup x=some c->c≠b)/\∀ p∈X.pn++aa,p.1≠b) :
 Inv X aa σ H' { s with heap:=h',gens:=g',drawn:=d',toks:=t' }:=by
 obtain⟨m,⟨o,es,ep,ho,r⟩,_⟩:=id I.loc;obtain⟨sl,hL⟩:=u.any ho I.free fun z=>(hch _ z).2.1 rfl;exact I.step (ch:=ch) hch (fun b o hL hb hc e n=>u.keep b o e n (fun z=>(xh.mp (I.d7 b z)).elim hL hb) hc) (fun b o _ _ hc e n=>u.any e n hc) (fun b o hc e n=>u.free b o e n hc) (fun b o hc e=>u.there b o e hc) u.cE u.c7 u.dH (fun m' hm=>by obtain⟨o',es',ep',ho',r'⟩:=hm;rw[ho]at ho';cases ho';exact⟨_,es',ep',hL,r'⟩) bc hg
theorem Inv.turned {it:Addr}(I:Inv X aa σ H s)(k:∀ b o,b≠it->s.heap.get? b=some o->h'.get? b=some o)(hn:H it=none)(hL:it≠X.env.locals)
 (h1:it∈X.ex\/X.s₀.heap.objs.size<=it) (h2:∀ x c,X.env.cells.lookup x=some c->c≠it) (h3:∀ p∈X.pn++aa,p.1≠it):Inv X aa σ H { s with heap:=h',toks:=t' }:=by
 have nit:∀ b u,H b=some u->b≠it:=fun b u e z=>by rw[z,hn]at e;cases e
 refine I.step (g':=s.gens) (d':=s.drawn) (ch:=[it]) (fun b hb=>?_) (fun b o _ _ hc e _=>k b o (fun z=>hc (by simp[z])) e) (fun b o _ _ hc e _=>⟨o.slots,k b o (fun z=>hc (by simp[z])) e⟩) (fun _ _ _ _ n=>n)
  (fun b o hc e=>⟨o,k b o (fun z=>hc (by simp[z])) e⟩) (fun _ _ e=>e) (fun _ _ _ e=>e) (fun b ps e=>⟨#[],by rw[e];simp⟩) (fun m hm=>?_) (fun b u e=>?_) I.bare
 .have e:b=it:=by simpa using hb
  subst e;exact⟨h1,hL,h2,h3⟩
 .obtain⟨o,es,ep,ho,r⟩:=hm;exact⟨o,es,ep,k _ o (xg hL) ho,r⟩
 .refine(I.bc b u e).stay (fun c v hc q=>k c v ?_ q) (fun _ q=>q) fun _ _ q=>q;rcases hc with z|z
  .rw[z];exact nit b u e
  .exact nit c _ z
theorem Inv.tok (I:Inv X aa σ H s)(t:Nat):Inv X aa σ H { s with toks:=t }:=I.un (h':=s.heap) (t':=t) Un.refl I.bc
theorem Inv.kept (I:Inv X aa σ H s)(k:∀ b u,s.heap.get? b=some u->h'.get? b=some u):Inv X aa σ H { s with heap:=h',toks:=t' }:=I.un (Un.kept k) (I.bc.kept k)
theorem Inv.laid (I:Inv X aa σ H s)(k:∀ b u,s.heap.get? b=some u->h'.get? b=some u)(hp:s.heap.objs.size<=a)(new:ObjOk X.prog X.w (aX H a o) h' a o) :
 Inv X aa σ (aX H a o) { s with heap:=h',toks:=t' }:=I.un (Un.laid k hp (I.bc.fresh hp)) (I.bc.laid k hp new)
theorem Inv.write (I:Inv X aa σ H s)(mu:u9 (H x))(he:e=x\/H e=some (.own x))(k:∀ b u,b≠e->s.heap.get? b=some u->h'.get? b=some u)(heo:∃ u,h'.get? e=some u)
 (new:ObjOk X.prog X.w (aX H x o) h' x o):Inv X aa σ (aX H x o) { s with heap:=h',toks:=t' }:=I.un (Un.write mu he k heo) (I.bc.write mu he k heo new)
theorem Inv.kH (I:Inv X aa σ H s)(h:∀ p∈pins',s.heap.get? p.1=some p.2/\H p.1=none/\p.1≠X.env.locals/\p.1∉X.fs/\∀ v,p.2.data≠.cell v):Inv X pins' σ H s:=⟨I.ok,I.os,I.bare,I.base,I.loc,I.cell,I.free,I.bS,fun p hp=>(xW.mp hp).elim (fun z=>I.pin p (xy _ z)) (h p),I.bc,I.len⟩
theorem eV {N:List Str}(hN:N.Nodup){i j:Nat}{x:Str}(a:N[i]?=some x)(b:N[j]?=some x):i=j:=by obtain⟨h1,e1⟩:=b0.mp a;obtain⟨h2,e2⟩:=b0.mp b;exact(List.getElem_inj hN).mp (e1.trans e2.symm)
theorem gf {E:yh->ye->Prop}{x:Str}{v:V}{u:yh}{Q:Unit->ye->Prop}(I:Inv X aa σ H s)(hN:X.N.Nodup)(hi:X.N[i]?=some x)(hx:n_ X.env.scope x)(r:RelV v u)
 (h:∀ s',Inv X aa (σ.set i (some v)) H s'->(∃ a,Heap.SameBut a s.heap s'.heap/\(a=X.env.locals\/X.env.cells.lookup x=some a))->Q () s') (hf:autoParam (X.fn x=true\/X.env.scope.names.lookup x=some .local) yk._auto_1):wpAny M A (storeName X.env x u) Q E s:=by
 obtain⟨m,hn,hl⟩:=id I.loc;have hcls:(X.env.scope.kind==.class || (X.env.scope.kind==.module&&X.env.locals != X.env.globals))=false:=by rw[I.ok.kind];rfl
 have hiσ:i<σ.length:=by rw[I.len];exact(b0.mp hi).1
 have nB:=I.nB;have tracked:∀{a:Addr}{h':Heap},(∃ o,s.heap.get? a=some o/\H a=none)->Heap.SameBut a s.heap h'->HOk X.prog X.w H h':=fun{a h'} ha hs b ob e=>by
  obtain⟨_,_,hfree⟩:=ha;refine(I.bc b ob e).stay (fun c w' hc q=>(hs.2 c ?_).trans q) (fun _ q=>q) fun _ _ q=>q
  grind
 rcases hx with hk|hk
 .refine wpAny_storeName_local hk hn (fun h' hn' hs=>?_) hcls;obtain⟨oL,_,_,hoL,_⟩:=id hn;refine h _ ⟨I.ok,I.os,I.bare,⟨fun b o e n hb hx=>?_,fun b o e n hb hx=>?_,I.base.free,fun b o e hx=>?_,I.base.cE,I.base.c7,I.base.dH⟩,⟨_,hn',fun j y v' e1 e2 e3=>?_⟩,fun y c e=>?_,I.free,I.bS,fun p hp=>?_,tracked ⟨oL,hoL,I.free⟩ hs,by simpa using I.len⟩ ⟨_,hs,.inl rfl⟩
  .exact(hs.2 b (d8 (bK (bo e) I.ok.above))).trans (I.base.keep b o e n hb hx)
  .obtain⟨sl,e1⟩:=I.base.slot b o e n hb hx;exact⟨sl,(hs.2 b (d8 (bK (bo e) I.ok.above))).trans e1⟩
  .obtain⟨o',e1⟩:=I.base.there b o e hx;exact⟨o',(hs.2 b (d8 (bK (bo e) I.ok.above))).trans e1⟩
  .by_cases hj:j=i
   .subst hj;rw[hi]at e1;cases e1;rw[b4 hiσ]at e2;cases e2;exact⟨u,r,.inl ⟨hk,by simp⟩⟩
   .rw[cG (xg hj)]at e2;obtain⟨u',r',q⟩:=hl j y v' e1 e2 e3;refine⟨u',r',?_⟩;rcases q with⟨k,e⟩|⟨k,c,e,z⟩
    .refine .inl ⟨k,?_⟩;have:y≠x:=fun e=>hj (eV hN e1 (e▸hi));simp[this,e]
    .exact .inr ⟨k,c,e,z.sameBut hs (nB y c e)⟩
  .obtain⟨w',z⟩:=I.cell y c e;exact⟨w',z.sameBut hs (nB y c e)⟩
  .obtain⟨e,n,ne,nf,d⟩:=I.pin p hp;exact⟨(hs.2 p.1 ne).trans e,n,ne,nf,d⟩
 .have hfn:X.fn x=true:=by
   rcases hf with z|z
   .exact z
   .rw[z]at hk;cases hk
  obtain⟨c,hc⟩:=I.ok.has x (.inl hk);obtain⟨w',z⟩:=I.cell x c hc;refine wpAny_storeName_cell I.ok.kind hk hc z (fun h' hc' hs=>?_);obtain⟨oc,hoc,hocd⟩:=id z;refine h { s with heap:=h' } ⟨I.ok,I.os,I.bare,⟨fun b o e n hb hx=>?_,fun b o e n hb hx=>?_,I.base.free,fun b o e hx=>?_,I.base.cE,I.base.c7,I.base.dH⟩,⟨m,hn.sameBut hs (xg (nB x c hc)),fun j y v' e1 e2 e3=>?_⟩,fun y c' e=>?_,I.free,I.bS,fun p hp=>?_,tracked ⟨oc,hoc,I.bS x c hc⟩ hs,by simpa using I.len⟩ ⟨c,hs,.inr hc⟩
  .exact(hs.2 b (d8 (bK (bo e) (I.ok.qy x c hfn hc)))).trans (I.base.keep b o e n hb hx)
  .obtain⟨sl,e1⟩:=I.base.slot b o e n hb hx;exact⟨sl,(hs.2 b (d8 (bK (bo e) (I.ok.qy x c hfn hc)))).trans e1⟩
  .obtain⟨o',e1⟩:=I.base.there b o e hx;exact⟨o',(hs.2 b (d8 (bK (bo e) (I.ok.qy x c hfn hc)))).trans e1⟩
  .by_cases hj:j=i
   .subst hj;rw[hi]at e1;cases e1;rw[b4 hiσ]at e2;cases e2;exact⟨u,r,.inr ⟨.inl hk,c,hc,hc'⟩⟩
   .rw[cG (xg hj)]at e2;obtain⟨u',r',q⟩:=hl j y v' e1 e2 e3;refine⟨u',r',?_⟩;rcases q with q|⟨k,c',e,z'⟩
    .exact .inl q
    .refine .inr ⟨k,c',e,z'.sameBut hs ?_⟩;rintro rfl;exact hj (eV hN e1 (I.ok.inj _ _ _ e hc▸hi))
  .by_cases hcc:c'=c
   .subst hcc;exact⟨_,hc'⟩
   .obtain⟨w2,z2⟩:=I.cell y c' e;exact⟨w2,z2.sameBut hs hcc⟩
  .obtain⟨e,n,ne,nf,d⟩:=I.pin p hp;refine⟨(hs.2 p.1 ?_).trans e,n,ne,nf,d⟩
   grind
theorem dt (I:Inv X aa σ H s)(hN:X.N.Nodup)(hi:X.N[i]?=some x)(hx:n_ X.env.scope x)(r:RelV v u)
 (h:∀ s',Inv X aa (σ.set i (some v)) H s'->Q () s') (hf:autoParam (X.fn x=true\/X.env.scope.names.lookup x=some .local) yk._auto_1):wpAny M A (storeName X.env x u) Q E s:=
 gf I hN hi hx r (fun s' I' _=>h s' I') hf
theorem Inv.qx (I:Inv X aa σ H s)(ho:s'.os=s.os)(u:Un (cM X.stack) ch H H' s.heap s'.heap)(bc:HOk X.prog X.w H' s'.heap)(hg:AllBare s'.gens)
 (hch:∀ b∈ch,(b∈X.ex\/X.s₀.heap.objs.size<=b)/\b≠X.env.locals/\(∀ x c,X.env.cells.lookup x=some c->c≠b)/\∀ p∈X.pn++aa,p.1≠b):Inv X aa σ H' s':=by
 obtain⟨h',g',d',t',o'⟩:=s';have e:o'=s.os:=ho;subst e;exact I.call (g':=g') (t':=t') (d':=d') u bc hg hch
end
abbrev XK:=yh->Option Addr->Hp->Prop
noncomputable abbrev St:=List (Option V)
abbrev VK:=V->Hp->Prop
abbrev TE:=St->Hp->VK->Prop
abbrev TT:=St->Hp->(Bool->Hp->Prop)->Prop
abbrev TA:=St->Hp->(List V->Hp->Prop)->Prop
structure Ends where
 nx:St->Hp->Prop
 rt:VK
 bk:St->Hp->Prop:=fun _ _=>False
 ct:St->Hp->Prop:=fun _ _=>False
abbrev TS:=Ends->St->Hp->Prop
def EP (X:Cx)(aa:List (Addr×Obj))(σ:St)(Q:VK)(u:yh)(s':ye):Prop:=∃ v H',Inv X aa σ H' s'/\RelV v u/\Q v H'
def TP (X:Cx)(aa:List (Addr×Obj))(σ:St)(Q:Bool->Hp->Prop)(b:Bool)(s':ye):Prop:=∃ H',Inv X aa σ H' s'/\Q b H'
def AP (X:Cx)(aa:List (Addr×Obj))(σ:St)(Q:List V->Hp->Prop)(us:List yh)(s':ye):Prop:=∃ vs H',Inv X aa σ H' s'/\Vals vs us/\Q vs H'
def SP (X:Cx)(aa:List (Addr×Obj))(D:Ends)(f:Flow)(s':ye):Prop:=
 match f with
 | .next=>∃ σ' H',Inv X aa σ' H' s'/\D.nx σ' H'
 | .brk=>∃ σ' H',Inv X aa σ' H' s'/\D.bk σ' H'
 | .cont=>∃ σ' H',Inv X aa σ' H' s'/\D.ct σ' H'
 | .ret u=>∃ v σ' H',Inv X aa σ' H' s'/\RelV v u/\D.rt v H'
def PE (X:Cx)(e:Expr)(t:TE):Prop:=∀(aa:List (Addr×Obj))(s:ye)(σ:St)(H:Hp)(Q:VK),Inv X aa σ H s->t σ H Q->wpAny (model X.prog X.w) X.A (eval e X.env) (EP X aa σ Q) X.xe s
def PT (X:Cx)(e:Expr)(t:TT):Prop:=∀(aa:List (Addr×Obj))(s:ye)(σ:St)(H:Hp)(Q:Bool->Hp->Prop),Inv X aa σ H s->t σ H Q->wpAny (model X.prog X.w) X.A (isTrue e X.env (eval e X.env)) (TP X aa σ Q) X.xe s
def PW (X:Cx)(e:Expr)(t:TT):Prop:=∀(whole:Sem yh)(aa:List (Addr×Obj))(s:ye)(σ:St)(H:Hp)(Q:Bool->Hp->Prop),Inv X aa σ H s->t σ H Q->wpAny (model X.prog X.w) X.A (isTrue e X.env whole) (TP X aa σ Q) X.xe s
theorem PW.pt (h:PW X e t):PT X e t:=h _
def PA (X:Cx)(es:List Expr)(t:TA):Prop:=∀(pos:Pos)(aa:List (Addr×Obj))(s:ye)(σ:St)(H:Hp)(Q:List V->Hp->Prop),Inv X aa σ H s->t σ H Q->wpAny (model X.prog X.w) X.A (spliced (backTo pos (starEach es X.env))) (AP X aa σ Q) X.xe s
def PS (X:Cx)(st:Stmt)(t:TS):Prop:=∀(aa:List (Addr×Obj))(s:ye)(σ:St)(H:Hp)(D:Ends),Inv X aa σ H s->t D σ H->wpAny (model X.prog X.w) X.A (exec st X.env) (SP X aa D) X.xe s
def lB (X:Cx)(st:List Stmt)(t:TS):Prop:=∀(aa:List (Addr×Obj))(s:ye)(σ:St)(H:Hp)(D:Ends),Inv X aa σ H s->t D σ H->wpAny (model X.prog X.w) X.A (execs st X.env) (SP X aa D) X.xe s
theorem ce {α:Type}{t:Sem α}{Q Q':α->ye->Prop}{M:Model}{A:yi}{E:yh->ye->Prop}{s:ye}(h:wpAny M A t Q E s)(hQ:∀ a s,Q a s->Q' a s):wpAny M A t Q' E s:=fO h hQ fun _ _ x=>x
section
variable {X:Cx}
noncomputable def dc (i:Nat):TE:=fun σ H Q=>∃ v,σ[i]?=some (some v)/\Q v H
noncomputable def tC (v:V):TE:=fun _ H Q=>Q v H
theorem lG (hN:X.N[i]?=some x) (hv:vm X.env.scope x) (hd:autoParam (dB x) yj._auto_1) (hcd:autoParam ((x==("__classdict__" : Str))=false) yj._auto_1):PE X (.Name x pos) (dc i):=by
 intro aa s σ H Q I h;obtain⟨v,e,h⟩:=h;obtain⟨m,hn,hl⟩:=I.loc;obtain⟨u,r,l⟩:=hl i x v hN e hv;have fin:EP X aa σ Q u s:=⟨v,H,I,r,h⟩;rcases l with⟨hk,hm⟩|⟨hk,c,hc,hcell⟩
 .exact wpAny_Name (wpAny_loadName_local I.ok.kind hk hn hm fin) hd
 .rcases hk with hk|hk
  .exact wpAny_Name (wpAny_loadName_cell I.ok.kind hk hc hcell fin) hd
  .exact wpAny_Name (wpAny_loadName_free I.ok.kind hk hc hcell fin hcd) hd
theorem lH {i j pos}:PE X (.Constant (.int i) j pos) (tC (.int i)):=fun _ _ _ H _ I h=>wpAny_Constant_int ⟨.int i,H,I.tok _,⟨_,rfl⟩,h⟩
theorem tq {b j pos}:PE X (.Constant (.bool b) j pos) (tC (.bl b)):=fun _ _ _ H _ I h=>Constant_bool ⟨.bl b,H,I,rfl,h⟩
theorem qE {j pos}:PE X (.Constant .none j pos) (tC .cH):=fun _ _ _ H _ I h=>Constant_none ⟨.cH,H,I,rfl,h⟩
theorem lI {x j pos}:PE X (.Constant (.str x) j pos) (tC (.str x)):=fun _ _ _ H _ I h=>Calls.Constant_str ⟨.str x,H,I.tok _,⟨_,rfl⟩,h⟩
def Gl (X:Cx)(x:Str):Prop:=X.env.kindOf x=some .globalImplicit
theorem cg (I:Inv X aa σ H s)(hg:Gl X x)(hm:X.mg x=some u)(h:Q u s)
 (hd:autoParam (dB x) yj._auto_1):wX X (eval (.Name x pos) X.env) Q E s:=
 Calls.Name_function_global I.ok.kind hg (Calls.loadGlobal_global (by rw[I.ok.glob];exact I.mod.glob.keeps I.bk) hm h) hd
theorem eY (I:Inv X aa σ H s)(hg:Gl X x)(hm:X.mg x=none)(hv:bootBuiltins x=some u)(h:Q u s)
 (hn:autoParam (x≠"__name__") yj._auto_1) (hd:autoParam (dB x) yj._auto_1):wX X (eval (.Name x pos) X.env) Q E s:=by
 obtain⟨mb,h1,h2⟩:=I.mod.blt;exact Calls.Name_function_global I.ok.kind hg (Calls.loadGlobal_builtin (by rw[I.ok.glob];exact I.mod.glob.keeps I.bk) hm (by rw[I.ok.blt];exact h1.keeps I.bk) ((h2 x hn).trans hv) h) hd
theorem bq (hg:Gl X x)(hm:X.mg x=some u)(r:RelV v u)(hd:autoParam (dB x) yj._auto_1):PE X (.Name x pos) (tC v):=fun _ _ _ H _ I h=>cg I hg hm ⟨v,H,I,r,h⟩ hd
theorem oa (hg:Gl X x) (hm:X.mg x=none) (hv:bootBuiltins x=some u) (r:RelV v u) (hn:autoParam (x≠"__name__") yj._auto_1) (hd:autoParam (dB x) yj._auto_1):PE X (.Name x pos) (tC v):=fun _ _ _ H _ I h=>eY I hg hm hv ⟨v,H,I,r,h⟩ hn hd
variable {a b:Expr}{ta tb:TE}{pos:Pos}
noncomputable def tB (t:TE):TT:=fun σ H Q=>t σ H fun x H1=>∃ c,x=.bl c/\Q c H1
theorem jd (h:PE X e t)(he:autoParam (∀ whole,isTrue e X.env whole=(do let v <- whole;standAt e.pos;holding [v] (truthy v))) yn._auto_1):PT X e (tB t):=by intro aa s σ H Q I hw;refine isTrue_plain (ce (h aa s σ H _ I hw) fun v s1 ⟨x,H1,I1,r1,q1⟩=>?_) (he _);obtain⟨d,rfl,q⟩:=q1;cases r1;exact xN ⟨H1,I1,q⟩
variable {tA tB':TT}{aP:List Expr}
noncomputable def vo (t u:TT):TT:=fun σ H Q=>t σ H fun c H1=>if c=true then Q true H1 else u σ H1 Q
noncomputable def og (t:TT):TT:=fun σ H Q=>t σ H fun c H1=>Q (!c) H1
theorem lJ (ha:PT X a tA):PW X (.BoolOp .Or [a] pos) tA:=by
 intro wh aa s σ H Q I h;refine isTrue_or (ce (ha aa s σ H Q I h) fun c s1 e=>?_);cases c with
 |false=>exact isTrue_or_nil e
 |true=>exact e
theorem pU (ha:PT X a tA)(hb:PW X (.BoolOp .Or (b::aP) pos) tB'):PW X (.BoolOp .Or (a::b::aP) pos) (vo tA tB'):=by
 intro wh aa s σ H Q I h;refine isTrue_or (ce (ha aa s σ H _ I h) fun c s1 ⟨H1,I1,q1⟩=>?_);cases c with
 |true=>exact⟨H1,I1,q1⟩
 |false=>exact hb wh aa s1 σ H1 Q I1 q1
theorem je (ha:PT X a tA):PT X (.UnaryOp .Not a pos) (og tA):=by intro aa s σ H Q I h;exact isTrue_not (ha aa s σ H (fun c H1=>Q (!c) H1) I h)
noncomputable def tu (ta tb:TE):TE:=fun σ H Q=>ta σ H fun x H1=>∃ c,x=.bl c/\if c=true then tb σ H1 Q else Q (.bl false) H1
theorem qG {op}(h:PE X a t):PE X (.BoolOp op [a] pos) t:=fun aa s σ H Q I hw=>BoolOp_one (h aa s σ H Q I hw)
theorem qH (ha:PE X a ta)(hb:PE X (.BoolOp .And (b::aP) pos) tb):PE X (.BoolOp .And (a::b::aP) pos) (tu ta tb):=by
 intro aa s σ H Q I h;refine BoolOp_and (ce (ha aa s σ H _ I h) fun v s1 ⟨x,H1,I1,r1,q1⟩=>?_);obtain⟨c,rfl,q1⟩:=q1;cases r1;refine xN ?_;cases c with
 |true=>exact hb aa s1 σ H1 Q I1 q1
 |false=>exact⟨.bl false,H1,I1,rfl,q1⟩
end
def SqL (K:yf)(H:Hp)(a:Addr)(xs:List V):Prop:=
 Rd H a (.lst xs)\/
  ∃(o:Obj)(its:Array yh)(n:Nat),K.lookup a=some o/\o.cls=.type "list"/\o.dict=none/\o.data=.seq its n/\its.size<=sizeLine/\Vals xs its.toList
def SqT (K:yf)(H:Hp)(a:Addr)(xs:List V):Prop:=
 Rd H a (.tup xs)\/
  ∃(o:Obj)(its:Array yh)(n:Nat),K.lookup a=some o/\o.cls=.type "tuple"/\o.data=.seq its n/\its.size<=sizeLine/\Vals xs its.toList
noncomputable def vp:yh->Option V
 | .none=>some .cH
 | .bool b=>some (.bl b)
 | .int i _=>some (.int i)
 | .str x _=>some (.str x)
 | .bytes b _=>some (.u5 b)
 | .float b _=>some (.wg b)
 | .ref a=>some (.ref a)
 | .type n=>some (.ty n)
 |_=>none
theorem RelV.abs (r:RelV x u):vp u=some x:=by
 cases x with
 |cH=>cases r;rfl
 |bl _=>cases r;rfl
 |int _=>obtain⟨t,rfl⟩:=r;rfl
 |str _=>obtain⟨t,rfl⟩:=r;rfl
 |u5 _=>obtain⟨t,rfl⟩:=r;rfl
 |wg _=>obtain⟨t,rfl⟩:=r;rfl
 |ref _=>cases r;rfl
 |ty _=>cases r;rfl
theorem RelV.inj (r:RelV x u)(q:RelV y u):x=y:=jP (r.abs.symm.trans q.abs)
theorem Vals.inj {xs ys:List V}{us:List yh}(h:Vals xs us)(k:Vals ys us):xs=ys:=by
 induction h generalizing ys with
 |nil=>cases k;rfl
 |cons r _ ih=>
  cases k with
  |cons r' t'=>rw[r.inj r',ih t']
section
theorem SqL.of {K:yf}(h:H a=some (.lst xs)):SqL K H a xs:=.inl (.inl h)
theorem SqT.of {K:yf}(h:H a=some (.tup xs)):SqT K H a xs:=.inl (.inl h)
theorem Inv.list (I:Inv X aa σ H s)(h:SqL X.K H a xs):∃ its:List yh,Vals xs its/\PlainL s.heap a its.toArray/\xs.length<=sizeLine:=by
 rcases h with h|⟨o,its,n,hk,hc,hd,hs,hz,r⟩
 .obtain⟨z,its,n,r,e⟩:=h.ok I.bc;exact⟨its,r,⟨_,n,e,rfl,rfl,rfl⟩,z⟩
 .refine⟨its.toList,r,⟨o,n,I.kD a o hk,hc,hd,by simpa using hs⟩,?_⟩;have e:=r.length;simp only[Array.length_toList]at e;lia
theorem Inv.tuple (I:Inv X aa σ H s)(h:SqT X.K H a xs):∃ its:List yh,Vals xs its/\IsTup s.heap a its.toArray/\xs.length<=sizeLine:=by
 rcases h with h|⟨o,its,n,hk,hc,hs,hz,r⟩
 .obtain⟨z,its,r,p⟩:=h.ok I.bc;exact⟨its,r,p,z⟩
 .refine⟨its.toList,r,⟨o,I.kD a o hk,hc,n,by simpa using hs⟩,?_⟩;have e:=r.length;simp only[Array.length_toList]at e;lia
theorem Inv.nI (I:Inv X aa σ H s)(h:SqL X.K H a xs)(h':SqL X.K H a ys):xs=ys:=by
 obtain⟨its,r,⟨o,n,e,_,_,d⟩,_⟩:=I.list h;obtain⟨its',r',⟨o',n',e',_,_,d'⟩,_⟩:=I.list h';rw[e]at e';cases e';rw[d]at d';injection d' with d1 _;have:its=its':=by simpa using congrArg Array.toList d1
 subst this;exact r.inj r'
theorem Inv.lz (I:Inv X aa σ H s)(h:SqT X.K H a xs)(h':SqT X.K H a ys):xs=ys:=by
 obtain⟨its,r,⟨o,e,_,n,d⟩,_⟩:=I.tuple h;obtain⟨its',r',⟨o',e',_,n',d'⟩,_⟩:=I.tuple h';rw[e]at e';cases e';rw[d]at d';injection d' with d1 _;have:its=its':=by simpa using congrArg Array.toList d1
 subst this;exact r.inj r'
end
noncomputable abbrev Cx.hI (X:Cx)(E:yh->ye->Prop):Cx:={ X with xe:=E }
abbrev Cx.wF (X:Cx):Cx:=X.hI fun _ _=>False
theorem Cx.Ok.hI {X:Cx}(ok:X.Ok)(E:yh->ye->Prop):(X.hI E).Ok:=⟨ok.mod,ok.kind,ok.glob,ok.blt,ok.above,ok.inj,ok.has,ok.qy,ok.hd,ok.frames,ok.sY,ok.u3,ok.bs,ok.lF,ok.iN,ok.jQ,ok.dn,ok.n6,ok.kt⟩
theorem Cx.Ok.jO {X:Cx}{E:yh->ye->Prop}(ok:(X.hI E).Ok):X.Ok:=⟨ok.mod,ok.kind,ok.glob,ok.blt,ok.above,ok.inj,ok.has,ok.qy,ok.hd,ok.frames,ok.sY,ok.u3,ok.bs,ok.lF,ok.iN,ok.jQ,ok.dn,ok.n6,ok.kt⟩
section
theorem Inv.hI (I:Inv X aa σ H s)(E:yh->ye->Prop):Inv (X.hI E) aa σ H s:=⟨I.ok.hI E,I.os,I.bare,I.base,I.loc,I.cell,I.free,I.bS,I.pin,I.bc,I.len⟩
theorem Inv.jO (I:Inv (X.hI E) aa σ H s):Inv X aa σ H s:=⟨I.ok.jO,I.os,I.bare,I.base,I.loc,I.cell,I.free,I.bS,I.pin,I.bc,I.len⟩
end
section
variable {X:Cx}{st:Stmt}{aP:List Stmt}{t u:TS}
noncomputable def pV:TS:=fun D σ H=>D.nx σ H
noncomputable def jf (t u:TS):TS:=fun D σ H=>t { D with nx:=u D } σ H
theorem jS:lB X [] pV:=fun _ _ σ H _ I h=>xE ⟨σ,H,I,h⟩
theorem cu (h1:PS X st t)(h2:lB X aP u):lB X (st::aP) (jf t u):=by
 intro aa s σ H D I h;refine wpAny_execs_cons (ce (h1 aa s σ H { D with nx:=u D } I h) fun f s1 q=>?_);cases f with
 |next=>obtain⟨σ',H',I',q⟩:=q;exact h2 aa s1 σ' H' D I' q
 |ret v=>exact q
 |brk=>exact q
 |cont=>exact q
theorem eQ (h1:PS X st t):lB X [st] t:=by
 intro aa s σ H D I h;refine wpAny_execs_cons (ce (h1 aa s σ H D I h) fun f s1 q=>?_);cases f with
 |next=>exact xE q
 |ret v=>exact q
 |brk=>exact q
 |cont=>exact q
theorem Inv.quiet (I:Inv X aa σ H s):interactive X.env=false:=by simp[interactive,I.ok.kind]
noncomputable def tv (te:TE):TS:=fun D σ H=>te σ H fun _ H1=>D.nx σ H1
theorem oh (he:PE X e te)(hs:autoParam (swapsWith e none pos.line X.env=pure false) yp._auto_1):PS X (.Expr e pos) (tv te):=by intro aa s σ H D I h;exact wpAny_Expr_any (ce (he aa s σ H _ I h) fun v s1 ⟨x,H1,I1,r1,q1⟩=>⟨σ,H1,I1,q1⟩) I.quiet hs
noncomputable def qI (te:TE):TS:=fun D σ H=>te σ H D.rt
theorem jg (he:PE X e te):PS X (.Return (some e) pos) (qI te):=by intro aa s σ H D I h;exact wpAny_Return_some (ce (he aa s σ H _ I h) fun v s1 ⟨x,H1,I1,r1,q1⟩=>⟨x,σ,H1,I1,r1,q1⟩)
noncomputable def qJ (c:TT)(t u:TS):TS:=fun D σ H=>c σ H fun b H1=>if b=true then t D σ H1 else u D σ H1
theorem pW (hc:PT X c tc)(ha:lB X a t)(hb:lB X b u):PS X (.If c a b pos) (qJ tc t u):=by
 intro aa s σ H D I h;refine wpAny_If (ce (hc aa s σ H _ I h) fun d s1 ⟨H1,I1,q1⟩=>?_);cases d with
 |true=>exact ha aa s1 σ H1 D I1 q1
 |false=>exact hb aa s1 σ H1 D I1 q1
end
abbrev TG:=V->St->Hp->(St->Hp->Prop)->Prop
def PG (X:Cx)(target:Expr)(t:TG):Prop:=
 ∀(aa:List (Addr×Obj))(s:ye)(σ:St)(H:Hp)(v:V)(u:yh)(Q:St->Hp->Prop),Inv X aa σ H s->RelV v u->t v σ H Q->
  wpAny (model X.prog X.w) X.A (assign target X.env u) (fun _ s'=>∃ σ' H',Inv X aa σ' H' s'/\Q σ' H') X.xe s
section
noncomputable def c8 (i:Nat):TG:=fun v σ H Q=>Q (σ.set i (some v)) H
theorem jT (hN:X.N.Nodup)(hi:X.N[i]?=some x)(hx:n_ X.env.scope x)(hf:autoParam (X.fn x=true\/X.env.scope.names.lookup x=some .local) yk._auto_1):PG X (.Name x pos) (c8 i):=by intro aa s σ H v u Q I r h;exact wpAny_assign_Name (dt I hN hi hx r (fun s' I'=>⟨_,H,I',h⟩) hf)
noncomputable def h9 (te:TE)(g:TG):TS:=fun D σ H=>te σ H fun x H1=>g x σ H1 D.nx
theorem dL (hN:X.N.Nodup)(hi:X.N[i]?=some x)(hx:n_ X.env.scope x)(he:PE X e te)(hs:autoParam (swapsWith e (some (.Name x pos')) pos.line X.env=pure false) yp._auto_1)(hf:autoParam (X.fn x=true\/X.env.scope.names.lookup x=some .local) yk._auto_1) :
 PS X (.Assign [.Name x pos'] e pos) (h9 te (c8 i)):=by
 intro aa s σ H D I h;refine wpAny_Assign_Name (ce (he aa s σ H _ I h) fun v s1 ⟨y,H1,I1,r1,q1⟩=>?_) hs;exact dt I1 hN hi hx r1 (fun s2 I2=>⟨_,H1,I2,q1⟩) hf
end
structure It where
 go:Nat->Hp->Prop
 pS:Nat->Hp->V->Hp->Prop
 stop:Nat->Hp->Prop
def bU (X:Cx)(aa:List (Addr×Obj))(H:Hp)(b:Addr):Prop:=H b=none/\b≠X.env.locals/\b∉X.fs/\(b∈X.ex\/X.s₀.heap.objs.size<=b)/\(∀ x c,X.env.cells.lookup x=some c->c≠b)/\∀ p∈X.pn++aa,p.1≠b
theorem Inv.nM (I:Inv X aa σ H s)(hb:s.heap.objs.size<=b)(hn:H' b=none):bU X aa H' b:=by
 refine⟨hn,Nat.ne_of_gt (bK I.lt hb),I.wo hb,.inr (nW I.sz hb),fun x c e z=>?_,fun p hp z=>?_⟩
 .obtain⟨v,q⟩:=I.cell x c e;exact absurd (bK q.lt (by rw[z];exact hb)) (xn _)
 .exact absurd (bK (bo (I.pin p hp).1) (by rw[z];exact hb)) (xn _)
structure Turn (P:yg) (w:World) (K:yf) (tg:Expr) (J:It) (fp:List Addr) (it:Addr) (tn:Nat->Heap->Prop):Prop where
 mem:it∈fp
 obj:∀ i h,tn i h->∀ b∈fp,∃ o,h.get? b=some o/\∀ v,o.data≠.cell v
 keep:∀ i h h',tn i h->(∀ b∈fp,∀ o,h.get? b=some o->h'.get? b=some o)->tn i h'
 item:∀(X:Cx),X.prog=P->X.w=w->X.K=K->X.calm=true->∀(i:Nat)(aa:List (Addr×Obj))(s:ye)(σ:St)(H:Hp)(E:yh->ye->Prop),Inv X aa σ H s->(∀ b∈fp,bU X aa H b)->tn i s.heap->J.go i H->
  wpAny (model P w) X.A (pyNext (.ref it)) (fun r s1=>∃ u,r=some u/\
   wpAny (model P w) X.A (letOwnedTupleGo tg (.ref it) u) (fun _ s2=>∃ x H',Inv X aa σ H' s2/\RelV x u/\J.pS i H x H'/\tn (i+1) s2.heap/\∀ b∈fp,H' b=none) E s1) E s
 done:∀(X:Cx),X.prog=P->X.w=w->X.K=K->X.calm=true->∀(i:Nat)(aa:List (Addr×Obj))(s:ye)(σ:St)(H:Hp)(E:yh->ye->Prop),Inv X aa σ H s->(∀ b∈fp,bU X aa H b)->tn i s.heap->J.stop i H->
  wpAny (model P w) X.A (pyNext (.ref it)) (fun r s1=>r=none/\Inv X aa σ H s1) E s
 self:∀(A:yi)(i:Nat)(s:ye)(Q:yh->ye->Prop)(E:yh->ye->Prop),tn i s.heap->Q (.ref it) s->wpAny (model P w) A (pyIter (.ref it)) Q E s
abbrev TI:=St->Hp->(It->Hp->Prop)->Prop
def wt (X:Cx)(aa:List (Addr×Obj))(σ:St)(tg:Expr)(R:It->Hp->Prop)(itv:yh)(s2:ye):Prop:=∃(it:Addr)(fp:List Addr)(tn:Nat->Heap->Prop)(J:It)(H':Hp),itv=.ref it/\Inv X aa σ H' s2/\Turn X.prog X.w X.K tg J fp it tn/\tn 0 s2.heap/\(∀ b∈fp,bU X aa H' b)/\R J H'
def PI (X:Cx)(tg iter:Expr)(wi:TI):Prop:=
 ∀(aa:List (Addr×Obj))(s:ye)(σ:St)(H:Hp)(R:It->Hp->Prop),Inv X aa σ H s->wi σ H R->
  wpAny (model X.prog X.w) X.A (eval iter X.env) (fun v s1=>wpAny (model X.prog X.w) X.A (pyIter v) (wt X aa σ tg R) X.xe s1) X.xe s
theorem jU (ho:s.heap.get? it=some o)(hc:o.cls=.type n)(hd:o.data=.fields vs)
 (hn:["enumerate", "zip", "dict_itemiterator", "dict_reverseitemiterator", "odict_iterator", "itertools.zip_longest", "itertools.pairwise"].contains n=false) (hQ:Q () s):wpAny M A (letOwnedTupleGo tg (.ref it) u) Q E s:=by
 unfold letOwnedTupleGo;cases tg<;>first
  |exact bp hQ
  |(cases u<;>first
     |exact bp hQ
     |(refine ae (wpAny_load ho ?_)
       rw[hc,hd];show wpAny M A (if (["enumerate", "zip", "dict_itemiterator", "dict_reverseitemiterator", "odict_iterator", "itertools.zip_longest", "itertools.pairwise"].contains n&&vs[0]?==some (rawInt _))=true then _ else _) Q E s;rw[fR (by intro h;rw[hn,Bool.false_and]at h;cases h)];exact bp hQ))
noncomputable def vq (K:yf)(a:Addr):It:=⟨fun i H=>∃ xs x,SqL K H a xs/\xs[i]?=some x,fun i H x H'=>H'=H/\∀ xs,SqL K H a xs->xs[i]?=some x,fun i H=>∃ xs,SqL K H a xs/\xs.length<=i⟩
noncomputable def vr (K:yf)(a:Addr):It:=⟨fun i H=>∃ xs x,SqT K H a xs/\xs[i]?=some x,fun i H x H'=>H'=H/\∀ xs,SqT K H a xs->xs[i]?=some x,fun i H=>∃ xs,SqT K H a xs/\xs.length<=i⟩
noncomputable def u_ (lo:Int)(n:Nat):It:=⟨fun i _=>i<n,fun i H x H'=>H'=H/\x=.int (lo+i),fun i _=>n<=i⟩
theorem kP {K:yf}{tg:Expr}(a it:Addr):Turn P w K tg (vq K a) [it] it (fun i h=>h.IsListIter it a i) where
 mem:=by simp
 obj:=fun i h st b hb=>by
  have e:b=it:=by simpa using hb
  subst e;obtain⟨o,e,c,d⟩:=st;exact⟨o,e,fun v z=>by rw[d]at z;cases z⟩
 keep:=fun i h h' st k=>st.at fun o e=>k it (by simp) o e
 item:=by intro X hP hw hK hc i aa s σ H E I hf st hg;subst hP hw hK;obtain⟨xs,x,hq,hx⟩:=hg;obtain⟨its,rv,p,hz⟩:=I.list hq;obtain⟨u,hu,ru⟩:=rv.get hx;obtain⟨f0,f1,f2,f3,f4,f5⟩:=hf it (by simp);refine wpAny_pyNext_list_item st p.isList (x:=u) (by simpa using hu) fun h' st' sb=>?_;have I1:Inv X aa σ H { s with heap:=h' }:=I.turned (t':=s.toks) (fun b o hb e=>(sb.2 b hb).trans e) f0 f1 f3 f4 f5;obtain⟨o,e,c,d⟩:=id st';exact⟨u,rfl,jU (s:={ s with heap:=h' }) e c d (by decide) ⟨x,H,I1,ru,⟨rfl,fun ys hy=>by rw[I.nI hy hq];exact hx⟩,st',fun b hb=>(hf b hb).1⟩⟩
 done:=by intro X hP hw hK hc i aa s σ H E I hf st hg;subst hP hw hK;obtain⟨xs,hq,hx⟩:=hg;obtain⟨its,rv,p,hz⟩:=I.list hq;obtain⟨f0,f1,f2,f3,f4,f5⟩:=hf it (by simp);have hl:=rv.length;exact wpAny_pyNext_list_end (I.ok.hd hc) st p.isList (by simp;lia) fun h' eb=>⟨rfl,I.turned (t':=s.toks) (fun b o hb e=>eb b o hb e) f0 f1 f3 f4 f5⟩
 self:=fun _ _ _ _ _ st h=>wpAny_pyIter_listiter st h
theorem jh {K:yf}{tg:Expr}(a it:Addr):Turn P w K tg (vr K a) [it] it (fun i h=>h.IsTupleIter it a i) where
 mem:=by simp
 obj:=fun i h st b hb=>by
  have e:b=it:=by simpa using hb
  subst e;obtain⟨o,e,c,d⟩:=st;exact⟨o,e,fun v z=>by rw[d]at z;cases z⟩
 keep:=fun i h h' st k=>st.at fun o e=>k it (by simp) o e
 item:=by intro X hP hw hK hc i aa s σ H E I hf st hg;subst hP hw hK;obtain⟨xs,x,hq,hx⟩:=hg;obtain⟨its,rv,p,hz⟩:=I.tuple hq;obtain⟨u,hu,ru⟩:=rv.get hx;obtain⟨f0,f1,f2,f3,f4,f5⟩:=hf it (by simp);refine wpAny_pyNext_tuple_item st (show s.heap.IsTuple a its.toArray from p) (x:=u) (by simpa using hu) fun h' st' sb=>?_;have I1:Inv X aa σ H { s with heap:=h' }:=I.turned (t':=s.toks) (fun b o hb e=>(sb.2 b hb).trans e) f0 f1 f3 f4 f5;obtain⟨o,e,c,d⟩:=id st';exact⟨u,rfl,jU (s:={ s with heap:=h' }) e c d (by decide) ⟨x,H,I1,ru,⟨rfl,fun ys hy=>by rw[I.lz hy hq];exact hx⟩,st',fun b hb=>(hf b hb).1⟩⟩
 done:=by intro X hP hw hK hc i aa s σ H E I hf st hg;subst hP hw hK;obtain⟨xs,hq,hx⟩:=hg;obtain⟨its,rv,p,hz⟩:=I.tuple hq;obtain⟨f0,f1,f2,f3,f4,f5⟩:=hf it (by simp);have hl:=rv.length;exact wpAny_pyNext_tuple_end (I.ok.hd hc) st (show s.heap.IsTuple a its.toArray from p) (by simp;lia) fun h' eb=>⟨rfl,I.turned (t':=s.toks) (fun b o hb e=>eb b o hb e) f0 f1 f3 f4 f5⟩
 self:=fun _ _ _ _ _ st h=>wpAny_pyIter_tupleiter st h
theorem ji {K:yf}{tg:Expr}(it:Addr)(lo:Int)(n:Nat):Turn P w K tg (u_ lo n) [it] it (fun i h=>IsRangeIter h it (lo+(i:Nat)*1) ((n:Int)-(i:Nat)) 1) where
 mem:=by simp
 obj:=fun i h st b hb=>by grind
 keep:=fun i h h' st k=>k it (by simp) _ st
 item:=by intro X hP hw hK hc i aa s σ H E I hf st hg;subst hP hw hK;obtain⟨f0,f1,f2,f3,f4,f5⟩:=hf it (by simp);have W:=Walks.range (prog:=X.prog) (w:=X.w) (I.ok.hd hc) it lo 1 n;refine W.item i s _ _ hg st fun v h' tk hv st' kk=>?_;obtain⟨t,rfl⟩:=hv;have I1:Inv X aa σ H { s with heap:=h',toks:=tk }:=I.turned (fun b o hb e=>kk b o (by simpa using hb) e) f0 f1 f3 f4 f5;refine⟨_,rfl,jU (s:={ s with heap:=h',toks:=tk }) (n:="range_iterator") st' rfl rfl (by decide) ⟨.int (lo+i),H,I1,⟨t,?_⟩,⟨rfl,rfl⟩,st',fun b hb=>(hf b hb).1⟩⟩;rw[Int.mul_one]
 done:=by intro X hP hw hK hc i aa s σ H E I hf st hg;subst hP hw hK;obtain⟨f0,f1,f2,f3,f4,f5⟩:=hf it (by simp);exact wpAny_pyNext_range_end (I.ok.hd hc) st (by have:n<=i:=hg;lia) fun h' eb=>⟨rfl,I.turned (t':=s.toks) (fun b o hb e=>eb b o hb e) f0 f1 f3 f4 f5⟩
 self:=fun _ _ _ _ _ st h=>wpAny_pyIter_rangeiter st h
section
theorem lK {s:ye}{R:It->Hp->Prop}{E:yh->ye->Prop}{lo hi:Int}{t u v:Tok}{tk:Nat}(I:Inv X aa σ H s)(h1:-(2 ^ 62)<=lo)(h2:lo<2 ^ 62)(h3:-(2 ^ 62)<=hi)(h4:hi<2 ^ 62)
 (q:R (u_ lo (hi-lo).toNat) H):wX X (pyIter (.ref s.heap.objs.size)) (wt X aa σ tg R) E { s with heap:=s.heap.push { cls:=.type "range",data:=.fields #[.int lo t,.int hi u,.int 1 v] },toks:=tk }:=by
 refine wpAny_pyIter_range (IsRange.new ..) (small_one h1 h2 h3 h4) ?_;have I1:Inv X aa σ H { s with heap:=s.heap.push { cls:=.type "range",data:=.fields #[.int lo t,.int hi u,.int 1 v] },toks:=tk }:=I.kept fun b o e=>ba _ e;refine⟨(s.heap.push { cls:=.type "range",data:=.fields #[.int lo t,.int hi u,.int 1 v] }).objs.size,[(s.heap.push { cls:=.type "range",data:=.fields #[.int lo t,.int hi u,.int 1 v] }).objs.size],_,_,H,rfl,
  I1.kept (t':=tk) fun b o e=>ba _ e,ji _ lo (hi-lo).toNat,?_,fun b hb=>?_,q⟩
 .have e1:lo+((0:Nat):Int)*1=lo:=by simp
  have e2:(((hi-lo).toNat:Nat):Int)-((0:Nat):Int)=Builtin.Range.rangeSize lo hi 1:=by rw[rangeSize_one];split<;>lia
  show IsRangeIter _ _ (lo+((0:Nat):Int)*1) ((((hi-lo).toNat:Nat):Int)-((0:Nat):Int)) 1;rw[e1,e2];exact cI _ rfl
 .have e:b=(s.heap.push { cls:=.type "range",data:=.fields #[.int lo t,.int hi u,.int 1 v] }).objs.size:=by simpa using hb
  subst e;exact I1.nM (bD _) (I1.bc.fresh (bD _))
def tw (ta:TA):TI:=fun σ H R=>ta σ H fun vs H1=>∃ j:Int,vs=[.int j]/\-(2 ^ 62)<=j/\j<2 ^ 62/\R (u_ 0 j.toNat) H1
theorem kQ {a:Expr} {ta:TA} {p pos:Pos} (hg:Gl X "range") (hm:X.mg "range"=none) (ha:PA X [a] ta) (hs:autoParam (starEach [a] X.env=[(false,eval a X.env)]) yp._auto_1):PI X tg (.Call (.Name "range" p) [a] [] pos) (tw ta):=by
 intro aa s σ H R I h;refine Call_ (eY I hg hm boot_range (xr (ce (ha pos aa s σ H _ I h) fun us s1 ⟨vs,H1,I1,r1,q1⟩=>?_) hs rfl));obtain⟨j,e,q1,q2,q⟩:=q1;subst e;cases r1 with
 |cons r rr=>cases rr;obtain⟨t,rfl⟩:=r;exact call_range_1 (lK I1 (by lia) (by lia) q1 q2 (by simpa using q))
def vt (wi:TI)(g:TG)(tb:TS):TS:=fun D σ H=>wi σ H fun J H1=>∃ W:Nat->Nat->St->Hp->Prop,(∃ m,W 0 m σ H1)/\∀ i m σ H,W i m σ H->
 (J.stop i H/\D.nx σ H)\/(J.go i H/\∃ N:St->Hp->Prop,(∀ σ' H',N σ' H'->∃ m',m'<m/\W (i+1) m' σ' H')/\∀ x H',J.pS i H x H'->g x σ H' fun σ2 H2=>tb { D with nx:=N,ct:=N,bk:=D.nx } σ2 H2)
noncomputable def dM (fp:List Addr)(h:Heap):List (Addr×Obj):=fp.filterMap fun b=>(h.get? b).map fun o=>(b,o)
theorem bG (hb:b∈fp)(e:h.get? b=some o):(b,o)∈dM fp h:=x5.mpr ⟨b,hb,by rw[e];rfl⟩
theorem kR (hp:p∈dM fp h):p.1∈fp/\h.get? p.1=some p.2:=by
 obtain⟨b,hb,e⟩:=x5.mp hp;cases q:h.get? b with
 |none=>rw[q]at e;cases e
 |some o=>rw[q]at e;have e':(b,o)=p:=jP e;subst e';exact⟨hb,q⟩
theorem Inv.pinned (I:Inv X aa σ H s)(hf:∀ b∈fp,bU X aa H b)(ho:∀ b∈fp,∃ o,s.heap.get? b=some o/\∀ v,o.data≠.cell v):Inv X (aa++dM fp s.heap) σ H s:=
 I.kH fun p hp=>(xW.mp hp).elim (fun z=>I.pin p (bX _ z)) fun z=>by
  obtain⟨hb,e⟩:=kR z;obtain⟨f0,f1,f2,_⟩:=hf p.1 hb
  grind
theorem Inv.c0 (I:Inv X (aa++pl) σ H s):Inv X aa σ H s:=I.kH fun p hp=>I.pin p (bX _ (xy _ hp))
theorem qK (hp:PassesOwn (model X.prog X.w) X.A X.env X.xe)(hc:X.calm=true)(hi:PI X tg iter wi)(hg:PG X tg g)(hb:lB X body tb)
 (hs:autoParam (∀ x,foldedSetIterable iter X.env x=pure x) yn._auto_1):PS X (.For tg iter body [] pos) (vt wi g tb):=by
 intro aa s σ H D I h;refine wpAny_For (ce (hi aa s σ H _ I h) fun v s1 h1=>ce h1 fun itv s2 h2=>?_) hs;obtain⟨it,fp,tn,J,H2,e,I2,T,st2,f2,W,⟨m0,w0⟩,turn⟩:=h2;subst e;have stat:∀{H':Hp},(∀ b∈fp,H' b=none)->∀ b∈fp,bU X aa H' b:=fun hn b hb=>⟨hn b hb,(f2 b hb).2⟩;refine codeAny_forLoop_any (fun n s'=>∃ i σ' H',Inv X aa σ' H' s'/\tn i s'.heap/\(∀ b∈fp,H' b=none)/\W i n σ' H') ?_ m0 ⟨0,σ,H2,I2,st2,fun b hb=>(f2 b hb).1,w0⟩;rintro n s3 ⟨i,σ3,H3,I3,st3,fr3,w3⟩;rcases turn i n σ3 H3 w3 with⟨stop,qn⟩|⟨go,N,hN,step⟩
 .refine xF hp (ce (T.done X rfl rfl rfl hc i aa s3 σ3 H3 X.xe I3 (stat fr3) st3 stop) fun r s4 ⟨hr,I4⟩=>?_);subst hr;exact xE ⟨σ3,H3,I4,qn⟩
 .refine xF hp (ce (T.item X rfl rfl rfl hc i aa s3 σ3 H3 X.xe I3 (stat fr3) st3 go) fun r s4 ⟨u,hr,h4⟩=>?_);subst hr;refine xF hp (ce h4 fun _ s5 ⟨x,H5,I5,r5,y5,st5,fr5⟩=>?_);have I5':=I5.pinned (stat fr5) (T.obj _ _ st5);refine xF hp (ce (hg _ s5 σ3 H5 x u _ I5' r5 (step x H5 y5)) fun _ s6 ⟨σ6,H6,I6,q6⟩=>?_);refine xF hp (ce (hb _ s6 σ6 H6 _ I6 q6) fun f s7 q7=>?_);have again:∀{σ7:St}{H7:Hp},Inv X (aa++dM fp s5.heap) σ7 H7 s7->N σ7 H7->∃ m,m<n/\∃ i σ' H',Inv X aa σ' H' s7/\tn i s7.heap/\(∀ b∈fp,H' b=none)/\W i m σ' H':=fun{σ7 H7} I7 n7=>by obtain⟨m',hm,w7⟩:=hN σ7 H7 n7;refine⟨m',hm,i+1,σ7,H7,I7.c0,T.keep _ _ _ st5 fun b hb o e=>(I7.pin (b,o) (bX _ (bX _ (bG hb e)))).1,fun b hb=>?_,w7⟩;obtain⟨o,e,d⟩:=T.obj _ _ st5 b hb;exact(I7.pin (b,o) (bX _ (bX _ (bG hb e)))).2.1
  cases f with
  |next=>obtain⟨σ7,H7,I7,n7⟩:=q7;exact again I7 n7
  |cont=>obtain⟨σ7,H7,I7,n7⟩:=q7;exact again I7 n7
  |brk=>obtain⟨σ7,H7,I7,q7⟩:=q7;exact⟨σ7,H7,I7.c0,q7⟩
  |ret v=>obtain⟨x7,σ7,H7,I7,r7,q7⟩:=q7;exact⟨x7,σ7,H7,I7.c0,r7,q7⟩
end
abbrev R2:=V->V->Hp->VK->Prop
def OpR (X:Cx)(f:yh->yh->Sem yh)(r:R2):Prop:=
 ∀(aa:List (Addr×Obj))(s:ye)(σ:St)(H:Hp)(x y:V)(v u:yh)(Q:VK),Inv X aa σ H s->RelV x v->RelV y u->r x y H Q->
  wpAny (model X.prog X.w) X.A (f v u) (EP X aa σ Q) X.xe s
def vv (X:Cx)(f:yh->Sem yh)(r:V->Hp->VK->Prop):Prop:=
 ∀(aa:List (Addr×Obj))(s:ye)(σ:St)(H:Hp)(x:V)(v:yh)(Q:VK),Inv X aa σ H s->RelV x v->r x H Q->
  wpAny (model X.prog X.w) X.A (f v) (EP X aa σ Q) X.xe s
def CallR (X:Cx)(f:yh)(r:List V->Hp->VK->Prop):Prop:=
 ∀(aa:List (Addr×Obj))(s:ye)(σ:St)(H:Hp)(xs:List V)(us:List yh)(Q:VK),Inv X aa σ H s->Vals xs us->r xs H Q->
  wpAny (model X.prog X.w) X.A (call f us) (EP X aa σ Q) X.xe s
def vw (X:Cx)(r:V->Hp->(Bool->Hp->Prop)->Prop):Prop:=
 ∀(aa:List (Addr×Obj))(s:ye)(σ:St)(H:Hp)(x:V)(v:yh)(Q:Bool->Hp->Prop),Inv X aa σ H s->RelV x v->r x H Q->
  wpAny (model X.prog X.w) X.A (truthy v) (TP X aa σ Q) X.xe s
noncomputable def lL (r:R2)(ta tb:TE):TE:=fun σ H Q=>ta σ H fun x H1=>tb σ H1 fun y H2=>r x y H2 Q
noncomputable def wI (r:V->Hp->VK->Prop)(ta:TE):TE:=fun σ H Q=>ta σ H fun x H1=>r x H1 Q
noncomputable def rI (C:Int->Int->Prop)(g:Int->Int->V):R2:=fun x y H Q=>∃ i j,x=.int i/\y=.int j/\C i j/\Q (g i j) H
noncomputable def pX (g:Int->Int->V):R2:=fun x y H Q=>∃ i j,x=.int i/\y=.int j/\Q (g i j) H
noncomputable def rU (g:Int->V):V->Hp->VK->Prop:=fun x H Q=>∃ i,x=.int i/\Q (g i) H
section
theorem qL (ha:PE X a ta)(hb:PE X b tb){R:V->V->Hp->Prop}(I:Inv X aa σ H s)
 (h:ta σ H fun x H1=>tb σ H1 fun y H2=>R x y H2) {Q:yh->ye->Prop} {f:yh->yh->Sem yh}
 (hf:∀ v u s2 x y H2,Inv X aa σ H2 s2->RelV x v->RelV y u->R x y H2->wX X (f v u) Q X.xe s2) :
 wX X (eval a X.env) (fun v s₁=>wX X (eval b X.env) (fun u s₂=>wX X (f v u) Q X.xe s₂) X.xe s₁) X.xe s:=by
 refine ce (ha aa s σ H _ I h) fun v s1 ⟨x,H1,I1,r1,q1⟩=>?_;refine ce (hb aa s1 σ H1 _ I1 q1) fun u s2 ⟨y,H2,I2,r2,q2⟩=>?_;exact hf v u s2 x y H2 I2 r1 r2 q2
theorem jV {op:Operator}(ho:OpR X (binaryOp op) r)(ha:PE X a ta)(hb:PE X b tb):PE X (.BinOp a op b pos) (lL r ta tb):=by intro aa s σ H Q I h;exact wpAny_BinOp (qL ha hb I h fun v u s2 x y H2 I2 rx ry q=>ho aa s2 σ H2 x y v u Q I2 rx ry q)
theorem tx (ho:vv X (unaryOp op) r)(ha:PE X a ta):PE X (.UnaryOp op a pos) (wI r ta):=by intro aa s σ H Q I h;exact UnaryOp_ (ce (ha aa s σ H _ I h) fun v s1 ⟨x,H1,I1,r1,q1⟩=>ho aa s1 σ H1 x v Q I1 r1 q1)
theorem vx {f:yh->yh->Sem yh}{C:Int->Int->Prop}{g:Int->Int->Int}
 (rule:∀(i j:Int)(t u:Tok)(s:ye)(Q:yh->ye->Prop)(E:yh->ye->Prop),C i j->Q (.int (g i j) s.toks) { s with toks:=s.toks+1 }->wX X (f (.int i t) (.int j u)) Q E s) :
 OpR X f (rI C fun i j=>.int (g i j)):=by
 intro aa s σ H x y v u Q I rx ry h;obtain⟨i,j,rfl,rfl,hc,q⟩:=h;obtain⟨t,rfl⟩:=rx;obtain⟨t',rfl⟩:=ry;exact rule i j t t' s _ _ hc ⟨.int (g i j),H,I.tok _,⟨_,rfl⟩,q⟩
theorem tz {f:yh->yh->Sem yh}{g:Int->Int->Int}
 (rule:∀(i j:Int)(t u:Tok)(s:ye)(Q:yh->ye->Prop)(E:yh->ye->Prop),Q (.int (g i j) s.toks) { s with toks:=s.toks+1 }->wX X (f (.int i t) (.int j u)) Q E s) :
 OpR X f (pX fun i j=>.int (g i j)):=by
 intro aa s σ H x y v u Q I rx ry h;obtain⟨i,j,rfl,rfl,q⟩:=h;obtain⟨t,rfl⟩:=rx;obtain⟨t',rfl⟩:=ry;exact rule i j t t' s _ _ ⟨.int (g i j),H,I.tok _,⟨_,rfl⟩,q⟩
theorem qM {f:yh->yh->Sem yh}{g:Int->Int->Bool}
 (rule:∀(i j:Int)(t u:Tok)(s:ye)(Q:yh->ye->Prop)(E:yh->ye->Prop),Q (.bool (g i j)) s->wX X (f (.int i t) (.int j u)) Q E s) :
 OpR X f (pX fun i j=>.bl (g i j)):=by
 intro aa s σ H x y v u Q I rx ry h;obtain⟨i,j,rfl,rfl,q⟩:=h;obtain⟨t,rfl⟩:=rx;obtain⟨t',rfl⟩:=ry;exact rule i j t t' s _ _ ⟨.bl (g i j),H,I,rfl,q⟩
def vy (i j:Int):Prop:=0<j/\j<1073741824
def CMul (i j:Int):Prop:=(-(2 ^ 64)<i/\i<2 ^ 64)\/(-(2 ^ 64)<j/\j<2 ^ 64)
theorem CMul.ok (h:CMul i j):IntMulOk i j:=by
 rcases h with⟨h1,h2⟩|⟨h1,h2⟩
 .exact .of_left (intBits_le_64 h1 h2)
 .exact .of_right (intBits_le_64 h1 h2)
theorem op_add:OpR X (binaryOp .Add) (pX fun i j=>.int (i+j)):=tz fun _ _ _ _ _ _ _ q=>add_int q
theorem qN:OpR X (binaryOp .Sub) (pX fun i j=>.int (i-j)):=tz fun _ _ _ _ _ _ _ q=>sub_int q
theorem qO:OpR X (binaryOp .Mult) (rI CMul fun i j=>.int (i*j)):=vx fun _ _ _ _ _ _ _ hc q=>mul_int q hc.ok
theorem oi:OpR X (binaryOp .FloorDiv) (rI vy fun i j=>.int (i / j)):=vx fun i j _ _ _ _ _ hc q=>by have h1:(0:Int)<j:=hc.1;have h2:j<1073741824:=hc.2;exact floordiv_int (by lia) (by rw[Int.fdiv_eq_ediv_of_nonneg i (by lia)];exact q) (.inl (PyProof.noPylong_small (by lia)))
theorem qP:OpR X (binaryOp .Mod) (rI (fun _ j=>0<j) fun i j=>.int (i % j)):=vx fun i j _ _ _ _ _ hc q=>by have h1:(0:Int)<j:=hc;exact mod_int' (by lia) (by rw[Int.fmod_eq_emod_of_nonneg i (by lia)];exact q)
theorem wJ {f:yh->Sem yh}{g:Int->Int}
 (rule:∀(i:Int)(t:Tok)(s:ye)(Q:yh->ye->Prop)(E:yh->ye->Prop),Q (.int (g i) s.toks) { s with toks:=s.toks+1 }->wX X (f (.int i t)) Q E s) :
 vv X f (rU fun i=>.int (g i)):=by
 intro aa s σ H x v Q I rx h;obtain⟨i,rfl,q⟩:=h;obtain⟨t,rfl⟩:=rx;exact rule i t s _ _ ⟨.int (g i),H,I.tok _,⟨_,rfl⟩,q⟩
theorem qQ:vv X (unaryOp .USub) (rU fun i=>.int (-i)):=wJ fun _ _ _ _ _ q=>neg_int q
end
section
theorem tD:OpR X (compareOp .Lt) (pX fun i j=>.bl (decide (i<j))):=qM fun _ _ _ _ _ _ _ q=>lt_int q
theorem tE:OpR X (compareOp .Gt) (pX fun i j=>.bl (decide (j<i))):=qM fun _ _ _ _ _ _ _ q=>gt_int q
theorem tF:OpR X (compareOp .GtE) (pX fun i j=>.bl (decide (j<=i))):=qM fun _ _ _ _ _ _ _ q=>ge_int q
theorem OpR.or (h:OpR X f r)(h':OpR X f r'):OpR X f (fun x y H Q=>r x y H Q\/r' x y H Q):=by
 intro aa s σ H x y v u Q I rx ry q;rcases q with q|q
 .exact h aa s σ H x y v u Q I rx ry q
 .exact h' aa s σ H x y v u Q I rx ry q
theorem cm (b:Expr)(h:autoParam (op≠.In) yj._auto_1)(h2:autoParam (op≠.NotIn) yj._auto_1):behindInMarks op b=false:=by
 have e1:(op==CmpOp.In)=false:=by cases op<;>first|rfl|exact absurd rfl h
 have e2:(op==CmpOp.NotIn)=false:=by cases op<;>first|rfl|exact absurd rfl h2
 cases b<;>simp[behindInMarks,e1,e2]
theorem oj (ho:OpR X (compareOp op) r)(ha:PE X a ta)(hb:PE X b tb)(hm:behindInMarks op b=false):PE X (.Compare a [op] [b] pos) (lL r ta tb):=by intro aa s σ H Q I h;exact wpAny_Compare1 (qL ha hb I h fun v u s2 x y H2 I2 rx ry q=>ho aa s2 σ H2 x y v u Q I2 rx ry q) hm
noncomputable def tG (t:TE):TT:=fun σ H Q=>t σ H fun x H'=>∃ k,x=.bl k/\Q k H'
theorem om (ho:OpR X (compareOp op) r)(ha:PE X a ta)(hb:PE X b tb)(hm:behindInMarks op b=false):PT X (.Compare a [op] [b] pos) (tG (lL r ta tb)):=by intro aa s σ H Q I h;refine wpAny_isTrue_Compare1 (ce (ha aa s σ H _ I h) fun v s1 ⟨x,H1,I1,r1,q1⟩=>ce (hb aa s1 σ H1 _ I1 q1) fun u s2 ⟨y,H2,I2,r2,q2⟩=>ce (ho aa s2 σ H2 x y v u _ I2 r1 r2 q2) fun c s3 ⟨z,H3,I3,r3,k,e,q3⟩=>?_) hm;subst e;cases r3;exact xN ⟨H3,I3,q3⟩
def qR (K:yf)(x:V)(H:Hp)(k:Bool):Prop:=
 match x with
 | .cH=>k=false
 | .bl b=>k=b
 | .int i=>k=(i != 0)
 | .str y=>y.length<=sizeLine/\k=((y.length:Int) != 0)
 | .u5 y=>y.size<=sizeLine/\k=((y.size:Int) != 0)
 | .ref p=>(∃ xs,SqL K H p xs/\k=!xs.isEmpty)\/(∃ xs,SqT K H p xs/\k=!xs.isEmpty)\/∃ kvs,H p=some (.dK kvs)/\k=!kvs.isEmpty
 |_=>False
theorem jk {κ:Type}{kvs:List (κ×V)}{vs:List (κ×yh)}(r:KV kvs vs):(!vs.isEmpty)=!kvs.isEmpty:=by cases r<;>rfl
theorem eZ (r:Vals xs its):(!its.toArray.isEmpty)=!xs.isEmpty:=by cases r<;>simp
theorem dN:(sizeLine:Nat)<2 ^ 63:=by rw[xt];decide
theorem qS:vw X (fun x H Q=>∃ k,qR X.K x H k/\Q k H):=by
 intro aa s σ H x v Q I rx h;obtain⟨k,e,q⟩:=h;have hl:=dN;have hs:sizeLine=16777216:=xt;cases x with
 |cH=>cases rx;have e':k=false:=e;subst e';exact truthy_none ⟨H,I,q⟩
 |bl b=>cases rx;have e':k=b:=e;subst e';exact xN ⟨H,I,q⟩
 |int i=>obtain⟨t,rfl⟩:=rx;have e':k=(i != 0):=e;subst e';exact PySem.P.truthy_int ⟨H,I,q⟩
 |str y=>obtain⟨t,rfl⟩:=rx;obtain⟨hy,e'⟩ : y.length<=sizeLine/\k=((y.length:Int) != 0):=e;subst e';exact PySem.P.truthy_str (by lia) ⟨H,I.tok _,q⟩
 |u5 y=>obtain⟨t,rfl⟩:=rx;obtain⟨hy,e'⟩ : y.size<=sizeLine/\k=((y.size:Int) != 0):=e;subst e';exact PySem.W.truthy_bytes (by lia) ⟨H,I.tok _,q⟩
 |ref p=>
  cases rx;have e':(∃ xs,SqL X.K H p xs/\k=!xs.isEmpty)\/(∃ xs,SqT X.K H p xs/\k=!xs.isEmpty)\/∃ kvs,H p=some (.dK kvs)/\k=!kvs.isEmpty:=e;rcases e' with⟨xs,hx,e'⟩|⟨xs,hx,e'⟩|⟨kvs,hx,e'⟩
  .subst e';obtain⟨its,r,pl,hz⟩:=I.list hx;have bI:=r.length;exact wpAny_truthy_list pl.isList (by simp only[bb];lia) ⟨H,I.tok _,by rw[eZ r];exact q⟩
  .subst e';obtain⟨its,r,pl,hz⟩:=I.tuple hx;have bI:=r.length;exact truthy_tuple pl (by simp only[bb];lia) ⟨H,I.tok _,by rw[eZ r];exact q⟩
  .subst e';obtain⟨hz,hS,vs,r,m⟩ : kvs.length<=sizeLine/\(p==sysModules)=false/\∃ vs,KV kvs vs/\s.heap.DictOf (eO X.prog X.w) p vs:=I.bc p _ hx;have bI:kvs.length=vs.length:=Paired.length r;exact wpAny_truthy_dict hS m (by lia) ⟨H,I.tok _,by rw[jk r];exact q⟩
 |_=>exact(show False from e).elim
theorem lM (ha:PE X a ta)(he:∀ whole,isTrue a X.env whole=(do let v <- whole;standAt a.pos;holding [v] (truthy v))) :
 PT X a (fun σ H Q=>ta σ H fun x H'=>∃ k,qR X.K x H' k/\Q k H'):=by
 intro aa s σ H Q I h;exact isTrue_plain (ce (ha aa s σ H _ I h) fun v s1 ⟨x,H1,I1,r1,q1⟩=>qS aa s1 σ H1 x v Q I1 r1 q1) (he _)
theorem jl:OpR X (binaryOp .Add) (fun x y H Q=>∃ i j,x=.str i/\y=.str j/\i.length+j.length<=sizeLine/\Q (.str (i++j)) H):=by intro aa s σ H x y v u Q I rx ry h;obtain⟨i,j,rfl,rfl,hz,q⟩:=h;obtain⟨t,rfl⟩:=rx;obtain⟨t',rfl⟩:=ry;exact add_str (fun t' tk=>⟨.str (i++j),H,I.tok _,⟨_,rfl⟩,q⟩) hz
theorem jW (r:Vals [x] us):∃ u,us=[u]/\RelV x u:=by
 cases r with
 |cons r1 r2=>cases r2;exact⟨_,rfl,r1⟩
theorem tH (r:Vals [x,y] us):∃ u w',us=[u,w']/\RelV x u/\RelV y w':=by
 cases r with
 |cons r1 r2=>
  cases r2 with
  |cons r3 r4=>cases r4;exact⟨_,_,rfl,r1,r3⟩
end
structure bJ (k:Nat) (A:yi):Prop where
 hd:A.handled=none
 dp:A.depth+3*k+5<recursionLimit
 un:A.units+16*k+200<cLine
theorem bJ.mono (r:bJ k A)(h:j<=k):bJ j A:=⟨r.hd,by have:=r.dp;lia,by have:=r.un;lia⟩
theorem bJ.deeper (r:bJ (k+1) A)(env:Env):bJ k (A.deeper env):=⟨r.hd,by have:=r.dp;show A.depth+1+3*k+5<_;lia,by have:=r.un;show A.units+3+16*k+200<_;lia⟩
theorem bJ.depth (r:bJ k A):A.depth<recursionLimit:=by have:=r.dp;lia
theorem bJ.units (r:bJ k A):A.units+64<cLine:=by have:=r.un;lia
noncomputable def kT:TA:=fun _ H Q=>Q [] H
noncomputable def d9 (ta:TE)(tr:TA):TA:=fun σ H Q=>ta σ H fun x H1=>tr σ H1 fun xs H2=>Q (x::xs) H2
section
theorem aQ:PA X [] kT:=fun _ _ _ _ H Q I h=>Calls.spliced_nil ⟨[],H,I,.nil,h⟩
theorem au (ha:PE X e te)(hr:PA X es t)(hs:autoParam (starEach (e::es) X.env=(false,eval e X.env)::starEach es X.env) yp._auto_1):PA X (e::es) (d9 te t):=by intro pos aa s σ H Q I h;rw[hs];show wpAny _ _ (spliced ((false,eval e X.env)::backTo pos (starEach es X.env))) _ _ s;refine Calls.spliced_cons (ce (ha aa s σ H _ I h) fun u s1 ⟨x,H1,I1,r1,q1⟩=>?_);exact ce (hr pos aa s1 σ H1 _ I1 q1) fun us s2 ⟨xs,H2,I2,r2,q2⟩=>⟨x::xs,H2,I2,.cons r1 r2,q2⟩
def vz (t:TA):TE:=fun σ H Q=>t σ H fun xs H1=>xs.length<=sizeLine/\∀ p,H1 p=none->Q (.ref p) (aX H1 p (.tup xs))
def oo (t:TA):TE:=fun σ H Q=>t σ H fun xs H1=>xs.length<=sizeLine/\∀ p,H1 p=none->Q (.ref p) (aX H1 p (.lst xs))
theorem qT {x1}(h:PA X es t):PE X (.Tuple es x1 pos) (vz t):=by intro aa s σ H Q I hq;refine wpAny_Tuple_spliced (ce (h pos aa s σ H _ I hq) fun us s1 ⟨xs,H1,I1,r,z,q⟩=>⟨by rw[<- r.length];exact z,?_⟩);have hf:H1 s1.heap.objs.size=none:=I1.bc.fresh (bD _);refine⟨.ref s1.heap.objs.size,aX H1 s1.heap.objs.size (.tup xs),I1.laid (t':=s1.toks) (fun b u e=>ba _ e) (bD _) ?_,rfl,q _ hf⟩;exact⟨z,us,r,⟨_,cI _ rfl,rfl,_,rfl⟩⟩
theorem dO (h:PA X es t):PE X (.List es pos) (oo t):=by intro aa s σ H Q I hq;refine wpAny_List_spliced (ce (h pos aa s σ H _ I hq) fun us s1 ⟨xs,H1,I1,r,z,q⟩=>⟨by rw[<- r.length];exact z,?_⟩);have hf:H1 s1.heap.objs.size=none:=I1.bc.fresh (bD _);refine⟨.ref s1.heap.objs.size,aX H1 s1.heap.objs.size (.lst xs),I1.laid (t':=s1.toks) (fun b u e=>ba _ e) (bD _) ?_,rfl,q _ hf⟩;exact⟨z,us,0,r,cI _ rfl⟩
end
abbrev Sp:=List V->Hp->VK->XK->Prop
abbrev jb:=List Env->Hp->ye->XK->yh->ye->Prop
structure lA (P:yg) (w:World) (K:yf) (mg:Str->Option yh) (base:Heap) (A:yi) (outer:List Env) (s:ye) (H:Hp):Prop where
 frames:A.frames=some outer
 mod:Mod K mg base
 bs:∀ b o,base.get? b=some o->s.heap.get? b=some o/\H b=none
 lF:base.objs.size<=s.heap.objs.size
 dn:s.heap.FunFrames base outer
 n6:∀ b∈cM outer,H b=none
 bc:HOk P w H s.heap
 bare:AllBare s.gens
 kt:vk K H
def CE (outer:List Env)(P:yg)(w:World)(H:Hp)(s:ye)(Q:VK)(u:yh)(s':ye):Prop:=∃ v H',s'.os=s.os/\AllBare s'.gens/\Un (cM outer) [] H H' s.heap s'.heap/\HOk P w H' s'.heap/\RelV v u/\Q v H'
def CR (CX:jb)(outer:List Env)(P:yg)(w:World)(H:Hp)(s:ye)(Q:VK)(E:XK)(r:Result)(s':ye):Prop:=
 match r with
 | .ok (.ret u)=>CE outer P w H s Q u s'
 | .ok _=>False
 | .error e=>CX outer H s E e s'
structure bC (P:yg) (w:World) (K:yf) (mg:Str->Option yh) (base:Heap) (CX:jb) (k:Nat) (f:Addr) (fd:FuncData) (ps:List Str) (sp:Sp):Prop where
 len:∀ vs H Q E,sp vs H Q E->vs.length=ps.length
 run:∀(A:yi)(outer:List Env)(s:ye)(H:Hp)(args:Args)(us:List yh)(vs:List V)(Q:VK)(E:XK),bJ k A->lA P w K mg base A outer s H->BindsTo s fd args (ps.zip us)->Vals vs us->sp vs H Q E->
  codeAny (model P w) A (.call (.ref f) args) (CR CX outer P w H s Q E) s
theorem bC.imp {P:yg}{w:World}{K:yf}{mg:Str->Option yh}{base:Heap}{CX:jb}(F:bC P w K mg base CX k f fd ps sp)
 (h:∀ vs H Q E,sp' vs H Q E->sp vs H Q E):bC P w K mg base CX k f fd ps sp':=
 ⟨fun vs H Q E q=>F.len vs H Q E (h _ _ _ _ q),fun A outer s H args us vs Q E hr he hb hv hs=>F.run A outer s H args us vs Q E hr he hb hv (h _ _ _ _ hs)⟩
section
theorem Inv.s_ (I:Inv X aa σ H s):lA X.prog X.w X.K X.mg X.base X.A X.stack s H:=⟨I.ok.frames,I.ok.mod,I.bs,nW I.ok.lF I.sz,I.stack,I.hU,I.bc,I.bare,I.kt⟩
theorem Inv.after (I:Inv X aa σ H s)(h:CE X.stack X.prog X.w H s Q u s'):EP X aa σ Q u s':=by obtain⟨v,H',os,bare,un,bc,r,q⟩:=h;obtain⟨hh,g,d,t,os'⟩:=s';obtain rfl:os'=s.os:=os;exact⟨v,H',I.call (h':=hh) (g':=g) (d':=d) (t':=t) (ch:=[]) un bc bare (fun b z=>absurd z (by simp)),r,q⟩
end
noncomputable def lN (sp:Sp)(dvs:List V)(E:XK)(t:TA):TE:=fun σ H Q=>t σ H fun vs H1=>sp (vs++dvs) H1 Q E
def Binds (K:yf)(fd:FuncData)(ps:List Str)(ds:List yh):Prop:=∀(s:ye)(us:List yh),K.In s.heap->(us++ds).length=ps.length->BindsTo s fd ⟨us,[]⟩ (ps.zip (us++ds))
theorem Binds.all {K:yf}(h:∀ us:List yh,us.length=ps.length->bindArgs fd ⟨us,[]⟩=pure (ps.zip us)):Binds K fd ps []:=fun s us _ hl=>by rw[xm]at hl ⊢;exact .of_eq (h us hl)
def cn (CX:jb)(X:Cx)(E:XK):Prop:=∀(aa:List (Addr×Obj))(σ:St)(H:Hp)(s:ye)(e:yh)(s':ye),Inv X aa σ H s->CX X.stack H s E e s'->X.xe e s'
section
theorem lO (F:bC X.prog X.w X.K X.mg X.base CX k f fd ps sp)(hr:bJ k X.A)(hb:Binds X.K fd ps ds)(hd:Vals dvs ds)(hx:cn CX X E)
 (I:Inv X aa σ H s) (r:Vals vs us) (h:sp (vs++dvs) H Q E):wX X (call (.ref f) us) (EP X aa σ Q) X.xe s:=by
 have r2:Vals (vs++dvs) (us++ds):=r.append hd;have hl:(us++ds).length=ps.length:=by rw[<- r2.length];exact F.len _ _ _ _ h
 refine wpAny_call (x6 (F.run X.A X.stack s H ⟨us,[]⟩ (us++ds) (vs++dvs) Q E hr I.s_ (hb s us I.kD hl) r2 h) fun r s' hq=>?_);cases r with
 |error e=>exact hx aa σ H s e s' I hq
 |ok fl=>
  cases fl with
  |ret u=>exact I.after hq
  |next=>exact False.elim hq
  |brk=>exact False.elim hq
  |cont=>exact False.elim hq
theorem oq (F:bC X.prog X.w X.K X.mg X.base CX k f fd ps sp)(hr:bJ k X.A)(hg:Gl X x)(hm:X.mg x=some (.ref f))(hk:PySem.W.keepIn X.K (.ref f)=true)(hb:Binds X.K fd ps ds)(hd:Vals dvs ds)(hx:cn CX X E)
 (ha:PA X (e::es) t) (hdb:autoParam (dB x) yj._auto_1) (he:autoParam (sE X e es) yp._auto_1) (hpl:autoParam (bT X pos es) yp._auto_1) :
 PE X (.Call (.Name x p) (e::es) [] pos) (lN sp dvs E t):=by
 intro aa s σ H Q I h;refine nX (cg I hg hm ?_ hdb);refine x8 (h₀:=X.base) I.ok.mod.qw hk (ce (ha pos aa s σ H _ I h) fun us s1 ⟨vs,H1,I1,r,q⟩=>⟨I1.kD,?_⟩) he hpl;exact lO F hr hb hd hx I1 r q
theorem lP (F:bC X.prog X.w X.K X.mg X.base CX k f fd ps sp)(hr:bJ k X.A)(hg:Gl X x)(hm:X.mg x=some (.ref f))(hk:PySem.W.keepIn X.K (.ref f)=true)(hb:Binds X.K fd ps ds)(hd:Vals dvs ds)(hx:cn CX X E)
 (hdb:autoParam (dB x) yj._auto_1):PE X (.Call (.Name x p) [] [] pos) (lN sp dvs E kT):=by
 intro aa s σ H Q I h;refine nX (cg I hg hm ?_ hdb);exact PySem.W.callWith_K0 I.kD hk (lO (us:=[]) F hr hb hd hx I .nil h)
end
structure bf (N P:List Str) (sc:Scope):Prop where
 kind:sc.kind=.function
 co:sc.isCoroutine=false
 gen:sc.isGenerator=false
 nd:N.Nodup
 pre:N.take P.length=P
 par:∀ x∈P,sc.names.lookup x=some .local\/sc.names.lookup x=some .cell
 sZ:∀ y∈sc.names,y.2≠.free
theorem gg {kindOf:Str->Option NameKind}:∀{binds:List (Str×yh)}{m:Str->Option yh},(∀ v,(x,v)∉binds)->bindL kindOf binds m x=m x
 | [],_,_=>rfl
 |(n,v)::r,m,h=>by
  unfold bindL;rw[gg fun w hw=>h w (xk _ hw)];split
  .have:x≠n:=by rintro rfl;exact h v xD
   simp[this]
  .rfl
theorem gh {kindOf:Str->Option NameKind}:∀{binds:List (Str×yh)}{m:Str->Option yh},(∀ v,(x,v)∉binds)->bindC kindOf binds m x=m x
 | [],_,_=>rfl
 |(n,v)::r,m,h=>by
  unfold bindC;rw[gh fun w hw=>h w (xk _ hw)];split
  .rfl
  .have:x≠n:=by rintro rfl;exact h v xD
   simp[this]
theorem gi {kindOf:Str->Option NameKind}:∀{P:List Str}{vs:List yh}{i:Nat}{m:Str->Option yh},P.Nodup->P[i]?=some x->vs[i]?=some v->kindOf x=some .local->
 bindL kindOf (P.zip vs) m x=some v
 | [],_,_,_,_,h,_,_=>by simp at h
 |_::_,[],_,_,_,_,h,_=>by simp at h
 |p::P,w::vs,0,m,nd,h1,h2,hk=>by simp at h1 h2;subst h1;subst h2;show bindL kindOf ((p,w)::P.zip vs) m p=_;unfold bindL;rw[gg fun v hv=>(xX.mp nd).1 (xY hv).1,da hk];simp
 |p::P,w::vs,i+1,m,nd,h1,h2,hk=>by show bindL kindOf ((p,w)::P.zip vs) m x=_;unfold bindL;exact gi (i:=i) (xX.mp nd).2 (by simpa using h1) (by simpa using h2) hk
theorem gj {kindOf:Str->Option NameKind}:∀{P:List Str}{vs:List yh}{i:Nat}{m:Str->Option yh},P.Nodup->P[i]?=some x->vs[i]?=some v->kindOf x≠some .local->
 bindC kindOf (P.zip vs) m x=some v
 | [],_,_,_,_,h,_,_=>by simp at h
 |_::_,[],_,_,_,_,h,_=>by simp at h
 |p::P,w::vs,0,m,nd,h1,h2,hk=>by simp at h1 h2;subst h1;subst h2;show bindC kindOf ((p,w)::P.zip vs) m p=_;unfold bindC;rw[gh fun v hv=>(xX.mp nd).1 (xY hv).1,fR hk];simp
 |p::P,w::vs,i+1,m,nd,h1,h2,hk=>by show bindC kindOf ((p,w)::P.zip vs) m x=_;unfold bindC;exact gj (i:=i) (xX.mp nd).2 (by simpa using h1) (by simpa using h2) hk
abbrev nS (n:Nat):List Str:=List.replicate n ""
noncomputable def ci (N:List Str)(vs:List V):St:=vs.map some++List.replicate (N.length-vs.length) none
noncomputable def jm (CX:jb)(P:yg)(w:World)(K:yf)(mg:Str->Option yh)(base:Heap)(N:List Str)(qual:Str)(scope:Scope)(f:Addr)(cd:yh)(A:yi)(outer:List Env)(s:ye)(H:Hp)(E:XK):Cx where
 prog:=P
 w:=w
 K:=K
 mg:=mg
 base:=base
 A:=A.deeper (envOfC qual scope s.heap.objs.size f cd)
 N:=N
 s₀:=s
 H₀:=H
 env:=envOfC qual scope s.heap.objs.size f cd
 outer:=outer
 stack:=envOfC qual scope s.heap.objs.size f cd::outer
 ex:=[]
 calm:=true
 fn:=fun _=>true
 pn:=[]
 xe:=fun e s'=>wpAny (model P w) (A.deeper (envOfC qual scope s.heap.objs.size f cd)) (leaving (envOfC qual scope s.heap.objs.size f cd) e) (fun _ s''=>CX outer H s E e s'') (fun e' s''=>CX outer H s E e' s'') s'
theorem h_ {sc:Scope}(h:sc.names.lookup x=some .cell):∃ c,(cellsFrom n sc.names []).lookup x=some c:=by have q:=xM sc.names n [] (.inl h);exact Option.isSome_iff_exists.mp q
theorem gk {CX:jb}{P:yg}{w:World}{K:yf}{mg:Str->Option yh}{base:Heap}{N ps:List Str}{qual:Str}{scope:Scope}
 (S:bf N ps scope) (hd:A.handled=none) (e0:lA P w K mg base A outer s H) (hl:vs.length=ps.length) (r:Vals vs us)
 (x:InCallC s s.heap.objs.size (bindL (envOfC qual scope s.heap.objs.size f cd).kindOf (ps.zip us) fun _=>none) (cellsFrom (s.heap.objs.size+1) scope.names []) (bindC (envOfC qual scope s.heap.objs.size f cd).kindOf (ps.zip us) fun _=>none) s1) :
 Inv (jm CX P w K mg base N qual scope f cd A outer s H E) [] (ci N vs) H s1:=by
 have hpl:ps.length<=N.length:=by have:=congrArg List.length S.pre;rw[xB]at this;lia
 obtain⟨h1,tk,rfl,hk⟩:=x.done;have noA:∀ b:Addr,b∉(jm CX P w K mg base N qual scope f cd A outer s H E).ex:=fun b z=>absurd (show b∈([]:List Addr) from z) (by simp);refine⟨⟨e0.mod,S.kind,rfl,rfl,bD _,fun y z c h1 h2=>?_,fun y hy=>?_,fun y c _ h=>?_,fun _=>hd,Around.frames_deeper e0.frames,.inr ⟨rfl,rfl⟩,fun b z=>absurd z (noA b),e0.bs,e0.lF,fun b _ _=>noA b,fun b z=>absurd z (noA b),e0.dn,e0.n6,e0.kt⟩,
  rfl,e0.bare,Un.kept hk,⟨_,x.toInCall.ns,fun i y v h1 h2 h3=>?_⟩,fun y c h=>⟨_,x.cell y c h⟩,e0.bc.fresh (bD _),fun y c h=>?_,fun p hp=>absurd (show p∈([]:List (Addr×Obj)) from hp) (by simp),e0.bc.kept hk,?_⟩
 .exact name_of_addr x.apart (nR h1) (nR h2)
 .have hy:scope.names.lookup y=some .cell\/scope.names.lookup y=some .free:=hy;rcases hy with hy|hy
  .exact h_ hy
  .exact absurd rfl (S.sZ _ (nR hy))
 .exact Nat.le_of_lt (x.above y c (nR h))
 .have hi:i<vs.length:=by
   grind [ci]
  have ha:vs[i]?=some v:=by grind [ci]
  obtain⟨u,hu,rv⟩:=r.get ha;have hp:ps[i]?=some y:=by rw[<- S.pre,List.getElem?_take_of_lt (by lia)];exact h1
  have ndP:ps.Nodup:=by rw[<- S.pre];exact S.nd.sublist (List.take_sublist _ _)
  refine⟨u,rv,?_⟩;rcases S.par y (xA hp) with k|k
  .exact .inl ⟨k,gi ndP hp hu k⟩
  .obtain⟨c,e⟩:=h_ (n:=s.heap.objs.size+1) k;refine .inr ⟨.inl k,c,e,?_⟩;have q:=x.cell y c e;rw[gj ndP hp hu (by show scope.names.lookup y≠_;rw[k];decide)]at q;exact q
 .exact e0.bc.fresh (Nat.le_of_lt (x.above y c (nR h)))
 .unfold ci;show _=N.length;rw[xG,eB,xQ];lia
theorem tI {CX:jb}{P:yg}{w:World}{K:yf}{mg:Str->Option yh}{base:Heap}{k:Nat}{f:Addr}{name qual:Str}{params:Arguments}{body:List Stmt}{scope:Scope}{dV kV doc pm cdv ct oc:yh}{an od:Option Addr}
 {osl:Array (Option yh)} {N ps:List Str} {sp:Sp} (lk:K.lookup f=some ⟨oc,od,.func (PySem.W.fnOf name qual params body scope dV kV doc pm an cdv ct),osl⟩) (hcd:PySem.W.codeIn K cdv qual=true) (S:bf N ps scope)
 (len:∀ vs H Q E,sp vs H Q E->vs.length=ps.length)
 (hbody:∀(A:yi)(outer:List Env)(s:ye)(H:Hp)(vs:List V)(Q:VK)(E:XK),bJ k (A.deeper (envOfC qual scope s.heap.objs.size f cdv))->sp vs H Q E->
   ∃ t,lB (jm CX P w K mg base N qual scope f cdv A outer s H E) body t/\t { nx:=fun _ H'=>Q .cH H',rt:=Q } (ci N vs) H) :
 bC P w K mg base CX (k+1) f (PySem.W.fnOf name qual params body scope dV kV doc pm an cdv ct) ps sp:=by
 refine⟨len,fun A outer s H args us vs Q E hr e0 hb r hsp=>?_⟩;have hl:=len _ _ _ _ hsp;have KX:K.In s.heap:=e0.mod.qw.keeps fun b o e=>(e0.bs b o e).1;have lim:s.heap.NoLimit:=e0.mod.nolimit.keeps fun b o e=>(e0.bs b o e).1;have hkind:∀ y∈ps.zip us,scope.names.lookup y.1=some .local\/(scope.names.lookup y.1=some .cell/\((cellsFrom (s.heap.objs.size+1) scope.names []).lookup y.1).isSome=true):=fun⟨n,v⟩ hy=>by
  rcases S.par n (xY hy).1 with q|q
  .exact .inl q
  .exact .inr ⟨q,xM _ _ _ (.inl q)⟩
 refine codeAny_call_function hr.depth (KX _ _ lk) rfl S.co S.gen rfl (PySem.W.codeRec_of KX hcd) (hb _ _ _ _ ?_);refine wpAny_newFunctionEnv_cells S.kind hkind fun env he s1 x=>?_;subst he;refine⟨lim.keeps x.toInCall.keep,codeAny_func ?_⟩;obtain⟨t,ht,hq⟩:=hbody A outer s H vs Q E (hr.deeper _) hsp;have I:Inv (jm CX P w K mg base N qual scope f cdv A outer s H E) [] (ci N vs) H s1:=gk S hr.hd e0 hl r x;refine fO (ht [] s1 (ci N vs) H _ I hq) (fun fl s' hs=>?_) fun e s' hs=>hs;have fin:∀{σ':St}{H':Hp}{v:V}{u:yh},Inv (jm CX P w K mg base N qual scope f cdv A outer s H E) [] σ' H' s'->RelV v u->Q v H'->CE outer P w H s Q u s':=fun{σ' H' v u} J rv q=>⟨v,H',J.os,J.bare,J.base,J.bc,rv,q⟩;cases fl with
 |ret u=>obtain⟨v,σ',H',J,rv,q⟩:=hs;exact fin J rv q
 |next=>obtain⟨σ',H',J,q⟩:=hs;exact fin (v:=V.cH) (u:=Value.none) J rfl q
 |brk=>obtain⟨_,_,_,q⟩:=hs;exact False.elim q
 |cont=>obtain⟨_,_,_,q⟩:=hs;exact False.elim q
section
variable {X:Cx}{x:Str}{p pos:Pos}{e:Expr}{es:List Expr}{t:TA}{id T:String}{r:List V->Hp->VK->Prop}
noncomputable def vA (r:List V->Hp->VK->Prop)(t:TA):TE:=fun σ H Q=>t σ H fun vs H1=>r vs H1 Q
theorem aT (hc:CallR X (.builtin id) r) (hg:Gl X x) (hm:X.mg x=none) (hv:bootBuiltins x=some (.builtin id)) (ha:PA X (e::es) t) (hn:autoParam (x≠"__name__") yj._auto_1) (hdb:autoParam (dB x) yj._auto_1)
 (he:autoParam (starEach (e::es) X.env=(false,eval e X.env)::starEach es X.env) yp._auto_1) (hpl:autoParam (bT X pos es) yp._auto_1):PE X (.Call (.Name x p) (e::es) [] pos) (vA r t):=by
 intro aa s σ H Q I h;refine nX (eY I hg hm hv ?_ hn hdb);exact PyProof.Rows.callWith_builtin1 (ce (ha pos aa s σ H _ I h) fun us s1 ⟨vs,H1,I1,r1,q1⟩=>hc aa s1 σ H1 vs us Q I1 r1 q1) he hpl
theorem kU (hc:CallR X (.type T) r) (hg:Gl X x) (hm:X.mg x=none) (hv:bootBuiltins x=some (.type T)) (ha:PA X (e::es) t) (hn:autoParam (x≠"__name__") yj._auto_1) (hdb:autoParam (dB x) yj._auto_1)
 (he:autoParam (starEach (e::es) X.env=(false,eval e X.env)::starEach es X.env) yp._auto_1) (hpl:autoParam (bT X pos es) yp._auto_1):PE X (.Call (.Name x p) (e::es) [] pos) (vA r t):=by
 intro aa s σ H Q I h;refine nX (eY I hg hm hv ?_ hn hdb);exact xr (ce (ha pos aa s σ H _ I h) fun us s1 ⟨vs,H1,I1,r1,q1⟩=>hc aa s1 σ H1 vs us Q I1 r1 q1) he hpl
end
end L2
namespace HT
open PySem PyProof.Rows
section
open PySem.SeqAt
open PySem.AutoSeq1 (wpAny_loadPart')
open PySem.MeetsSeq PySem.MeetsSeq2 PySem.MeetsSeq3
end
section
theorem cat_tup (ht:IsTup s.heap t vs.toArray)(hb:IsTup s.heap b ws.toArray)(hv:vs≠[])
 (h1:ws=[]->Q (.ref t) s) (h2:ws≠[]->Q (.ref s.heap.objs.size) { s with heap:=s.heap.push { cls:=.type "tuple",data:=.seq (vs++ws).toArray } })
 (hsz:vs.length+ws.length<=sizeLine):wpAny (model prog w) A (binaryOp .Add (.ref t) (.ref b)) Q E s:=by
 obtain⟨⟨cls,dd,data,sl⟩,ho,hc,n,hd⟩:=id ht;obtain⟨⟨cls2,dd2,data2,sl2⟩,ho2,hc2,n2,hd2⟩:=id hb;simp only at hc hd hc2 hd2;subst hc hd hc2 hd2;have e:vs.toArray++ws.toArray=(vs++ws).toArray:=by simp
 by_cases hw:ws=[]
 .exact concat_meets ⟨_,ho,rfl⟩ ⟨_,ho2,rfl⟩ noFill_tuple_add seq_tuple_add PySem.F.slot_tuple_add PySem.F.entry_tuple_add (PySem.F.args_tuple_add_2 _ _)
   (tuple_addW1 t b vs.toArray ws.toArray n n2 dd dd2 sl sl2 (by simpa using hv) (by simp[hw])) ⟨ho,ho2,h1 hw⟩
 .refine concat_meets ⟨_,ho,rfl⟩ ⟨_,ho2,rfl⟩ noFill_tuple_add seq_tuple_add PySem.F.slot_tuple_add PySem.F.entry_tuple_add (PySem.F.args_tuple_add_2 _ _)
   (tuple_addW2 t b vs.toArray ws.toArray n n2 dd dd2 sl sl2 (by simpa using hv) (by simpa using hw) (by rw[bb,bb];exact hsz)) ⟨ho,ho2,?_⟩
  rw[e];exact h2 hw
noncomputable def sIx (n d:Nat):Option Int->Nat
 |none=>d
 |some v=>if v<0 then (v+(n:Int)).toNat else min v.toNat n
theorem qU (n d:Nat)(hd:d<=n)(o:Option Int):sIx n d o<=n:=by
 cases o with
 |none=>exact hd
 |some v=>
  show(if v<0 then (v+(n:Int)).toNat else min v.toNat n)<=n
  grind
theorem jX (v:Int)(n d:Nat):(if v<0 then max (v+(n:Int)) 0 else min v (n:Int))=((sIx n d (some v):Nat):Int):=by
 show(if v<0 then max (v+(n:Int)) 0 else min v (n:Int))=(((if v<0 then (v+(n:Int)).toNat else min v.toNat n):Nat):Int)
 grind
theorem jn (lo hi:Option Int)(n:Nat):Builtin.Slice.sliceAdjust lo hi 1 (n:Int)=(((sIx n 0 lo:Nat):Int),((sIx n n hi:Nat):Int)):=by
 have h1:¬ ((1:Int)<0):=by lia
 unfold Builtin.Slice.sliceAdjust;simp only[h1,yc];refine Prod.ext ?_ ?_
 .cases lo with
  |none=>rfl
  |some v=>exact jX v n 0
 .cases hi with
  |none=>rfl
  |some v=>exact jX v n n
theorem jo (i j:Nat):Builtin.Slice.slicePlaces (i:Int) (j:Int) 1=j-i:=by
 unfold Builtin.Slice.slicePlaces
 grind
theorem e8 (p:IsPart v o)(h:Q o s):wpAny (model prog w) A (Builtin.Slice.slicePartIndex v) Q E s:=by
 cases p with
 |none=>exact slicePart_none h
 |int i t=>exact slicePart_int h
theorem sliceApplied_gen {lo hi:Option Int}{n:Nat}{Q:Int×Int×Nat->ye->Prop}(hs:s.heap.IsSliceOf sl vl vu .none)(pl:IsPart vl lo)(pu:IsPart vu hi)
 (h:Q (((sIx n 0 lo:Nat):Int),1,sIx n n hi-sIx n 0 lo) s):wpAny (model prog w) A (Builtin.Slice.sliceApplied (.ref sl) (pure (n:Int))) Q E s:=by
 obtain⟨os,hos,hcs,hds⟩:=id hs;unfold Builtin.Slice.sliceApplied Builtin.Slice.sliceFields;refine ae (ae (xi hos hds (x:=vl) rfl (ae (xi hos hds (x:=vu) rfl (ae (xi hos hds (x:=.none) rfl (bp ?_)))))));refine ae (slicePart_none ?_);show wpAny _ _ (if ((1:Int)==0)=true then _ else _) _ _ s;rw[fR (by decide)];refine ae (e8 pl (ae (e8 pu (ae (bp ?_)))));show wpAny _ _ (match Builtin.Slice.sliceAdjust lo hi 1 (n:Int) with|(lo,hi)=>pure (lo,(1:Int),Builtin.Slice.slicePlaces lo hi 1)) _ _ s;rw[jn lo hi n];show wpAny _ _ (pure (((sIx n 0 lo:Nat):Int),(1:Int),Builtin.Slice.slicePlaces ((sIx n 0 lo:Nat):Int) ((sIx n n hi:Nat):Int) 1)) _ _ s;rw[jo];exact bp h
theorem lQ (xs:Array yh)(i k:Nat):((List.range k).filterMap fun(m:Nat)=>xs[((i:Int)+(m:Int)*1).toNat]?).toArray=((xs.toList.drop i).take k).toArray:=by
 have e:(fun(m:Nat)=>xs[((i:Int)+(m:Int)*1).toNat]?)=fun m=>xs[i+m]?:=by grind
 rw[e];have:=pick_run xs i k;rw[List.filterMap_map]at this;have e2:((fun x=>xs[x]?) ∘ fun x=>i+x)=fun m=>xs[i+m]?:=rfl;rw[e2]at this;rw[this]
theorem getItem_tuple_cut {vl vu:yh}{lo hi:Option Int}{Q:yh->ye->Prop}(ht:IsTup s.heap t items)(hs:s.heap.IsSliceOf sl vl vu .none)(pl:IsPart vl lo)(pu:IsPart vu hi)
 (hw:¬ (sIx items.size 0 lo=0/\sIx items.size items.size hi=items.size))
 (h:Q (.ref s.heap.objs.size) { s with heap:=s.heap.push { cls:=.type "tuple",data:=.seq ((items.toList.drop (sIx items.size 0 lo)).take (sIx items.size items.size hi-sIx items.size 0 lo)).toArray } })
 (hsz:items.size<=sizeLine):wpAny (model prog w) A (getItem (.ref t) (.ref sl)) Q E s:=by
 have htake:sizeOk (.seq ((items.toList.drop (sIx items.size 0 lo)).take (sIx items.size items.size hi-sIx items.size 0 lo)).toArray):=by
  show((items.toList.drop (sIx items.size 0 lo)).take (sIx items.size items.size hi-sIx items.size 0 lo)).toArray.size<=sizeLine
  grind
 have hj:sIx items.size items.size hi<=items.size:=qU _ _ (bD _) hi;obtain⟨os,hos,hcs,hds⟩:=id hs;have hTs:s.TypeIs (.ref sl) "slice":=⟨os,hos,hcs⟩;unfold getItem
 try with_reducible refine xo ?_
 first|refine ae (bp ?_)|skip
 refine ae (wpAny_sequenceKey ht.typeIs (by decide) ?_);refine ae (xH (name:=Str.ofString "__getitem__") ht.typeIs eF
  (wpAny_call_entry eF ht.typeIs entry_tuple_getitem ?_ (args_tuple_getitem _ _)))
 show wpAny _ _ (Builtin.Tuple.tupleItemsOf (.ref t) >>= _) _ _ s;refine ae (tupleItemsOf_ ht ?_);refine ae (wpAny_typeOf hTs ?_);rw[da (by decide)];refine ae (sliceApplied_gen hs pl pu ?_);have hno:¬ ((((sIx items.size 0 lo:Nat):Int)==0&&(1:Int)==1&&(sIx items.size items.size hi-sIx items.size 0 lo)==items.size)=true):=by grind
 show wpAny _ _ (if (((sIx items.size 0 lo:Nat):Int)==0&&(1:Int)==1&&(sIx items.size items.size hi-sIx items.size 0 lo)==items.size)=true then _ else _) _ _ s;rw[fR hno,lQ]
 first
  |exact ae (m:=Builtin.Tuple.tupleExact _) (gH (bp ⟨_,rfl,bp h⟩) htake)
  |exact ae (m:=Builtin.Tuple.tupleExact _) (gH (ae (bp (bp ⟨_,rfl,bp h⟩))) htake)
  |exact ae (ae (m:=Builtin.Tuple.tupleExact _) (gH (bp (bp ⟨_,rfl,bp h⟩)) htake))
  |exact ae (ae (m:=Builtin.Tuple.tupleExact _) (gH (bp ⟨_,rfl,bp h⟩) htake))
end
end HT
namespace L2
open PySem PySem.Spec PyProof.Rows
abbrev TO:=St->Hp->(Option Int->Hp->Prop)->Prop
def PO (X:Cx)(e:Option Expr)(t:TO):Prop:=
 ∀(aa:List (Addr×Obj))(s:ye)(σ:St)(H:Hp)(Q:Option Int->Hp->Prop),Inv X aa σ H s->t σ H Q->
  wpAny (model X.prog X.w) X.A (evalPart e X.env) (fun u s'=>∃ o H',Inv X aa σ H' s'/\IsPart u o/\Q o H') X.xe s
noncomputable def ot:TO:=fun _ H Q=>Q none H
noncomputable def tJ (t:TE):TO:=fun σ H Q=>t σ H fun x H1=>∃ i,x=.int i/\Q (some i) H1
section
variable {X:Cx}{e:Expr}{te:TE}{lo hi:Option Expr}{tl th:TO}{pos p2:Pos}
theorem ou:PO X none ot:=by intro aa s σ H Q I h;rw[evalPart_none];exact bp ⟨none,H,I,.none,h⟩
theorem ov (h:PE X e te):PO X (some e) (tJ te):=by intro aa s σ H Q I hw;rw[evalPart_some];refine ce (h aa s σ H _ I hw) fun u s1 ⟨x,H1,I1,r1,q1⟩=>?_;obtain⟨i,rfl,q⟩:=q1;obtain⟨t,rfl⟩:=r1;exact⟨some i,H1,I1,.int i t,q⟩
def SlR (X:Cx)(r:V->Option Int->Option Int->Hp->VK->Prop):Prop:=
 ∀(aa:List (Addr×Obj))(s:ye)(σ:St)(H:Hp)(x:V)(v vl vu:yh)(lo hi:Option Int)(sl:Addr)(Q:VK),Inv X aa σ H s->RelV x v->s.heap.IsSliceOf sl vl vu .none->IsPart vl lo->IsPart vu hi->r x lo hi H Q->
  ∃ T id,typeLookup (.type T) "__getitem__"=pure (some (.builtin id))/\s.TypeIs v T/\wpAny (model X.prog X.w) X.A (getItem v (.ref sl)) (EP X aa σ Q) X.xe s
theorem SlR.or (h:SlR X r)(h':SlR X r'):SlR X (fun x lo hi H Q=>r x lo hi H Q\/r' x lo hi H Q):=by
 intro aa s σ H x v vl vu lo hi sl Q I rx hs pl pu q;rcases q with q|q
 .exact h aa s σ H x v vl vu lo hi sl Q I rx hs pl pu q
 .exact h' aa s σ H x v vl vu lo hi sl Q I rx hs pl pu q
noncomputable def wK (r:V->Option Int->Option Int->Hp->VK->Prop)(te:TE)(tl th:TO):TE:=fun σ H Q=>te σ H fun x H1=>tl σ H1 fun l H2=>th σ H2 fun u H3=>r x l u H3 Q
theorem lR (hr:SlR X r)(he:PE X e te)(hl:PO X lo tl)(hu:PO X hi th):PE X (.Subscript e (.Slice lo hi none p2) pos) (wK r te tl th):=by intro aa s σ H Q I h;refine Subscript_ (ce (he aa s σ H _ I h) fun v s1 ⟨x,H1,I1,r1,q1⟩=>?_);refine wpAny_Slice (ce (hl aa s1 σ H1 _ I1 q1) fun vl s2 ⟨l,H2,I2,pl,q2⟩=>ce (hu aa s2 σ H2 _ I2 q2) fun vu s3 ⟨u,H3,I3,pu,q3⟩=>?_);rw[evalPart_none];refine bp ?_;have I4:Inv X aa σ H3 { s3 with heap:=s3.heap.push { cls:=.type "slice",data:=.fields #[vl,vu,.none] } }:=I3.kept (t':=s3.toks) fun b ob q=>ba _ q;obtain⟨T,id,hT,ht,hg⟩:=hr aa { s3 with heap:=s3.heap.push { cls:=.type "slice",data:=.fields #[vl,vu,.none] } } σ H3 x v vl vu l u s3.heap.objs.size Q I4 r1 (Heap.IsSliceOf.new ..) pl pu q3;show wX X (subscriptTail e (.Slice lo hi none p2) v (.ref s3.heap.objs.size)) (EP X aa σ Q) X.xe { s3 with heap:=s3.heap.push { cls:=.type "slice",data:=.fields #[vl,vu,.none] } };exact tail_any (ops:=[.ref s3.heap.objs.size,v]) ht hT hg (by with_unfolding_all rfl)
def ia (xs:List V)(lo hi:Option Int):List V:=(xs.drop (HT.sIx xs.length 0 lo)).take (HT.sIx xs.length xs.length hi-HT.sIx xs.length 0 lo)
theorem d_ (xs:List V)(lo hi:Option Int):(ia xs lo hi).length<=xs.length:=by unfold ia;rw[xB,List.length_drop];lia
def vD (K:yf):V->Option Int->Option Int->Hp->VK->Prop:=fun x lo hi H Q=>∃ a xs,x=.ref a/\SqT K H a xs/\
 ¬ (HT.sIx xs.length 0 lo=0/\HT.sIx xs.length xs.length hi=xs.length)/\∀ p,H p=none->Q (.ref p) (aX H p (.tup (ia xs lo hi)))
theorem sl_tup:SlR X (vD X.K):=by
 intro aa s σ H x v vl vu lo hi sl Q I rx hs pl pu h;obtain⟨a,xs,rfl,hx,hw,q⟩:=h;cases rx;obtain⟨its,r,ht,hz⟩:=I.tuple hx;have bI:its.toArray.size=xs.length:=by rw[bb];exact r.length.symm
 refine⟨"tuple",_,eF.lookup,ht.typeIs,?_⟩;refine HT.getItem_tuple_cut ht hs pl pu (by rw[bI];exact hw) ?_ (by rw[bI];exact hz);rw[bI];refine⟨.ref s.heap.objs.size,_,I.laid (t':=s.toks) (o:=.tup (ia xs lo hi)) (fun b ob q=>ba _ q) (bD _) ?_,rfl,q _ (I.bc.fresh (bD _))⟩;exact⟨nW (d_ xs lo hi) hz,_,(r.drop (HT.sIx xs.length 0 lo)).take (HT.sIx xs.length xs.length hi-HT.sIx xs.length 0 lo),IsTup.new _ _⟩
def tL (K:yf):R2:=fun x y H Q=>∃ a b xs ys,x=.ref a/\y=.ref b/\SqT K H a xs/\SqT K H b ys/\xs≠[]/\xs.length+ys.length<=sizeLine/\
 (ys=[]->Q (.ref a) H)/\(ys≠[]->∀ p,H p=none->Q (.ref p) (aX H p (.tup (xs++ys))))
theorem Vals.hJ (r:Vals xs us):us=[]↔xs=[]:=by
 cases r with
 |nil=>simp
 |cons _ _=>simp
theorem op_catT:OpR X (binaryOp .Add) (tL X.K):=by intro aa s σ H x y v u Q I rx ry h;obtain⟨a,b,xs,ys,rfl,rfl,ha,hb,hx,hz,q1,q2⟩:=h;cases rx;cases ry;obtain⟨its,r1,p1,_⟩:=I.tuple ha;obtain⟨its2,r2,p2,_⟩:=I.tuple hb;refine HT.cat_tup p1 p2 (fun z=>hx (r1.hJ.mp z)) (fun z=>⟨.ref a,H,I,rfl,q1 (r2.hJ.mp z)⟩) (fun z=>?_) (by rw[<- r1.length,<- r2.length];exact hz);refine⟨.ref s.heap.objs.size,_,I.laid (t':=s.toks) (o:=.tup (xs++ys)) (fun b ob q=>ba _ q) (bD _) ?_,rfl,q2 (fun w=>z (r2.hJ.mpr w)) _ (I.bc.fresh (bD _))⟩;exact⟨by rw[xG];exact hz,_,r1.append r2,IsTup.new _ _⟩
end
noncomputable def lS (n:Nat)(i:Int):Option Nat:=if 0<=i then (if i<n then some i.toNat else none) else if -(n:Int)<=i then some (i+n).toNat else none
def cq {α:Type}(xs:List α)(i:Int):Option α:=(lS xs.length i).bind fun j=>xs[j]?
theorem ox (h:lS n i=some j):seqIndex? i n=some j/\j<n/\-(n:Int)<=i/\i<n:=by
 unfold lS at h;by_cases h0:0<=i
 .rw[da h0]at h;by_cases h1:i<n
  .rw[da h1]at h;have e:i.toNat=j:=jP h;exact⟨by rw[seqIndex_of h0 h1,e],by lia,by lia,h1⟩
  .rw[fR h1]at h;cases h
 .rw[fR h0]at h;by_cases h1:-(n:Int)<=i
  .rw[da h1]at h;have e:(i+n).toNat=j:=jP h;exact⟨by rw[seqIndex_neg (by lia) h1,e],by lia,h1,by lia⟩
  .rw[fR h1]at h;cases h
theorem gL {α:Type}{xs:List α}{i:Int}{v:α}(h:cq xs i=some v):∃ j,seqIndex? i xs.length=some j/\xs[j]?=some v/\j<xs.length/\-(xs.length:Int)<=i/\i<xs.length:=by
 unfold cq at h;cases e:lS xs.length i with
 |none=>rw[e]at h;cases h
 |some j=>rw[e]at h;obtain⟨h1,h2,h3,h4⟩:=ox e;exact⟨j,h1,h,h2,h3,h4⟩
theorem oy {α:Type}{xs:List α}{j:Nat}{v:α}(h:xs[j]?=some v):cq xs (j:Int)=some v:=by grind [lS,cq]
def gM (b:Expr):Prop:=∀ o i,subscripted b false o i=operate [o,i] (getItem o i)
def IxR (X:Cx)(r:R2):Prop:=
 ∀(value slice:Expr)(aa:List (Addr×Obj))(s:ye)(σ:St)(H:Hp)(x y:V)(v u:yh)(Q:VK),Inv X aa σ H s->RelV x v->RelV y u->r x y H Q->
  subscripted slice false v u=operate [v,u] (getItem v u)->wpAny (model X.prog X.w) X.A (subscriptTail value slice v u) (EP X aa σ Q) X.xe s
def wL (X:Cx)(id:String)(r:V->List V->Hp->VK->Prop):Prop:=
 ∀(aa:List (Addr×Obj))(s:ye)(σ:St)(H:Hp)(x:V)(xs:List V)(v:yh)(us:List yh)(Q:VK),Inv X aa σ H s->RelV x v->Vals xs us->r x xs H Q->
  wpAny (model X.prog X.w) X.A (call (.builtin id) (v::us)) (EP X aa σ Q) X.xe s
section
variable {X:Cx}
theorem IxR.or (h:IxR X r)(h':IxR X r'):IxR X (fun x y H Q=>r x y H Q\/r' x y H Q):=by
 intro value slice aa s σ H x y v u Q I rx ry q hs;rcases q with q|q
 .exact h value slice aa s σ H x y v u Q I rx ry q hs
 .exact h' value slice aa s σ H x y v u Q I rx ry q hs
theorem lT (hr:IxR X r)(ha:PE X a ta)(hb:PE X b tb)(hs:gM b):PE X (.Subscript a b pos) (lL r ta tb):=by intro aa s σ H Q I h;exact Subscript_ (qL ha hb I h fun v u s2 x y H2 I2 rx ry q=>hr a b aa s2 σ H2 x y v u Q I2 rx ry q (hs _ _))
def oz (K:yf):R2:=fun x y H Q=>∃ p xs i v,x=.ref p/\y=.int i/\SqL K H p xs/\cq xs i=some v/\Q v H
def tM (K:yf):R2:=fun x y H Q=>∃ p xs i v,x=.ref p/\y=.int i/\SqT K H p xs/\cq xs i=some v/\Q v H
def tO:R2:=fun x y H Q=>∃ z i c,x=.str z/\y=.int i/\z.length<=sizeLine/\cq z.cps.toList i=some c/\Q (.str ⟨#[c]⟩) H
theorem ix_list:IxR X (oz X.K):=by
 intro value slice aa s σ H x y v u Q I rx ry h hs;obtain⟨p,xs,i,z,rfl,rfl,hq,he,q⟩:=h;cases rx;obtain⟨t,rfl⟩:=ry;obtain⟨its,r,pl,hz⟩:=I.list hq;obtain⟨j,h1,h2,h3,h4,h5⟩:=gL he;obtain⟨w,ew,rw'⟩:=r.get h2;have hl:=r.length;have hn:=dN;have fin:EP X aa σ Q w s:=⟨z,H,I,rw',q⟩;by_cases h0:0<=i
 .have hj:i.toNat=j:=by rw[seqIndex_of h0 h5]at h1;exact jP h1
  exact item_listR pl.isList h0 (by lia) (by rw[hj];simpa using ew) fin hs
 .have hj:(i+(its.toArray.size:Int)).toNat=j:=by rw[seqIndex_neg (by lia) h4]at h1;rw[bb,<- hl];exact jP h1
  exact subscriptTail_builtinR (x:=w) pl.isList.typeIs slot_list_getitem.lookup
   (wpAny_getItem_list_neg (Q:=fun r s'=>r=w/\EP X aa σ Q r s') pl.isList (by lia) (by rw[bb]<;>lia) (by lia) (by rw[hj];simpa using ew) ⟨rfl,fin⟩) hs
theorem ix_tup:IxR X (tM X.K):=by
 intro value slice aa s σ H x y v u Q I rx ry h hs;obtain⟨p,xs,i,z,rfl,rfl,hq,he,q⟩:=h;cases rx;obtain⟨t,rfl⟩:=ry;obtain⟨its,r,pl,hz⟩:=I.tuple hq;obtain⟨j,h1,h2,h3,h4,h5⟩:=gL he;obtain⟨w,ew,rw'⟩:=r.get h2;have hl:=r.length;have hn:=dN;have fin:EP X aa σ Q w s:=⟨z,H,I,rw',q⟩;exact subscriptTail_builtinR (x:=w) pl.typeIs slot_tuple_getitem.lookup
  (getItem_tuple (j:=j) (Q:=fun r s'=>r=w/\EP X aa σ Q r s') pl (by lia) (by lia) (by rw[bb,<- hl];exact h1) (by simpa using ew) ⟨rfl,fin⟩) hs
theorem qV:IxR X tO:=by
 intro value slice aa s σ H x y v u Q I rx ry h hs;obtain⟨z,i,c,rfl,rfl,hz,he,q⟩:=h;obtain⟨t,rfl⟩:=rx;obtain⟨t',rfl⟩:=ry;obtain⟨j,h1,h2,h3,h4,h5⟩:=gL he;have hl:z.cps.toList.length=z.length:=by simp[Str.length]
 rw[hl]at h1 h4 h5;have hn:=dN;exact tail_any (typeIs_str s z t) slot_str_getitem.lookup (getItem_str (c:=c) (by have e1:decide (i < -(2 ^ 63:Int))=false:=xl (by lia);have e2:decide (i>=2 ^ 63)=false:=xl (by lia);rw[e1,e2,Bool.or_false]) (by rw[h1];simpa using h2) ⟨.str ⟨#[c]⟩,H,I.tok _,⟨_,rfl⟩,q⟩) hs
def wM (K:yf):R2:=fun x y H Q=>oz K x y H Q\/tM K x y H Q\/tO x y H Q
theorem qW:IxR X (wM X.K):=ix_list.or (ix_tup.or qV)
theorem gO (lo hi:Option Int)(n:Nat):(sliceBounds lo hi none n).1=((HT.sIx n 0 lo:Nat):Int)/\(sliceBounds lo hi none n).2.1=((HT.sIx n n hi:Nat):Int)/\(sliceBounds lo hi none n).2.2=1:=by
 refine⟨?_,?_,rfl⟩
 .cases lo with
  |none=>simp[sliceBounds,HT.sIx]
  |some i=>
   simp only[sliceBounds,HT.sIx,Option.getD_none,show(1:Int)>0 by decide,x9]
   grind
 .cases hi with
  |none=>simp[sliceBounds,HT.sIx]
  |some i=>
   simp only[sliceBounds,HT.sIx,Option.getD_none,show(1:Int)>0 by decide,x9]
   grind
theorem f7 (its:List yh)(lo hi:Option Int):slicePick its.toArray lo hi none=((its.drop (HT.sIx its.length 0 lo)).take (HT.sIx its.length its.length hi-HT.sIx its.length 0 lo)).toArray:=by obtain⟨h1,h2,h3⟩:=gO lo hi its.toArray.size;unfold slicePick;rw[h1,h2,h3];simp only[sliceRange_one,pick_run,bb]<;>rfl
def vE (K:yf):V->Option Int->Option Int->Hp->VK->Prop:=fun x lo hi H Q=>∃ a xs,x=.ref a/\SqL K H a xs/\∀ p,H p=none->Q (.ref p) (aX H p (.lst (ia xs lo hi)))
theorem sl_list:SlR X (vE X.K):=by intro aa s σ H x v vl vu lo hi sl Q I rx hs pl pu h;obtain⟨a,xs,rfl,hx,q⟩:=h;cases rx;obtain⟨its,r,ht,hz⟩:=I.list hx;have bI:=r.length;refine⟨"list",_,slot_list_getitem.lookup,ht.isList.typeIs,?_⟩;refine wpAny_getItem_list_slice ht.isList hs pl pu .none (by simp) ?_ (by rw[bb]<;>lia);rw[f7,<- bI];refine⟨.ref s.heap.objs.size,_,I.laid (t':=s.toks) (o:=.lst (ia xs lo hi)) (fun b ob q=>ba _ q) (bD _) ?_,rfl,q _ (I.bc.fresh (bD _))⟩;exact⟨nW (d_ xs lo hi) hz,_,0,(r.drop (HT.sIx xs.length 0 lo)).take (HT.sIx xs.length xs.length hi-HT.sIx xs.length 0 lo),cI _ rfl⟩
theorem call_len_seq:CallR X (.builtin "len") (fun xs H Q=>∃ p ys,xs=[.ref p]/\(SqL X.K H p ys\/SqT X.K H p ys)/\Q (.int ys.length) H):=by
 intro aa s σ H xs us Q I r h;obtain⟨p,ys,rfl,hq,q⟩:=h;obtain⟨u,rfl,rx⟩:=jW r;cases rx;have hn:=dN;rcases hq with hq|hq
 .obtain⟨its,r',pl,hz⟩:=I.list hq;have bI:=r'.length;exact Calls.call_len_list pl.isList (by simp only[bb]<;>lia) ⟨.int ys.length,H,I.tok _,⟨s.toks+1,by rw[bb,bI]⟩,q⟩
 .obtain⟨its,r',pl,hz⟩:=I.tuple hq;have bI:=r'.length;exact len_tuple pl (by simp only[bb]<;>lia) ⟨.int ys.length,H,I.tok _,⟨s.toks+1,by rw[bb,bI]⟩,q⟩
theorem gP:CallR X (.builtin "len") (fun xs H Q=>∃ z,xs=[.str z]/\z.length<=sizeLine/\Q (.int z.length) H):=by intro aa s σ H xs us Q I r h;obtain⟨z,rfl,hz,q⟩:=h;obtain⟨u,rfl,t,rfl⟩:=jW r;have hn:=dN;exact len_str (by lia) ⟨.int z.length,H,I.tok _,⟨_,rfl⟩,q⟩
theorem CallR.or (h:CallR X f r)(h':CallR X f r'):CallR X f (fun xs H Q=>r xs H Q\/r' xs H Q):=by
 intro aa s σ H xs us Q I rs q;rcases q with q|q
 .exact h aa s σ H xs us Q I rs q
 .exact h' aa s σ H xs us Q I rs q
theorem gQ:CallR X (.type "list") (fun xs H Q=>∃ p ys,xs=[.ref p]/\(SqL X.K H p ys\/SqT X.K H p ys)/\∀ l,H l=none->Q (.ref l) (aX H l (.lst ys))):=by
 intro aa s σ H xs us Q I r h;obtain⟨p,ys,rfl,hq,q⟩:=h;obtain⟨u,rfl,rx⟩:=jW r;cases rx;have fin:∀(its:List yh),Vals ys its->ys.length<=sizeLine->∀(h':Heap)(c':Nat),(∀ b o',s.heap.get? b=some o'->h'.get? b=some o')->
  h'.get? s.heap.objs.size=some { cls:=.type "list",dict:=none,data:=.seq its.toArray c',slots:=#[] }->EP X aa σ Q (.ref s.heap.objs.size) { s with heap:=h' }:=fun its r' hz h' c' kp e=>
  ⟨.ref s.heap.objs.size,_,I.laid (t':=s.toks) kp (bD _) (show ObjOk X.prog X.w _ h' _ (.lst ys) from⟨hz,its,c',r',e⟩),rfl,q _ (I.bc.fresh (bD _))⟩
 rcases hq with hq|hq
 .obtain⟨its,r',pl,hz⟩:=I.list hq;have bI:=r'.length;obtain⟨o,ho,hc,n,hd⟩:=pl.isList;exact call_list_seq p (.inl rfl) ho hc hd (fun h' c' kp e=>fin its r' hz h' c' kp e) (by simp only[bb]<;>lia)
 .obtain⟨its,r',pl,hz⟩:=I.tuple hq;have bI:=r'.length;obtain⟨o,ho,hc,n,hd⟩:=pl;exact call_list_seq p (.inr rfl) ho hc hd (fun h' c' kp e=>fin its r' hz h' c' kp e) (by simp only[bb]<;>lia)
def wu (K:yf)(T:String)(x:V)(H:Hp):Prop:=match x with
 | .str _=>T="str"
 | .int _=>T="int"
 | .ref p=>(T="list"/\∃ xs,SqL K H p xs)\/(T="tuple"/\∃ o,K.lookup p=some o/\o.cls=.type "tuple"/\o.dict=none)\/
  (T="dict"/\((∃ kvs,H p=some (.dK kvs))\/∃ kvs,H p=some (.dT kvs)))\/(T="set"/\∃ S n,H p=some (.set S n))
 |_=>False
theorem qX (I:Inv X aa σ H s)(r:RelV x v)(ty:wu X.K T x H) :
 s.TypeIs v T/\∀ a,v=.ref a->∃ ob,s.heap.get? a=some ob/\ob.dict=none:=by
 cases x with
 |str z=>obtain⟨t,rfl⟩:=r;cases (show T="str" from ty);exact⟨typeIs_str s z t,fun _ e=>nomatch e⟩
 |int i=>obtain⟨t,rfl⟩:=r;cases (show T="int" from ty);exact⟨typeIs_int s i t,fun _ e=>nomatch e⟩
 |ref p=>
  cases r;rcases ty with⟨rfl,xs,hq⟩|⟨rfl,o,hk,hc,hd⟩|⟨rfl,hk⟩|⟨rfl,S,n,hk⟩
  .obtain⟨its,_,pl,_⟩:=I.list hq;refine⟨pl.isList.typeIs,fun a e=>?_⟩;cases e;obtain⟨o,n,e,c,hd,_⟩:=pl;exact⟨o,e,hd⟩
  .refine⟨⟨o,I.kD p o hk,hc⟩,fun a e=>?_⟩;cases e;exact⟨o,I.kD _ o hk,hd⟩
  .have z:∃ o,s.heap.get? p=some o/\o.ExactDict:=by
    rcases hk with⟨kvs,hk⟩|⟨kvs,hk⟩
    .obtain⟨_,_,_,_,o,_,_,e,ex,_⟩:=I.bc p _ hk;exact⟨o,e,ex⟩
    .obtain⟨_,_,_,_,o,_,_,e,ex,_⟩:=I.bc p _ hk;exact⟨o,e,ex⟩
   obtain⟨o,e,ex⟩:=z;refine⟨⟨o,e,ex.1⟩,fun a e2=>?_⟩;cases e2;exact⟨o,e,ex.2.1⟩
  .obtain⟨o,_,_,_,e,ex,_⟩:=I.bc p _ hk;refine⟨⟨o,e,ex.1⟩,fun a e2=>?_⟩;cases e2;exact⟨o,e,ex.2.1⟩
 |_=>exact False.elim ty
noncomputable def wN (K:yf)(T:String)(r:V->List V->Hp->VK->Prop)(to:TE)(t:TA):TE:=fun σ H Q=>to σ H fun x H1=>wu K T x H1/\t σ H1 fun xs H2=>r x xs H2 Q
variable {o e:Expr}{es:List Expr}{to:TE}{t:TA}{name:Str}{apos cpos:Pos}{T id:String}{r:V->List V->Hp->VK->Prop}
theorem tP (pa:PlainAttrs T) (slot:Slot T name id) (hty:typeOf (.builtin id)=pure (.type "method_descriptor")) (hm:wL X id r) (ho:PE X o to) (ha:PA X (e::es) t)
 (hbase:autoParam (attributeBase o name X.env (eval o X.env)=eval o X.env) yp._auto_1)
 (hfew:autoParam (((backTo cpos (starEach (e::es) X.env)).all (fun x=>!x.1)&&(backToKw cpos (keywordEach [] X.env)).all (fun x=>x.1.isSome)
   && decide ((e::es).length+([]:List Keyword).length+(if ([]:List Keyword).isEmpty then 0 else 1)<30))=true) yp._auto_1)
 (hline:autoParam ((apos.endLine==cpos.line)=true) yp._auto_1) (hs:autoParam (starEach (e::es) X.env=(false,eval e X.env)::starEach es X.env) yp._auto_1) (hplain:autoParam (bT X cpos es) yp._auto_1) :
 PE X (.Call (.Attribute o name apos) (e::es) [] cpos) (wN X.K T r to t):=by
 intro aa s σ H Q I h;refine wpAny_Call_method_late hbase hfew hline rfl (ce (ho aa s σ H _ I h) fun v s1 ⟨x,H1,I1,r1,ty,q1⟩=>?_);obtain⟨h1,h2⟩:=qX I1 r1 ty;refine⟨T,id,pa,slot,hty,h1,h2,?_⟩;have hA:=ha cpos aa s1 σ H1 _ I1 q1;rw[hs]at hA ⊢;refine Calls.callWith_builtin (by show(false || (backTo cpos (starEach es X.env)).any (·.1))=false;rw[hplain]<;>rfl) (xV ?_);exact ce hA fun us s2 ⟨vs,H2,I2,r2,q2⟩=>hm aa s2 σ H2 x vs v us Q I2 r1 r2 q2
end
def wO (X:Cx)(id:String)(r:V->List V->Hp->VK->Prop):Prop:=
 ∀(aa:List (Addr×Obj))(s:ye)(σ:St)(H:Hp)(x:V)(xs:List V)(v:yh)(us:List yh)(Q:VK),Inv X aa σ H s->RelV x v->Vals xs us->r x xs H Q->
  wpAny (model X.prog X.w) X.A (call (.builtin id) (v::us)) (EP X aa σ Q) X.xe s
theorem Vals.one {x:V}{us:List yh}(h:Vals [x] us):∃ u,us=[u]/\RelV x u:=jW h
section
theorem Inv.wl {its its':List yh}{f:Array yh->Array yh}(I:Inv X aa σ H s)(hH:H l=some (.lst xs))
 (e:s.heap.get? l=some { cls:=.type "list",data:=.seq its.toArray n }) (hf:f its.toArray=its'.toArray) (hv:Vals ys its') (hz:ys.length<=sizeLine) :
 Inv X aa σ (aX H l (.lst ys)) { s with heap:=s.heap.update l (Obj.mapSeq f),toks:=t' }:=by
 have q:=PySem.IsL.update e f;rw[hf]at q;refine I.write (x:=l) (e:=l) (by rw[hH];exact trivial) (.inl rfl) (fun b' u hb hu=>(kM s.heap (Obj.mapSeq f) (xg hb)).trans hu) ⟨_,q⟩ ?_;exact⟨hz,its',_,hv,q⟩
theorem Inv.u7 (I:Inv X aa σ H s)(hv:Vals ys its)(hz:ys.length<=sizeLine) :
 Inv X aa σ (aX H s.heap.objs.size (.lst ys)) { s with heap:=s.heap.push { cls:=.type "list",data:=.seq its.toArray },toks:=t' }:=
 I.laid (fun _ _ q=>ba _ q) (bD _) ⟨hz,its,0,hv,cI _ rfl⟩
theorem Inv.fresh (I:Inv X aa σ H s):H s.heap.objs.size=none:=I.bc.fresh (bD _)
theorem Inv.td (I:Inv X aa σ H s) (hH:H l=some (.lst xs)):xs.length<=sizeLine/\∃(its:List yh)(n:Nat),Vals xs its/\xs.length=its.length/\s.heap.get? l=some { cls:=.type "list",data:=.seq its.toArray n }:=by obtain⟨z,its,n,r,e⟩:=I.bc l _ hH;exact⟨z,its,n,r,r.length,e⟩
end
section
def oA:V->List V->Hp->VK->Prop:=fun x vs H Q=>∃ l xs y,x=.ref l/\vs=[y]/\H l=some (.lst xs)/\xs.length<sizeLine/\Q .cH (aX H l (.lst (xs++[y])))
theorem dP:wO X "list.append" oA:=by intro aa s σ H x vs v us Q I rx rv h;obtain⟨l,xs,y,rfl,rfl,hH,hz,q⟩:=h;cases rx;obtain⟨u,rfl,ru⟩:=rv.one;obtain⟨z,its,n,r,hl,e⟩:=I.td hH;refine call_meets F.slot_list_append ⟨_,e,rfl⟩ F.entry_list_append (F.args_list_append_2 _ _) (PySem.list_append l its.toArray n u (by rw[bb];lia)) ⟨e,?_⟩;refine⟨.cH,_,I.wl (its':=its++[u]) hH e (by simp) (r.append (.cons ru .nil)) ?_,rfl,q⟩;rw[xG,List.length_singleton];lia
def lU:R2:=fun x y H Q=>∃ l b xs zs,x=.ref l/\y=.ref b/\H l=some (.lst xs)/\H b=some (.lst zs)/\xs.length+zs.length<=sizeLine/\∀ p,H p=none->Q (.ref p) (aX H p (.lst (xs++zs)))
theorem jp:OpR X (binaryOp .Add) lU:=by
 intro aa s σ H x y v u Q I rx ry h;obtain⟨l,b,xs,zs,rfl,rfl,hH,hB,hz,q⟩:=h;cases rx;cases ry;obtain⟨z,its,n,r,hl,e⟩:=I.td hH;obtain⟨z2,its2,n2,r2,hl2,e2⟩:=I.td hB;refine PySem.P.add_list e e2 ?_ (by rw[bb,bb];lia);have ea:its.toArray++its2.toArray=(its++its2).toArray:=by simp
 rw[ea];exact⟨.ref _,_,I.u7 (t':=s.toks) (r.append r2) (by rw[xG];lia),rfl,q _ I.fresh⟩
end
structure M1 (X:Cx) (o:Expr) (m:Str) (apos:Pos) (e:Expr) (cpos:Pos):Prop where
 base:attributeBase o m X.env (eval o X.env)=eval o X.env
 xc:((backTo cpos (starEach [e] X.env)).all (fun x=>!x.1)&&(backToKw cpos (keywordEach [] X.env)).all (fun x=>x.1.isSome)
  && decide (([e]:List Expr).length+([]:List Keyword).length+(if ([]:List Keyword).isEmpty then 0 else 1)<30))=true
 line:(apos.endLine==cpos.line)=true
 trees:backTo cpos (starEach [e] X.env)=[(false,eval e X.env)]
end L2
namespace Att
open PySem PySem.W PySem.Calls PyProof.Rows
theorem eI:∀(ns:List Int)(vs:List yh),WellAll P h vs (ns.map WData.int)->IntsAre vs ns:=by
 intro ns;induction ns with
 |nil=>intro vs w;rw[List.map_nil]at w;cases w;exact .nil
 |cons n ns ih=>
  intro vs w;rw[xI]at w;cases w with
  |cons a b=>cases a;exact .cons _ _ (ih _ b)
theorem kW {l:OpenLaw}{n:Nat}(hn:l.most=some n){P:Params}
 (hpre:l.row.toRowW.claim.pre args=true) (hwl:WellAll P h vals args) :
 ∃ a vs ns,vals=[Value.ref a]/\args=[WData.list (ns.map WData.int)]/\h.get? a=some { cls:=.type "list",data:=.seq vs.toArray }/\IntsAre vs ns/\ns.length<=n:=by
 have hsh:WShape.hasAll [] args [.list .int]=true:=(pre_splitW hpre).1;have hc:l.pre.holds [] { args:=args }=true:=(pre_splitW hpre).2;obtain⟨d,r,rfl,h1,h2⟩:=hasAllW_cons hsh;obtain rfl:=hasAllW_nil h2;obtain⟨xs,rfl,h3⟩:=hasW_list h1;obtain⟨ns,rfl⟩:=items_int h3;have bI:ns.length<=n:=by
  unfold OpenLaw.pre at hc;have h4:(WTm.not (.lt (.lit (.int (n:Int))) (.len (.arg 0)))).holds [] { args:=[.list (ns.map .int)] }=true:=by have h4:=(holds_andW hc).1;rw[hn]at h4;exact h4
  have h5:=condW_of h4 (w_not (w_lt w_lit (w_len_list (w_arg rfl))))
  grind
 cases hwl with
 |cons w1 w2=>
  cases w2;cases w1 with
  |list ho wf=>exact⟨_,_,ns,rfl,rfl,ho,eI ns _ wf,bI⟩
theorem kX (l:OpenLaw)(args:List WData):l.row.toRowW.claim.post args (.bool true) args=true:=
 postW_of (r:=l.row.toRowW) (X:=(true==true))
  (show WShape.has [] (.bool true) .bool=true by first|rfl|decide|simp[WShape.has,WShape.arms,WShape.armsAll])
  (show(WTm.eq .res (.lit (.bool true))).value [] { args:=args,res:=some (.bool true),after:=args }=some (.bool (true==true)) from w_eq_bool (w_res rfl) w_lit) rfl
theorem attach_call {l:OpenLaw}{n:Nat}{XP:(Str->Option yh)->Heap->Prop}{YP:World->Heap->Prop}
 (hn:l.most=some n) (hdf:d.params.defaults=[])
 (call:∀(w:World)(s₀ s₁:ye)(mg mb:Str->Option yh)(fa:Addr)(o:Obj)(pm cd doc:yh)(a:Addr)(vs:List yh)(ns:List Int),
   Ground q loose [] XP w s₀ mg mb s₁.heap->YP w s₁.heap->
   s₁.heap.get? fa=some o->o.data=.func (docDef d.name d.params d.body d.scope pm cd doc)->s₁.heap.CodeRec cd d.name->mg d.name=some (.ref fa)->
   s₁.heap.get? a=some { cls:=.type "list",data:=.seq vs.toArray }->IntsAre vs ns->ns.length<=n->s₁.gens=#[]->
   codeAny (model l.prog w) callerA (.call (.ref fa) ⟨[.ref a],[]⟩) (fun r s'=>r=.ok (.ret (.bool true))/\OldK s₁.heap s'.heap/\s'.os=s₁.os/\AllBare s'.gens) s₁) :
 WalkO q loose XP YP l.row.toRowW d [] (fun f vs=>PySem.call f vs):=by
 intro w s₀ s₁ mg mb G Y fa o pm cd doc dV kV ho hd hcd hD hmg hg args vals as hpre hlay hrd hwl hlo;obtain rfl:dV=.none:=Dflts.none hD hdf;obtain rfl:kV=.none:=Dflts.noKw hD;obtain⟨a,vs,ns,rfl,rfl,hobj,hints,bI⟩:=kW hn hpre hwl;refine enter_call (x6 (call w s₀ s₁ mg mb fa o pm cd doc a vs ns G Y ho (fd_plain hd) hcd hmg hobj hints bI hg) fun r s' hq=>?_);obtain⟨rfl,h2,h3,h4⟩:=hq;exact⟨.inl ⟨.bool true,.bool true,[],rfl,fun _=>rfl,.bool true,kX l _,fun _=>⟨List.Pairwise.nil,fun _ hm=>(nomatch hm)⟩⟩,h2,h3,h4⟩
end Att
namespace L2
open PySem PySem.Spec PyProof.Rows
noncomputable def aU (s:Stmt):Arguments:=match s with
 | .FunctionDef _ a _ _ _ _ _ _ _ _=>a
 |_=>{ posonlyargs:=[],args:=[],vararg:=none,kwonlyargs:=[],kw_defaults:=[],kwarg:=none,defaults:=[] }
noncomputable def aN (s:Stmt):List Stmt:=match s with
 | .FunctionDef _ _ b _ _ _ _ _ _ _=>b
 |_=>[]
noncomputable def ar (s:Stmt):Scope:=match s with
 | .FunctionDef _ _ _ _ _ _ sc _ _ _=>sc
 |_=>{ kind:=.function,names:=[],isGenerator:=false,isCoroutine:=false }
noncomputable abbrev E0:XK:=fun _ _ _=>False
structure sW (K:yf) (x qual:Str) (st:Stmt) (f:Addr) (fd:FuncData):Prop where
 ex:∃(oc:yh)(od:Option Addr)(kV doc pm:yh)(an:Option Addr)(cdv ct:yh)(osl:Array (Option yh)),
  fd=PySem.W.fnOf x qual (aU st) (aN st) (ar st) .none kV doc pm an cdv ct/\K.lookup f=some ⟨oc,od,.func fd,osl⟩/\PySem.W.codeIn K cdv qual=true
 kp:PySem.W.keepIn K (.ref f)=true
section
variable {K:yf}
theorem sW.binds {x qual:Str}{st:Stmt}(F:sW K x qual st f fd)
 (h:∀(kV doc pm:yh)(an:Option Addr)(cdv ct:yh)(us:List yh),us.length=ps.length->bindArgs (PySem.W.fnOf x qual (aU st) (aN st) (ar st) .none kV doc pm an cdv ct) ⟨us,[]⟩=pure (ps.zip us)):Binds K fd ps []:=by
 obtain⟨oc,od,kV,doc,pm,an,cdv,ct,osl,rfl,lk,hcd⟩:=F.ex;exact .all (h kV doc pm an cdv ct)
theorem qY {x qual:Str}{st:Stmt}{f:Addr}{oc:yh}{od an:Option Addr}{osl:Array (Option yh)}{kV doc pm cdv ct:yh}(l:K.lookup f=some ⟨oc,od,.func (PySem.W.fnOf x qual (aU st) (aN st) (ar st) .none kV doc pm an cdv ct),osl⟩)
 (c:PySem.W.codeIn K cdv qual=true) (k:PySem.W.keepIn K (.ref f)=true):sW K x qual st f (PySem.W.fnOf x qual (aU st) (aN st) (ar st) .none kV doc pm an cdv ct):=⟨⟨oc,od,kV,doc,pm,an,cdv,ct,osl,rfl,l,c⟩,k⟩
end
section
theorem pv (i:Nat){x:Str}{pos:Pos}(hN:autoParam (X.N[i]?=some x) yp._auto_1)(hv:autoParam (vm X.env.scope x) ym._auto_1)(hd:autoParam (dB x) yj._auto_1)
 (hcd:autoParam ((x==("__classdict__" : Str))=false) yj._auto_1):PE X (.Name x pos) (dc i):=lG hN hv hd hcd
end
theorem jq {A B:Prop}(h:B):if false=true then A else B:=by rw[fR Bool.false_ne_true];exact h
theorem lV {A B:Prop}(h:A):if true=true then A else B:=by rw[da rfl];exact h
def Same (H H':Hp):Prop:=∀ b o,H b=some o->H' b=some o
theorem Same.refl (H:Hp):Same H H:=fun _ _ h=>h
theorem Same.trans (a:Same H H1)(b:Same H1 H2):Same H H2:=fun c o h=>b c o (a c o h)
theorem Same.free (e:Same H H')(h:H' l=Option.none):H l=Option.none:=by
 cases q:H l with
 |none=>rfl
 |some o=>rw[e l o q]at h;cases h
theorem dQ {H:Hp}{B h1 h2:Heap}(ok:HOk P w H h1)(hW:∀ b u,H b=some u->∃ o,B.get? b=some o)(s1:B.StaysIn h1)(s2:B.StaysIn h2):HOk P w H h2:=fun a o e=>(ok a o e).stay (fun b u hb q=>by have hb':∃ v,H b=some v:=hb.elim (fun z=>⟨o,by rw[z];exact e⟩) fun z=>⟨_,z⟩;obtain⟨v,hv⟩:=hb';obtain⟨o',ho⟩:=hW b v hv;have:=s1 b o' ho;rw[q]at this;cases this;exact s2 b _ ho) (fun _ q=>q) fun _ _ q=>q
theorem de:∀{o:HO},ObjOk P w H h a o->∃ ob,h.get? a=some ob
 | .lst xs,x=>by obtain⟨_,_,_,_,e⟩:=x;exact⟨_,e⟩
 | .tup xs,x=>by obtain⟨_,_,_,⟨_,e,_⟩⟩:=x;exact⟨_,e⟩
 | .dK kvs,x=>by obtain⟨_,_,_,_,o,_,_,e,_⟩:=x;exact⟨_,e⟩
 | .dT kvs,x=>by obtain⟨_,_,_,_,o,_,_,e,_⟩:=x;exact⟨_,e⟩
 | .set S n,x=>by obtain⟨o,_,_,_,e,_⟩:=x;exact⟨_,e⟩
 | .ins C dx fs,x=>by obtain⟨_,_,_,e,_⟩:=x;exact⟨_,e⟩
 | .own y,x=>x
 | .xd fs,x=>by obtain⟨_,⟨_,_,_,e,_⟩,_⟩:=x;exact⟨_,e⟩
 | .vi lo hi,x=>by obtain⟨_,_,_,e⟩:=x;exact⟨_,e⟩
 | .bF ob u,x=>by obtain⟨e,_⟩:=x;exact⟨_,e⟩
 | .qu ps,x=>⟨_,(show h.get? a=some _ from x)⟩
 | .met f y,x=>⟨_,(show h.get? a=some _ from x)⟩
 | .ext φ,x=>x.2.1
abbrev cO:List yh:=[.type "ValueError",.type "Exception",.type "BaseException",.type "object"]
def lW (h:Heap) (C:Addr) (bm:List yh):Prop:=∃ N nm q bs hdct sn sub ab col dd k0 k1 k2 k3 k5 mN,h.get? C=some (excClassObj nm q C N bs bm hdct sn sub ab col dd k0 k1 k2 k3 k5 "ValueError.__new__")/\h.Ns N mN/\mN "__init__"=none/\OwnTail h cO bm
noncomputable def f9 (K:yf)(C:Addr):List yh:=match K.lookup C with
 |some ⟨_,_,.cls cd,_⟩=>cd.mro
 |_=>[]
theorem du {K:yf} (X:K.In h) (q:PySem.W.excIn K C cO "ValueError.__new__"=true):∃ bm,f9 K C=.ref C::bm/\lW h C bm:=by
 have q0:=q;unfold PySem.W.excIn at q;unfold f9;cases ho:K.lookup C with
 |none=>rw[ho]at q;cases q
 |some ob=>
  rw[ho]at q;split at q
  .rename_i dd cd sl he;injection he with he;subst he;dsimp only;split at q
   .rename_i D bm k0 k1 k2 k3 n k5 hm hs;rw[hm];simp only[db,yd,Bool.not_eq_true']at q;obtain⟨⟨⟨⟨⟨hD,hn⟩,hdel⟩,ht⟩,bc⟩,hni⟩:=q;refine⟨bm,by rw[hD],?_⟩;obtain⟨nm,bs,mro,ns,qn,hd,sn,sub,ab,col,del⟩:=cd;dsimp only at hm hdel bc hni;have es:sl=#[k0,k1,k2,k3,some (.builtin n),k5]:=by
     cases sl with
     |mk l=>simp only at hs;rw[hs]
    rw[hn]at es;subst es;have hC:=X _ _ ho;rw[hdel,hm,hD]at hC;exact⟨ns,nm,qn,bs,hd,sn,sub,ab,col,dd,k0,k1,k2,k3,k5,_,hC,.of_isNs (PySem.W.isNs_of_in X bc),PySem.W.nsMap_none_of_in X bc hni,PySem.W.tail_of_in X ht⟩
   .cases q
  .cases q
structure XC (K:yf) (mg:Str->Option yh) (c:Str) (C:Addr):Prop where
 gl:mg c=some (.ref C)
 ex:PySem.W.excIn K C cO "ValueError.__new__"=true
section
variable {X:Cx}{c:Str}{C:Addr}{np cpos pos:Pos}{e₀:Expr}{aP:List Expr}{t:TA}
noncomputable def qZ (t:TA)(EW:Hp->Prop):TS:=fun _ σ H=>t σ H fun vs H'=>vs.length<=sizeLine/\EW H'
theorem lX {EW:Hp->Prop}(hc:XC X.K X.mg c C)(hg:Gl X c)(hcalm:X.calm=true)(ha:PA X (e₀::aP) t)
 (hl:∀(aa:List (Addr×Obj))(σ:St)(H:Hp)(s:ye)(h':Heap)(x:Addr)(args:List yh),Inv X aa σ H s->Heap.MadeExcOf s.heap h' x (.ref C) args->EW H->X.xe (.ref x) { s with heap:=h' })
 (he:autoParam (starEach (e₀::aP) X.env=(false,eval e₀ X.env)::starEach aP X.env) yp._auto_1) (hpl:autoParam (bT X cpos aP) yp._auto_1) (hd:autoParam (dB c) yj._auto_1) :
 PS X (.Raise (some (.Call (.Name c np) (e₀::aP) [] cpos)) none pos) (qZ t EW):=by
 intro aa s σ H D I h;obtain⟨bm,_,N,nm,q,bs,hdct,sn,sub,ab,col,dd,k0,k1,k2,k3,k5,mN,hC,hN,hni,TL⟩:=du I.ok.mod.qw hc.ex;have fb:=PySem.F.excBase_ValueError;refine wpAny_Raise_call_subU (C:=C) (nm:=nm) (q:=q) (N:=N) (bs:=bs) (bm:=bm) (hdct:=hdct) (sn:=sn) (sub:=sub) (ab:=ab) (col:=col) (dd:=dd) (k0:=k0) (k1:=k1) (k2:=k2) (k3:=k3) (k5:=k5) (bmB:=cO)
  fb (by decide +kernel) fb (mN:=mN) (TL.hasType fb.hasBase) (I.ok.hd hcalm) ?_ hni (cg I hg hc.gl ⟨rfl,?_⟩ hd)
 .rw[he];show(false || (backTo cpos (starEach aP X.env)).any (·.1))=false;rw[hpl];rfl
 .have ha':=ha cpos aa s σ H _ I h;rw[he]at ha' ⊢;refine xV (fO ha' (fun us s2 ⟨vs,H2,I2,r,q2⟩=>?_) fun _ _ y=>y);exact⟨rfl,by rw[<- r.length];exact q2.1,I2.bk _ _ hC,hN.keeps I2.bk,TL.keeps I2.bk,fun h' e hm=>hl aa σ H2 s2 h' e us I2 hm q2.2⟩
end
section
variable {M:Model}{A:yi}{E:yh->ye->Prop}
theorem f_ (hC:lW s.heap C bm)(hC':lW s.heap C' bm')(he:s.heap.get? e=some oe)(hcls:oe.cls=.ref C)
 (hq:Q ((Value.ref C::bm).contains (.ref C')) s):wpAny M A (excMatches (.ref e) (.ref C')) Q E s:=by
 obtain⟨N,nm,q,bs,hd,sn,sub,ab,col,dd,k0,k1,k2,k3,k5,mN,hC,_,_,_⟩:=hC;obtain⟨N',nm',q',bs',hd',sn',sub',ab',col',dd',k0',k1',k2',k3',k5',mN',hC',_,_,TL'⟩:=hC';obtain⟨h,g,d,t,os⟩:=s;have hcB:(Value.ref C'::bm').contains (.type "BaseException")=true:=by rw[List.contains_cons,TL'.hasType PySem.F.excBase_ValueError.hasBase,Bool.or_true]
 have f:=tc_notTuple;unfold excMatches
 repeat (first|(with_reducible refine wpAny_loadPart_at he ?_;rw[hcls])|with_reducible refine wpAny_loadPart_at hC' ?_|(with_reducible refine wpAny_isSubtype_exc hC' ?_;rw[hcB])|with_reducible refine wpAny_isSubtype_exc hC ?_|wp_step)
 cases hb:(Value.ref C::bm).contains (.ref C')<;>(rw[hb]at hq;wp_walk;exact hq)
end
abbrev TX:=St->Hp->VK->XK->Prop
noncomputable abbrev Cx.caught (X:Cx)(x:Addr):Cx:={ X with A:=X.A.mark (some (.ref x)),calm:=false,xe:=fun _ _=>False }
section
variable {X:Cx}{aa:List (Addr×Obj)}{σ:St}{H:Hp}{s:ye}{x:Addr}
theorem Inv.caught (I:Inv X aa σ H s)(x:Addr):Inv (X.caught x) aa σ H s:=⟨⟨I.ok.mod,I.ok.kind,I.ok.glob,I.ok.blt,I.ok.above,I.ok.inj,I.ok.has,I.ok.qy,(fun z=>by cases z),I.ok.frames,I.ok.sY,I.ok.u3,I.ok.bs,I.ok.lF,I.ok.iN,I.ok.jQ,I.ok.dn,I.ok.n6,I.ok.kt⟩,I.os,I.bare,I.base,I.loc,I.cell,I.free,I.bS,I.pin,I.bc,I.len⟩
theorem Inv.uncaught (I:Inv (X.caught x) aa σ H s)(ok:X.Ok):Inv X aa σ H s:=⟨ok,I.os,I.bare,I.base,I.loc,I.cell,I.free,I.bS,I.pin,I.bc,I.len⟩
theorem Inv.landed {H1:Hp}{s1 s':ye}{B:Heap}{h6:Heap}{C t:Addr}{g6:Array GenState}{l:List Env}(I:Inv X aa σ H1 s1)(os:s'.os=s1.os)(bare:AllBare s'.gens)(un:Un (cM X.stack) [] H1 H s1.heap s'.heap)(bc:HOk X.prog X.w H s'.heap)(fly:Heap.FlyingW B X.stack x (.ref C) (.ref t) s'.heap)
 (hW:∀ b u,H b=some u->∃ o,B.get? b=some o) (unt:∀ b o,s1.heap.get? b=some o->Qt H1 b->b∉cM X.stack->B.get? b=some o) (inB:∀ b o,s1.heap.get? b=some o->b∉cM X.stack->∃ o',B.get? b=some o')
 (st:B.StaysIn h6) (up:s'.heap.UpToSlots h6):Inv X aa σ H { s' with heap:=h6 }:=by
 have nf:∀ b,b∈cM X.stack->∀ o,s'.heap.get? b=some o->∀ vs,o.data≠.fields vs:=fun b hb o e=>by obtain⟨_,o',e',d⟩:=fly.2.2.1.mem hb;rw[e]at e';cases e';exact d
 refine I.qx (ch:=[]) os ⟨fun b o e n hb _=>st b o (unt b o e n hb),fun b o e n hb _=>?_,fun b o e n hx=>un.free b o e n hx,fun b o e hx=>?_,un.cE,un.c7,un.dH⟩ (dQ bc hW fly.1 st) bare fun b z=>absurd z (by simp)
 .obtain⟨sl,e1⟩:=un.slot b o e n hb (by simp);obtain⟨sl',e2⟩:=up b _ e1 (nf b hb _ e1);exact⟨sl',e2⟩
 .by_cases hb:b∈cM X.stack
  .obtain⟨o1,e1⟩:=un.there b o e (by simp);obtain⟨sl',e2⟩:=up b _ e1 (nf b hb _ e1);exact⟨_,e2⟩
  .obtain⟨o',q⟩:=inB b o e hb;exact⟨o',st b o' q⟩
end
end L2
namespace L2
open PySem PySem.Spec PySem.Calls PyProof.Rows
section
variable {prog:yg}{w:World}
abbrev tK (prog:yg)(w:World):=tupleKind (eO prog w)
end
end L2
namespace L2
open PySem PySem.Spec PySem.Calls PyProof.Rows PySem.W Builtin Builtin.ObjectAttr Builtin.Getset_descriptor
theorem jr {K:Frag} {M:Model} {h:Heap} {x C:Addr} {name:Str} {a g:yh} (X:K.In h) (ha:findIn K (.ref C) name=some (some a)) (hg:specialIn K a "__get__"=some (some g)) (hd:takesIn K a=some true):Looks M h (find (.ref x) (.ref C) name) (.bind g a):=(looks_findIn X ha).andThen ((show Looks M h (getOf (some a)) (some g) from looks_specialIn X hg).andThen ((show Looks M h (dataDescriptor? (some a) (some g)) (some (g,a)) from(looks_takesIn X hd).andThen .now).andThen (Looks.tag .now)))
theorem lY {prog:yg} {w:World} {A:yi} {s:ye} {K:Frag} {x C:Addr} {R:Result->ye->Prop} {tp:yh} (X:K.In s.heap) (L:∀ M,Looks M s.heap (typeOf (.ref x)) (.ref C)) (hm:mroIn K C (.type "object")=some true)
 (h:R (.ok (.ret (.ref C))) s):codeAny (model prog w) A (.call (.builtin "getset_descriptor.__get__") ⟨[.builtin "object.__class__",.ref x,tp],[]⟩) R s:=by
 obtain⟨hh,g,dr,t,os⟩:=s;have L0:=L (model prog w);have L1:=looks_mroIn (M:=model prog w) X hm;refine codeAny_call_builtin KF.slot_gs.plain KF.entry_gs (KF.slot_gs.check _ _ _ _ _ _ _ _ KF.type_class (KF.args_gs _ _ _) ?_);unfold Builtin.«getset_descriptor.__get__» descrGet;rw[dga_obj];refine ae (bp ?_);unfold descrGetter descrCheckInstance descrNameAndClass isInstance;simp only[KF.owner_class]
 repeat lk
 refine⟨Code.quiet_builtin _ (by decide +kernel),codeAny_builtin KF.entry_class ?_⟩;unfold Builtin.«object.__class__» shownTypeOf
 repeat lk
 exact h
section
variable {prog:yg}{w:World}{A:yi}{E:yh->ye->Prop}{s:ye}{K:Frag}{x C:Addr}
theorem kY {Q:Option yh->ye->Prop}(X:K.In s.heap)(L0:∀ M,Looks M s.heap (typeOf (.ref x)) (.ref C))
 (hga:findIn K (.ref C) "__getattribute__"=some (some (.builtin "BaseException.__getattribute__"))) (hgt:findIn K (.ref C) "__getattr__"=some none)
 (hf:findIn K (.ref C) "__class__"=some (some (.builtin "object.__class__"))) (hf2:specialIn K (.builtin "object.__class__") "__get__"=some (some (.builtin "getset_descriptor.__get__"))) (hf3:takesIn K (.builtin "object.__class__")=some true)
 (hm:mroIn K C (.type "object")=some true) (hmB:mroIn K C (.type "BaseException")=some true)
 (h:Q (some (.ref C)) { s with toks:=s.toks+1 }):wpAny (model prog w) A (getAttr? (.ref x) "__class__") Q E s:=by
 obtain⟨hh,g,d,t,os⟩:=s;have L00:=L0;have L0:=L0 (model prog w);have L1:=looks_findIn (M:=model prog w) X hga;have L2:=looks_findIn (M:=model prog w) X hgt;have L3:=jr (M:=model prog w) (x:=x) X hf hf2 hf3;unfold getAttr? getAttrBy? getAttrBy;refine ae (wpAny_mkText (ae (wpAny_attempt (xo (ae (L0.at (ae (L1.at ?_))))))));show wpAny _ _ (if (onTheHeap (Value.ref C)&&Value.builtin "BaseException.__getattribute__"==Value.builtin "object.__getattribute__")=true then _ else _) _ _ _;have hx2:(onTheHeap (Value.ref C)&&Value.builtin "BaseException.__getattribute__"==Value.builtin "object.__getattribute__")=false:=by
  have:(Value.builtin "BaseException.__getattribute__"==Value.builtin "object.__getattribute__")=false:=by decide +kernel
  rw[this];rfl
 rw[hx2,fR (by decide)];unfold getAttrByItsOwn hookBefore;rw[da (show onTheHeap (Value.ref C)=true from rfl)];refine ae (L2.at ?_);refine ae (wpAny_attempt (xo ?_));show wpAny _ _ (boundAndCalled (Value.builtin "BaseException.__getattribute__") (.ref x) (.str "__class__" t)) _ _ _;unfold boundAndCalled;rw[PySem.F.excAttr_ValueError.ga.bind (.ref x)];refine ae (bp ?_);refine wpAny_call ?_;have LB:Looks (model prog w) hh (isInstance (.ref x) (.type "BaseException")) true:=L0.andThen (looks_mroIn (M:=model prog w) X hmB);refine codeAny_call_builtin PySem.F.excAttr_ValueError.ga.plain PySem.F.entry_bexc_ga ?_;have hk:builtinKind "BaseException.__getattribute__"=some .slot:=by decide +kernel
 have hsplit:splitId "BaseException.__getattribute__"=some ("BaseException", "__getattribute__"):=by decide +kernel
 have ha:=PySem.F.args_bexc_ga (.ref x) (.str "__class__" t);show wpAny _ _ (checkBuiltinCall "BaseException.__getattribute__" ⟨[.ref x,.str "__class__" t],[]⟩) _ _ _;simp only[checkBuiltinCall,hk,hsplit];refine ae (LB.at ?_);rw[fR (by decide)];unfold argsOk at ha;refine wpAny_of_eq (a:=()) ha ?_;show wpAny _ _ (Builtin.«object.__getattribute__» ⟨[.ref x,.str "__class__" t],[]⟩) _ _ _;unfold Builtin.«object.__getattribute__»;refine ae (bp (ae (bp (ae (L0.at (ae (L3.at ?_)))))));show wpAny _ _ (holding [Value.builtin "object.__class__"] (call (.builtin "getset_descriptor.__get__") [.builtin "object.__class__",.ref x,.ref C]) >>= ret) _ _ _;refine ae (xo (wpAny_call (lY (s:=⟨hh,g,d,t+1,os⟩) X L00 hm ?_)));refine bp ?_;show wpAny _ _ (handedOut (.ref C)) _ _ _;refine bp ?_;exact bp h
theorem lZ (hga:findIn K (.ref C) "__getattribute__"=some (some (.builtin "BaseException.__getattribute__"))) (hgt:findIn K (.ref C) "__getattr__"=some none)
 (hf:findIn K (.ref C) "__class__"=some (some (.builtin "object.__class__"))) (hf2:specialIn K (.builtin "object.__class__") "__get__"=some (some (.builtin "getset_descriptor.__get__"))) (hf3:takesIn K (.builtin "object.__class__")=some true)
 (hm:mroIn K C (.type "object")=some true) (hmB:mroIn K C (.type "BaseException")=some true) (hcl:(clsIn K C).isSome=true) :
 KitX K (.ref x) (.ref C) (fun h=>∃ o,h.get? x=some o/\o.cls=.ref C) where
 ty:=fun _ _ _ ⟨o,h1,h2⟩=>h2▸(Looks.ld h1).andThen .now
 it:=fun _ _ X _=>by
  unfold clsIn at hcl;split at hcl
  .rename_i c' d' cd' sl' ho;intro A' Q' E' s' k q;unfold isType loadHead;exact ae (wpAny_loadPart (k _ _ (X _ _ ho)) (bp q))
  .cases hcl
 ne:=fun h tp dd its n sl X htp=>by
  refine Bool.eq_false_iff.mpr fun q=>?_;have e:C=tp:=Value.ref.inj (yd.mp q);subst e;unfold clsIn at hcl;split at hcl
  .rename_i c' d' cd' sl' ho;have z:=(X _ _ ho).symm.trans htp;cases z
  .cases hcl
 ca:=fun X I k=>kY X (let ⟨o,h1,h2⟩:=I;fun _=>h2▸(Looks.ld h1).andThen .now) hga hgt hf hf2 hf3 hm hmB k
end
end L2
namespace L2
open PySem PySem.Spec PySem.Calls PyProof.Rows
end L2
namespace ST
open PySem PySem.SetTable
noncomputable def st (m:Nat)(h:Int):Probe:={ j:=bits h % (m+1),more:=runEnd m (bits h % (m+1))-bits h % (m+1),i:=bits h % (m+1),perturb:=bits h,dummy:=none }
noncomputable def rs (m:Nat)(p:Nat×Nat):Probe:={ j:=p.1,more:=runEnd m p.1-p.1,i:=p.1,perturb:=p.2,dummy:=none }
noncomputable def wQ (m:Nat)(p:Probe):Probe:=if p.more>0 then { p with j:=p.j+1,more:=p.more-1 } else { p with j:=(leap m p.i p.perturb).1,more:=runEnd m (leap m p.i p.perturb).1-(leap m p.i p.perturb).1,i:=(leap m p.i p.perturb).1,perturb:=(leap m p.i p.perturb).2 }
def it (m:Nat):Nat->Probe->Probe
 |0,p=>p
 |n+1,p=>it m n (wQ m p)
noncomputable def lp (m:Nat):Nat->Nat×Nat->Nat×Nat
 |0,p=>p
 |n+1,p=>lp m n (leap m p.1 p.2)
end ST
namespace ST
open PySem PySem.W PyProof.Rows
noncomputable def wv (p:Array Nat)(i:Nat):Nat:=p.getD i 0
end ST
namespace L2
open PySem PySem.Spec PySem.Calls PyProof.Rows ST
noncomputable abbrev iK (ns:List Int):List gK:=ns.map Sum.inl
noncomputable abbrev tQ:=List Int×Addr
section
abbrev eT (prog:yg)(w:World)(x:tQ):Int×yh:=((tK prog w).hash (iK x.1),Value.ref x.2)
end
end L2
namespace L2
open PySem PySem.Spec PyProof.Rows
end L2
namespace TS
open PySem PyProof.Rows
section
variable {rk:Keyed->Nat}
def vF (rk:Keyed->Nat)(l:List Keyed):Prop:=l.Pairwise fun x y=>rk x<=rk y
structure J (rk:Keyed->Nat) (al bl o:List Keyed) (i j:Nat):Prop where
 perm:o.Perm (al.take i++bl.take j)
 xb:vF rk o
 la:∀ x∈o,∀ y∈al.drop i,rk x<=rk y
 lb:∀ x∈o,∀ y∈bl.drop j,rk x<=rk y
variable {al bl o:List Keyed}
def gR (rk:Keyed->Nat)(al bl o:List Keyed):Prop:=o.Perm (al++bl)/\vF rk o
end
noncomputable def Ch (rk:Keyed->Nat):List (Nat×Nat)->Nat->List Keyed->Prop
 | [],_,xs=>xs=[]
 |(u,n)::l,c,xs=>∃ X Y,xs=X++Y/\u=c/\X.length=n/\0<n/\vF rk X/\Ch rk l (c+n) Y
end TS
namespace L2
open PySem PySem.Spec PySem.Calls PyProof.Rows ST
end L2
namespace L2
open PySem PySem.Spec PySem.Calls PyProof.Rows
section
open PySem.MeetsSeq PySem.SeqAt
open PySem.AutoSeq1 (wpAny_loadPart')
end
end L2
namespace L2
open PySem PySem.Spec PySem.Calls PyProof.Rows ST
end L2
namespace L2
open PySem PySem.Spec PySem.Calls PyProof.Rows
end L2
namespace L2
open PySem PySem.Spec PyProof.Rows
open Sem (wp)
open Builtin
open Sem (wp)
open Builtin
noncomputable def e9 (kts:List (Addr×List V))(a:Addr)(o:Obj)(ns:List Int):Hp:=fun b=>match kts.lookup b with
 |some xs=>some (.tup xs)
 |none=>if b=a then some (.bF o (.lst (ns.map V.int))) else none
section
theorem oB (e:kts.lookup b=some xs):e9 kts a o ns b=some (.tup xs):=by unfold e9;rw[e]
theorem oC (e:kts.lookup a=none):e9 kts a o ns a=some (.bF o (.lst (ns.map V.int))):=by unfold e9;rw[e];exact da rfl
theorem oD (e:kts.lookup b=none)(n:b≠a):e9 kts a o ns b=none:=by unfold e9;rw[e];exact fR n
end
theorem dv:∀{vs:List yh}{ns:List Int},IntsAre vs ns->Vals (ns.map V.int) vs
 |_,_,.nil=>.nil
 |_,_,.cons n t h=>.cons ⟨t,rfl⟩ (dv h)
theorem kZ {P:yg}{w:World}{K:yf}{mg mb:Str->Option yh}{CX:jb}{k:Nat}{fa a:Addr}{fd:FuncData}{x:Str}{sp:Sp}{s₁:ye}{vs:List yh}{ns:List Int}{kts:List (Addr×List V)}
 (KX:K.In s₁.heap) (hns:s₁.heap.Ns mainGlobals mg) (hb:s₁.heap.Ns builtinsNs mb) (hbb:∀ x:Str,x≠"__name__"->mb x=bootBuiltins x) (hlim:s₁.heap.NoLimit) (hg:s₁.gens=#[])
 (ha:s₁.heap.get? a=some { cls:=.type "list",data:=.seq vs.toArray }) (hi:IntsAre vs ns) (hl:ns.length<=sizeLine) (hr:bJ k callerA)
 (hK:∀ o,K.lookup a=some o->o.cls=.type "list"->False)
 (hT:∀ b xs,kts.lookup b=some xs->K.lookup b=none/\∃(o:Obj)(its:Array yh)(n:Nat),s₁.heap.get? b=some o/\o.cls=.type "tuple"/\o.data=.seq its n/\its.size<=sizeLine/\Vals xs its.toList)
 (hM:∀ p∈K,∀ b xs,qD p.2=some (b,xs)->kts.lookup b=some xs)
 (F:∀ base:Heap,K.In base->base.Ns mainGlobals mg->bC P w K mg base CX k fa fd [x] sp) (hbind:∀(s:ye)(u:yh),BindsTo s fd ⟨[u],[]⟩ [(x,u)])
 (hsp:∀ H:Hp,(∃ o,H a=some (.bF o (.lst (ns.map V.int))))->sp [.ref a] H (fun v _=>v=.bl true) fun _ _ _=>False)
 (hCX:∀ H e s',CX [] H s₁ (fun _ _ _=>False) e s'->False) :
 codeAny (model P w) callerA (.call (.ref fa) ⟨[.ref a],[]⟩) (fun r s'=>r=.ok (.ret (.bool true))/\OldK s₁.heap s'.heap/\s'.os=s₁.os/\AllBare s'.gens) s₁:=by
 have rv:=dv hi;have noK:K.lookup a=none:=by
  cases q:K.lookup a with
  |none=>rfl
  |some o=>have e:=KX a o q;rw[ha]at e;cases e;exact(hK _ q rfl).elim
 have noT:kts.lookup a=none:=by
  cases q:kts.lookup a with
  |none=>rfl
  |some xs=>obtain⟨_,o,its,n,e,c,_⟩:=hT a xs q;rw[ha]at e;cases e;exact absurd c (by simp)
 obtain⟨ob,eob⟩ : ∃ ob:Obj,ob={ cls:=.type "list",data:=.seq vs.toArray }:=⟨_,rfl⟩;rw[<- eob]at ha;generalize eH:e9 kts a ob ns=H;have Ha:H a=some (.bF ob (.lst (ns.map V.int))):=by rw[<- eH];exact oC noT
 have Ht:∀ b xs,kts.lookup b=some xs->H b=some (.tup xs):=fun b xs e=>by rw[<- eH];exact oB e
 have Hn:∀ b,kts.lookup b=none->b≠a->H b=none:=fun b e n=>by rw[<- eH];exact oD e n
 have freeK:∀ b o,K.lookup b=some o->H b=none:=fun b o e=>by
  refine Hn b ?_ fun z=>by rw[z,noK]at e;cases e
  cases q:kts.lookup b with
  |none=>rfl
  |some xs=>rw[(hT b xs q).1]at e;cases e
 have freeD:∀(b:Addr)(o:Obj)(es:Array DictEntry)(ep:Nat),s₁.heap.get? b=some o->o.data=.dict es ep->H b=none:=fun b o es ep e d=>by
  refine Hn b ?_ fun z=>?_
  .cases q:kts.lookup b with
   |none=>rfl
   |some xs=>obtain⟨_,o',its,n,e',_,d',_⟩:=hT b xs q;rw[e]at e';cases e';rw[d]at d';cases d'
  .rw[z,ha]at e;cases e;rw[eob]at d;cases d
 have nsK:∀{b:Addr}{m:Str->Option yh},s₁.heap.Ns b m->(hZ s₁.heap H).Ns b m:=fun{b m} ⟨o,es,ep,e,d,r⟩=>⟨o,es,ep,h8 e (freeD b o es ep e d),d,r⟩;have hKb:K.In (hZ s₁.heap H):=fun b o e=>h8 (KX b o e) (freeK b o e);have hMd:Mod K mg (hZ s₁.heap H):=⟨hKb,nsK hns,⟨mb,nsK hb,hbb⟩,let ⟨mc,h1,h2⟩:=hlim;⟨mc,nsK h1,h2⟩⟩;have bc:HOk P w H s₁.heap:=fun b u e=>by
  cases q:kts.lookup b with
  |some xs=>rw[Ht b xs q]at e;cases e;obtain⟨_,o,its,n,e1,c,d,z,r⟩:=hT b xs q;refine⟨by rw[r.length];simpa using z,its.toList,r,o,e1,c,n,by simpa using d⟩
  |none=>
   by_cases hba:b=a
   .rw[hba,Ha]at e;cases e;rw[hba];exact⟨ha,by rw[eB];exact hl,vs,_,rv,by rw[ha,eob]⟩
   .rw[Hn b q hba]at e;cases e
 have e0:lA P w K mg (hZ s₁.heap H) callerA [] s₁ H:=⟨rfl,hMd,fun b o e=>n8 e,Nat.le_of_eq (kN _ _),trivial,fun b hb=>absurd (show b∈([]:List Addr) from hb) (by simp),bc,.of_eq hg,fun p hp b xs e=>Ht b xs (hM p hp b xs e)⟩;refine x6 ((F _ hKb (nsK hns)).run callerA [] s₁ H ⟨[.ref a],[]⟩ [.ref a] [.ref a] _ _ hr e0 (hbind s₁ (.ref a)) (.cons rfl .nil) (hsp H ⟨ob,Ha⟩)) fun r s' h=>?_;cases r with
 |error e=>exact(hCX H e s' h).elim
 |ok fl=>
  cases fl with
  |next=>exact False.elim h
  |brk=>exact False.elim h
  |cont=>exact False.elim h
  |ret u=>
   obtain⟨v,H',os,bare,un,hok',r',q⟩:=h;have q':v=.bl true:=q;subst q';obtain rfl:u=Value.bool true:=r';refine⟨rfl,OldK.of_keep fun b o e=>?_,os,bare⟩;by_cases hba:b=a
   .rw[hba]at e ⊢;have z2:=un.c7 a ob _ Ha;obtain⟨e2,_⟩:=hok' a _ z2;rw[ha]at e;cases e;exact e2
   .refine un.keep b o e ?_ (by intro z;exact absurd (show b∈([]:List Addr) from z) (by simp)) (by simp);cases q:kts.lookup b with
    |none=>exact .inl (Hn b q hba)
    |some xs=>exact .inr ⟨xs,Ht b xs q⟩
section
variable {K K':yf}
def vG (K:yf):Bool:=K.all fun p=>(qD p.2).isNone
structure dk (K K':yf):Prop where
 look:∀ b o,K.lookup b=some o->(∀ its n,o.data≠.seq its n)->K'.lookup b=some o
theorem k7:dk K K:=⟨fun _ _ e _=>e⟩
theorem dk.code (S:dk K K')(h:PySem.W.codeIn K cd q=true):PySem.W.codeIn K' cd q=true:=by
 unfold PySem.W.codeIn at h ⊢;cases cd with
 |ref c=>
  dsimp only at h ⊢;cases e:K.lookup c with
  |none=>rw[e]at h;cases h
  |some o=>
   obtain⟨o1,o2,o3,o4⟩:=o;cases o3 with
   |fields vs=>rw[S.look c _ e (fun _ _ z=>nomatch z)];rw[e]at h;exact h
   |_=>rw[e]at h;cases h
 |_=>cases h
theorem dk.keep (S:dk K K')(e:K.lookup f=some ⟨o1,o2,.func fd,o4⟩):PySem.W.keepIn K' (.ref f)=true:=by unfold PySem.W.keepIn;dsimp only;rw[S.look f _ e (fun _ _ z=>nomatch z)]
theorem dk.ns (S:dk K K')(h:PySem.W.nsIn K n x=some r):PySem.W.nsIn K' n x=some r:=by
 unfold PySem.W.nsIn at h ⊢;cases e:K.lookup n with
 |none=>rw[e]at h;cases h
 |some o=>
  obtain⟨o1,o2,o3,o4⟩:=o;cases o3 with
  |dict es ep=>rw[S.look n _ e (fun _ _ z=>nomatch z)];rw[e]at h;exact h
  |_=>rw[e]at h;cases h
theorem dk.nsOk (S:dk K K')(h:PySem.W.nsOkIn K n=true):PySem.W.nsOkIn K' n=true:=by
 unfold PySem.W.nsOkIn at h ⊢;cases e:K.lookup n with
 |none=>rw[e]at h;cases h
 |some o=>
  obtain⟨o1,o2,o3,o4⟩:=o;cases o3 with
  |dict es ep=>rw[S.look n _ e (fun _ _ z=>nomatch z)];rw[e]at h;exact h
  |_=>rw[e]at h;cases h
theorem dk.tail (S:dk K K'):∀{l:List yh},PySem.W.tailIn K bm l=true->PySem.W.tailIn K' bm l=true
 | [],h=>h
 |v::r,h=>by
  unfold PySem.W.tailIn at h ⊢;rw[xZ]at h ⊢;refine h.imp id fun h=>?_;cases v with
  |ref A=>
   dsimp only at h ⊢;cases e:K.lookup A with
   |none=>rw[e]at h;cases h
   |some o=>
    obtain⟨o1,o2,o3,o4⟩:=o;cases o3 with
    |cls cd=>rw[S.look A _ e (fun _ _ z=>nomatch z)];rw[e]at h;dsimp only at h ⊢;simp only[db,yd]at h ⊢;exact⟨⟨S.nsOk h.1.1,S.ns h.1.2⟩,S.tail h.2⟩
    |_=>rw[e]at h;cases h
  |_=>cases h
theorem dk.exc (S:dk K K')(h:PySem.W.excIn K C bm i=true):PySem.W.excIn K' C bm i=true/\f9 K' C=f9 K C:=by
 unfold PySem.W.excIn at h ⊢;unfold f9;cases e:K.lookup C with
 |none=>rw[e]at h;cases h
 |some o=>
  obtain⟨o1,o2,o3,o4⟩:=o;rw[e]at h;cases o3 with
  |cls cd=>
   rw[S.look C _ e (fun _ _ z=>nomatch z)];refine⟨?_,rfl⟩;split at h
   .rename_i dd cd' sl he;injection he with he;injection he with he1 he2 he3 he4;injection he3 with he3;subst he1 he2 he3 he4
    try dsimp only at h
    try dsimp only
    split at h
    .rename_i hm hs;simp only[db,yd]at h ⊢;exact⟨⟨⟨h.1.1.1,S.tail h.1.1.2⟩,S.nsOk h.1.2⟩,S.ns h.2⟩
    .cases h
   .cases h
  |_=>split at h<;>first|cases h|(rename_i he;injection he with he;injection he with _ _ he _;cases he)
end
noncomputable def jY:yh->Bool
 | .type n=>n=="list"
 |_=>false
def vH (K:yf):Bool:=K.all fun p=>!jY p.2.cls
theorem l0:∀{K:yf},vH K=true->K.lookup a=some o->o.cls=.type "list"->False
 | [],_,e,_=>by cases e
 |(b,x)::r,h,e,c=>by
  unfold vH at h;rw[List.all_cons,db]at h;rw[xp]at e;split at e
  .cases e;rw[c]at h;have h1:=h.1;simp[jY]at h1
  .exact l0 (K:=r) h.2 e c
section
variable {l:PySem.W.OpenLaw}{K:Params->yf}{CX:World->jb}{sp:World->Sp}
theorem l5 (hn:l.most=some n)(hn2:n<=sizeLine)(hdf:d.params.defaults=[])(hr:bJ k callerA)(hY:∀(w:World)(h:Heap),YP w h->(K w.params).In h)
 (hL:∀ w:World,vH (K w.params)=true/\vG (K w.params)=true)
 (F:∀(w:World)(mg:Str->Option yh)(fa:Addr)(h:Heap),(K w.params).In h->h.Ns mainGlobals mg->mg d.name=some (.ref fa)->
   ∃ fd:FuncData,(∀(s:ye)(u:yh),BindsTo s fd ⟨[u],[]⟩ [(x,u)])/\∀ base:Heap,(K w.params).In base->base.Ns mainGlobals mg->bC l.prog w (K w.params) mg base (CX w) k fa fd [x] (sp w))
 (hsp:∀(w:World)(H:Hp)(a:Addr)(ns:List Int),ns.length<=n->(∃ o,H a=some (.bF o (.lst (ns.map V.int))))->sp w [.ref a] H (fun v _=>v=.bl true) fun _ _ _=>False)
 (hCX:∀(w:World)(H:Hp)(s:ye)(e:yh)(s':ye),CX w [] H s (fun _ _ _=>False) e s'->False) :
 PySem.W.WalkO q loose XP YP l.row.toRowW d [] (fun f vs=>PySem.call f vs):=by
 refine Att.attach_call hn hdf fun w s₀ s₁ mg mb fa o pm cd doc a vs ns G Y ho hd hcd hmg hobj hints bI hg=>?_;have KX:=hY w _ Y;obtain⟨fd,hb,hF⟩:=F w mg fa _ KX G.T.g hmg;exact kZ (kts:=[]) KX G.T.g G.T.b G.T.builtins G.T.nolimit hg hobj hints (nW bI hn2) hr (fun o e c=>l0 (hL w).1 e c) (fun b xs e=>by cases e)
  (fun p hp b xs e=>by have:=yb.mp (hL w).2 p hp;rw[e]at this;cases this) hF hb (fun H hS=>hsp w H a ns bI hS) fun H e s'=>hCX w H s₁ e s'
end
end L2
namespace L2
open PySem PySem.Spec PySem.Calls PyProof.Rows
noncomputable abbrev K0:=Sum Int (List Int)
noncomputable def NVs (H:Hp):List K0->List V->Prop
 | [],vs=>vs=[]
 | .inl i::ks,vs=>∃ r,vs=.int i::r/\NVs H ks r
 | .inr l::ks,vs=>∃ c r,vs=.ref c::r/\H c=some (.tup (l.map V.int))/\NVs H ks r
def KeyN (H:Hp)(k:List K0)(b:Addr):Prop:=∃ vs,H b=some (.tup vs)/\NVs H k vs
section
theorem NVs.mono (kt:∀ b vs,H b=some (.tup vs)->H' b=some (.tup vs)):∀{k:List K0}{vs:List V},NVs H k vs->NVs H' k vs
 | [],_,h=>h
 | .inl i::ks,_,⟨r,e,h⟩=>⟨r,e,NVs.mono kt h⟩
 | .inr l::ks,_,⟨c,r,e,e2,h⟩=>⟨c,r,e,kt _ _ e2,NVs.mono kt h⟩
theorem KeyN.mono (kt:∀ b vs,H b=some (.tup vs)->H' b=some (.tup vs))(h:KeyN H k b):KeyN H' k b:=let ⟨vs,e,q⟩:=h;⟨vs,kt _ _ e,q.mono kt⟩
end
end L2
namespace L2
open PySem PySem.Spec PySem.Calls PyProof.Rows ST
end L2
namespace L3
open PySem PySem.Spec PyProof.Rows L2
abbrev DK:=Sum gK (List gK)
inductive D where
 |cH|bl (b:Bool)|int (i:Int)|str (x:Str)|tup (ds:List D)|lst (ds:List D)|gC (ks:List DK) (ds:List D)
mutual
noncomputable def D.flat:D->Bool
 | .lst _=>false
 | .gC _ _=>false
 | .tup ds=>D.bO ds
 |_=>true
noncomputable def D.bO:List D->Bool
 | []=>true
 |d::ds=>d.flat&&D.bO ds
end
mutual
noncomputable def D.dep:D->Nat
 | .lst ds=>D.dj ds+1
 | .tup ds=>D.dj ds+1
 | .gC _ ds=>D.dj ds+1000
 |_=>0
noncomputable def D.dj:List D->Nat
 | []=>0
 |d::ds=>max d.dep (D.dj ds)
end
mutual
noncomputable def dq:D->D->Bool
 | .cH,e=>match e with|.cH=>true|_=>false
 | .bl a,e=>match e with|.bl b=>a==b|.int b=>(if a then 1 else 0)==b|_=>false
 | .int a,e=>match e with|.int b=>a==b|.bl b=>a==(if b then 1 else 0)|_=>false
 | .str a,e=>match e with|.str b=>a==b|_=>false
 | .tup as,e=>match e with|.tup bs=>eqDs as bs|_=>false
 | .lst as,e=>match e with|.lst bs=>eqDs as bs|_=>false
 | .gC ks as,e=>match e with|.gC ls bs=>decide (ks=ls)&&eqDs as bs|_=>false
noncomputable def eqDs:List D->List D->Bool
 | [],bs=>match bs with|[]=>true|_=>false
 |a::as,bs=>match bs with|b::r=>dq a b&&eqDs as r|[]=>false
end
mutual
theorem dw:∀ d:D,dq d d=true
 | .cH=>rfl
 | .bl a=>by simp[dq]
 | .int a=>by simp[dq]
 | .str a=>by simp[dq]
 | .tup as=>by simp only[dq];exact eqDs_refl as
 | .lst as=>by simp only[dq];exact eqDs_refl as
 | .gC ks as=>by simp only[dq,decide_true,Bool.true_and];exact eqDs_refl as
theorem eqDs_refl:∀ ds:List D,eqDs ds ds=true
 | []=>rfl
 |d::ds=>by simp only[eqDs,dw d,eqDs_refl ds,Bool.and_self]
end
def DAt (H:Hp)(a:Addr)(ks:List DK)(vs:List V):Prop:=(∃ kvs:List (gK×V),Rd H a (.dK kvs)/\ks=kvs.map (fun p=>.inl p.1)/\vs=kvs.map Prod.snd)\/∃ kvs:List (List gK×V),Rd H a (.dT kvs)/\ks=kvs.map (fun p=>.inr p.1)/\vs=kvs.map Prod.snd
noncomputable def tR:HO->Prop
 | .lst _=>True
 | .dK _=>True
 | .dT _=>True
 | .ext _=>True
 |_=>False
def Mu (H:Hp)(a:Addr):Prop:=∃ o,H a=some o/\tR o
theorem Mu.lst (h:H a=some (.lst vs)):Mu H a:=⟨_,h,True.intro⟩
theorem Mu.same (h:Mu H a)(s:∀ o,H a=some o->H' a=some o):Mu H' a:=let ⟨o,e,m⟩:=h;⟨o,s o e,m⟩
theorem Mu.some (h:Mu H a):H a≠none:=by obtain⟨o,e,_⟩:=h;rw[e];simp
theorem pY (h:Rd H a u):∃ o,H a=some o:=h.elim (fun e=>⟨_,e⟩) fun⟨_,e⟩=>⟨_,e⟩
theorem l6 (h:Rd H a u)(s:∀ o,H a=some o->H' a=some o):Rd H' a u:=h.imp (s _) fun⟨o,e⟩=>⟨o,s _ e⟩
theorem DAt.obj (h:DAt H a ks vs):∃ o,H a=some o:=h.elim (fun⟨_,e,_⟩=>pY e) fun⟨_,e,_⟩=>pY e
theorem DAt.keep (h:DAt H a ks vs)(s:∀ o,H a=some o->H' a=some o):DAt H' a ks vs:=h.imp (fun⟨kvs,e,r⟩=>⟨kvs,l6 e s,r⟩) fun⟨kvs,e,r⟩=>⟨kvs,l6 e s,r⟩
theorem DAt.inj (h:DAt H a ks vs)(g:DAt H a ls ws):ks=ls/\vs=ws:=by rcases h with⟨k1,e1|⟨o1,e1⟩,r1,r2⟩|⟨k1,e1|⟨o1,e1⟩,r1,r2⟩<;>rcases g with⟨k2,e2|⟨o2,e2⟩,q1,q2⟩|⟨k2,e2|⟨o2,e2⟩,q1,q2⟩<;>(rw[e1]at e2;cases e2;try exact⟨r1.trans q1.symm,r2.trans q2.symm⟩)
noncomputable def vI:HO->Prop
 | .dK _=>False
 | .dT _=>False
 | .bF _ (.dK _)=>False
 | .bF _ (.dT _)=>False
 |_=>True
theorem DAt.no (h:DAt H a ks vs)(e:H a=some o)(n:vI o):False:=by rcases h with⟨k,z|⟨o',z⟩,_⟩|⟨k,z|⟨o',z⟩,_⟩<;>(rw[e]at z;cases z;exact n)
mutual
noncomputable def Is (H:Hp)(m:Addr->Prop):D->V->Prop
 | .cH,v=>v=.cH
 | .bl b,v=>v=.bl b
 | .int i,v=>v=.int i
 | .str x,v=>v=.str x
 | .tup ds,v=>∃ a vs,v=.ref a/\H a=some (.tup vs)/\IsAll H m ds vs
 | .lst ds,v=>∃ a vs,v=.ref a/\((H a=some (.lst vs)/\m a)\/∃ o,H a=some (.bF o (.lst vs))/\m a)/\IsAll H m ds vs
 | .gC ks ds,v=>∃ a vs,v=.ref a/\(DAt H a ks vs/\m a)/\IsAll H m ds vs
noncomputable def IsAll (H:Hp)(m:Addr->Prop):List D->List V->Prop
 | [],vs=>vs=[]
 |d::ds,vs=>∃ v r,vs=v::r/\Is H m d v/\IsAll H m ds r
end
noncomputable def cP:HO->Prop
 | .tup _=>True
 | .bF _ _=>True
 |_=>False
section
mutual
theorem Is.mono (kp:∀ a o,H a=some o->(m a\/cP o)->H' a=some o)(mm:∀ a o,H a=some o->m a->m' a):∀{d:D}{v:V},Is H m d v->Is H' m' d v
 | .cH,_,h=>h
 | .bl _,_,h=>h
 | .int _,_,h=>h
 | .str _,_,h=>h
 | .tup ds,_,h=>by obtain⟨a,vs,e,h1,h2⟩:=h;exact⟨a,vs,e,kp a _ h1 (.inr True.intro),IsAll.mono kp mm h2⟩
 | .lst ds,_,h=>by
  obtain⟨a,vs,e,h1,h2⟩:=h;refine⟨a,vs,e,?_,IsAll.mono kp mm h2⟩;rcases h1 with⟨h1,h3⟩|⟨o,h1,h3⟩
  .exact .inl ⟨kp a _ h1 (.inl h3),mm a _ h1 h3⟩
  .exact .inr ⟨o,kp a _ h1 (.inr True.intro),mm a _ h1 h3⟩
 | .gC ks ds,_,h=>by obtain⟨a,vs,e,h1,h2⟩:=h;obtain⟨o,eo⟩:=h1.1.obj;exact⟨a,vs,e,⟨h1.1.keep fun o e=>kp a o e (.inl h1.2),mm a o eo h1.2⟩,IsAll.mono kp mm h2⟩
theorem IsAll.mono (kp:∀ a o,H a=some o->(m a\/cP o)->H' a=some o)(mm:∀ a o,H a=some o->m a->m' a):∀{ds:List D}{vs:List V},IsAll H m ds vs->IsAll H' m' ds vs
 | [],_,h=>h
 |d::ds,_,h=>by obtain⟨v,r,e,h1,h2⟩:=h;exact⟨v,r,e,Is.mono kp mm h1,IsAll.mono kp mm h2⟩
end
theorem Is.weak (mm:∀ a,m a->m' a)(h:Is H m d v):Is H m' d v:=h.mono (fun _ _ e _=>e) fun a _ _=>mm a
theorem IsAll.weak (mm:∀ a,m a->m' a)(h:IsAll H m ds vs):IsAll H m' ds vs:=h.mono (fun _ _ e _=>e) fun a _ _=>mm a
theorem Is.same (s:Same H H')(h:Is H m d v):Is H' m d v:=h.mono (fun a o e _=>s a o e) fun _ _ _ z=>z
theorem IsAll.same (s:Same H H')(h:IsAll H m ds vs):IsAll H' m ds vs:=h.mono (fun a o e _=>s a o e) fun _ _ _ z=>z
mutual
theorem Is.flat:∀{d:D}{v:V},d.flat=true->Is H m d v->Is H m' d v
 | .cH,_,_,h=>h
 | .bl _,_,_,h=>h
 | .int _,_,_,h=>h
 | .str _,_,_,h=>h
 | .tup ds,_,f,h=>by obtain⟨a,vs,e,h1,h2⟩:=h;exact⟨a,vs,e,h1,IsAll.flat (by simpa only[D.flat] using f) h2⟩
 | .lst ds,_,f,_=>by simp[D.flat]at f
 | .gC ks ds,_,f,_=>by simp[D.flat]at f
theorem IsAll.flat:∀{ds:List D}{vs:List V},D.bO ds=true->IsAll H m ds vs->IsAll H m' ds vs
 | [],_,_,h=>h
 |d::ds,_,f,h=>by obtain⟨v,r,e,h1,h2⟩:=h;simp only[D.bO,db]at f;exact⟨v,r,e,Is.flat f.1 h1,IsAll.flat f.2 h2⟩
end
mutual
theorem Is.inj:∀{d e:D}{v:V},Is H m d v->Is H m' e v->d=e
 | .cH,e,_,h,g=>by cases e<;>first|rfl|(cases h;first|(obtain⟨_,_,z,_⟩:=g;cases z;done)|cases g)
 | .bl _,e,_,h,g=>by cases e<;>(cases h;first|(obtain⟨_,_,z,_⟩:=g;cases z;done)|(cases g;rfl)|cases g)
 | .int _,e,_,h,g=>by cases e<;>(cases h;first|(obtain⟨_,_,z,_⟩:=g;cases z;done)|(cases g;rfl)|cases g)
 | .str _,e,_,h,g=>by cases e<;>(cases h;first|(obtain⟨_,_,z,_⟩:=g;cases z;done)|(cases g;rfl)|cases g)
 | .tup ds,e,_,h,g=>by
  obtain⟨a,vs,rfl,h1,h2⟩:=h;cases e with
  |tup es=>obtain⟨b,ws,z,g1,g2⟩:=g;cases z;rw[h1]at g1;cases g1;rw[IsAll.inj h2 g2]
  |lst es=>obtain⟨b,ws,z,g1,g2⟩:=g;cases z;rcases g1 with⟨g1,_⟩|⟨o,g1,_⟩<;>(rw[h1]at g1;cases g1)
  |gC ls es=>obtain⟨b,ws,z,g1,g2⟩:=g;cases z;exact(g1.1.no h1 True.intro).elim
  |_=>cases g
 | .lst ds,e,_,h,g=>by
  obtain⟨a,vs,rfl,h1,h2⟩:=h;cases e with
  |tup es=>obtain⟨b,ws,z,g1,g2⟩:=g;cases z;rcases h1 with⟨h1,_⟩|⟨o,h1,_⟩<;>(rw[h1]at g1;cases g1)
  |lst es=>
   obtain⟨b,ws,z,g1,g2⟩:=g;cases z;have e:vs=ws:=by rcases h1 with⟨h1,_⟩|⟨o,h1,_⟩<;>rcases g1 with⟨g1,_⟩|⟨o',g1,_⟩<;>(rw[h1]at g1;cases g1;try rfl)
   subst e;rw[IsAll.inj h2 g2]
  |gC ls es=>obtain⟨b,ws,z,g1,g2⟩:=g;cases z;rcases h1 with⟨h1,_⟩|⟨o,h1,_⟩<;>exact(g1.1.no h1 True.intro).elim
  |_=>cases g
 | .gC ks ds,e,_,h,g=>by
  obtain⟨a,vs,rfl,h1,h2⟩:=h;cases e with
  |tup es=>obtain⟨b,ws,z,g1,g2⟩:=g;cases z;exact(h1.1.no g1 True.intro).elim
  |lst es=>obtain⟨b,ws,z,g1,g2⟩:=g;cases z;rcases g1 with⟨g1,_⟩|⟨o,g1,_⟩<;>exact(h1.1.no g1 True.intro).elim
  |gC ls es=>obtain⟨b,ws,z,g1,g2⟩:=g;cases z;obtain⟨e1,e2⟩:=h1.1.inj g1.1;subst e1 e2;rw[IsAll.inj h2 g2]
  |_=>cases g
theorem IsAll.inj:∀{ds es:List D}{vs:List V},IsAll H m ds vs->IsAll H m' es vs->ds=es
 | [],es,_,h,g=>by
  cases h;cases es with
  |nil=>rfl
  |cons e es=>obtain⟨_,_,z,_⟩:=g;cases z
 |d::ds,es,_,h,g=>by
  obtain⟨v,r,rfl,h1,h2⟩:=h;cases es with
  |nil=>cases g
  |cons e es=>obtain⟨w,q,z,g1,g2⟩:=g;cases z;rw[Is.inj h1 g1,IsAll.inj h2 g2]
end
theorem IsAll.length:∀{ds:List D}{vs:List V},IsAll H m ds vs->vs.length=ds.length
 | [],_,h=>by cases h;rfl
 |d::ds,_,h=>by obtain⟨v,r,rfl,_,h2⟩:=h;simp[IsAll.length h2]
theorem IsAll.append:∀{ds es:List D}{vs ws:List V},IsAll H m ds vs->IsAll H m es ws->IsAll H m (ds++es) (vs++ws)
 | [],_,_,_,h,g=>by cases h;exact g
 |d::ds,_,_,_,h,g=>by obtain⟨v,r,rfl,h1,h2⟩:=h;exact⟨v,r++_,rfl,h1,IsAll.append h2 g⟩
theorem IsAll.snoc (h:IsAll H m ds vs)(g:Is H m d v):IsAll H m (ds++[d]) (vs++[v]):=h.append ⟨v,[],rfl,g,rfl⟩
theorem IsAll.get:∀{ds:List D}{vs:List V}{i:Nat}{d:D},IsAll H m ds vs->ds[i]?=some d->∃ v,vs[i]?=some v/\Is H m d v
 | [],_,_,_,_,e=>by simp at e
 |d::ds,_,0,_,h,e=>by obtain⟨v,r,rfl,h1,h2⟩:=h;simp at e;subst e;exact⟨v,rfl,h1⟩
 |d::ds,_,i+1,_,h,e=>by obtain⟨v,r,rfl,h1,h2⟩:=h;obtain⟨w,a,b⟩:=IsAll.get (i:=i) h2 (by simpa using e);exact⟨w,by simpa using a,b⟩
theorem IsAll.take:∀{ds:List D}{vs:List V}(n:Nat),IsAll H m ds vs->IsAll H m (ds.take n) (vs.take n)
 |_,_,0,_=>rfl
 | [],_,n+1,h=>by cases h;exact rfl
 |d::ds,_,n+1,h=>by obtain⟨v,r,rfl,h1,h2⟩:=h;exact⟨v,r.take n,rfl,h1,IsAll.take n h2⟩
theorem IsAll.drop:∀{ds:List D}{vs:List V}(n:Nat),IsAll H m ds vs->IsAll H m (ds.drop n) (vs.drop n)
 |_,_,0,h=>h
 | [],_,n+1,h=>by cases h;exact rfl
 |d::ds,_,n+1,h=>by obtain⟨v,r,rfl,h1,h2⟩:=h;exact IsAll.drop n h2
end
section
variable {s:ye}{m m':Addr->Prop}
theorem q4 (ok:HOk P w H s.heap)(h:(H a=some (.lst vs)/\m a)\/∃ o,H a=some (.bF o (.lst vs))/\m a) :
 ∃ its:List yh,Vals vs its/\s.heap.IsList a its.toArray:=by
 have key:ObjOk P w H s.heap a (.lst vs)->∃ its:List yh,Vals vs its/\s.heap.IsList a its.toArray:=fun⟨_,its,n,r,e⟩=>⟨its,r,⟨_,e,rfl,n,rfl⟩⟩;rcases h with⟨h,_⟩|⟨o,h,_⟩
 .exact key (ok a _ h)
 .exact key (ok a _ h).2
theorem q5 (ok:HOk P w H s.heap)(h:H a=some (.tup vs)):∃ its:List yh,Vals vs its/\s.heap.IsTuple a its.toArray:=by obtain⟨_,its,r,e⟩:=ok a _ h;exact⟨its,r,e⟩
theorem k8 (n:Nat)(e:Nat->Bool):(List.range n).all e=true↔∀ j,j<n->e j=true:=by simp[yb,List.mem_range]
theorem e_:∀(ds es:List D),eqDs ds es=true↔ds.length=es.length/\∀(j:Nat)(d e:D),ds[j]?=some d->es[j]?=some e->dq d e=true
 | [],[]=>by simp[eqDs]
 | [],e::es=>by simp[eqDs]
 |d::ds,[]=>by simp[eqDs]
 |d::ds,e::es=>by
  simp only[eqDs,db,e_ ds es,List.length_cons,Nat.add_right_cancel_iff];constructor
  .rintro⟨h1,h2,h3⟩;refine⟨h2,fun j x y ex ey=>?_⟩;cases j with
   |zero=>simp at ex ey;subst ex;subst ey;exact h1
   |succ j=>exact h3 j x y (by simpa using ex) (by simpa using ey)
  .rintro⟨h2,h3⟩;exact⟨h3 0 d e rfl rfl,h2,fun j x y ex ey=>h3 (j+1) x y (by simpa using ex) (by simpa using ey)⟩
theorem bV:∀{ds:List D}{j:Nat}{d:D},ds[j]?=some d->d.dep<=D.dj ds
 | [],_,_,e=>by simp at e
 |d::ds,0,_,e=>by simp at e;subst e;simp only[D.dj];lia
 |d::ds,j+1,x,e=>by have:=bV (ds:=ds) (j:=j) (d:=x) (by simpa using e);simp only[D.dj];lia
theorem gS (ok:HOk P w H s.heap){A:yi}{ds es:List D}(h1:IsAll H m ds vs)(h2:IsAll H m' es ws)(r1:Vals vs its)(r2:Vals ws its2)
 (rec:∀ d∈ds,∀ e∈es,∀(v w:V)(u u':yh),Is H m d v->Is H m' e w->RelV v u->RelV w u'->SeqAt.EqAt A.in1 s u u' (dq d e)) :
 ∀ j (z1:j<its.toArray.size) (z2:j<its2.toArray.size),SeqAt.EqAt A.in1 s its.toArray[j] its2.toArray[j] (match ds[j]?,es[j]? with|some d,some e=>dq d e|_,_=>true):=by
 intro j z1 z2;have l1:=r1.length;have l2:=r2.length;have l3:=h1.length;have l4:=h2.length;have y1:j<its.length:=by simpa using z1
 have y2:j<its2.length:=by simpa using z2
 have k1:j<ds.length:=by lia
 have k2:j<es.length:=by lia
 obtain⟨v,ev,iv⟩:=h1.get (i:=j) (d:=ds[j]) (by simp[k1]);obtain⟨v',ev',iv'⟩:=h2.get (i:=j) (d:=es[j]) (by simp[k2]);obtain⟨u,eu,ru⟩:=r1.get ev;obtain⟨u',eu',ru'⟩:=r2.get ev'
 grind
theorem js (hl:ds.length=es.length) :
 ((List.range ds.length).all fun j=>match ds[j]?,es[j]? with|some d,some e=>dq d e|_,_=>true)=eqDs ds es:=by
 rw[Bool.eq_iff_iff,k8,e_];constructor
 .intro h;refine⟨hl,fun j d e ed ee=>?_⟩;have:=h j (b0.mp ed).1;rw[ed,ee]at this;exact this
 .rintro⟨_,h⟩ j hj;have e1:ds[j]?=some ds[j]:=by simp[hj]
  have hj':j<es.length:=by lia
  have e2:es[j]?=some es[j]:=by simp[hj']
  rw[e1,e2];exact h j _ _ e1 e2
theorem gT (hl:ds.length≠es.length):eqDs ds es=false:=by grind [eqDs,e_]
end
section
variable {s:ye}
abbrev eg (H:Hp)(s:ye)(m m':Addr->Prop)(A:yi)(n:Nat):Prop:=∀(d e:D)(v w:V)(u u':yh),d.dep<n->e.dep<1000->Is H m d v->Is H m' e w->RelV v u->RelV w u'->SeqAt.EqAt A.in1 s u u' (dq d e)
section
theorem ff (ok:HOk P w H s.heap)(hn:(D.lst l1).dep<=n)(hE:(D.lst l2).dep<1000)(hu:A.units<cLine)(q1:IsAll H m l1 vs1)(q2:IsAll H m' l2 vs2)(y1:Vals vs1 its1)(y2:Vals vs2 its2)(p1:s.heap.IsList a1 its1.toArray)(p2:s.heap.IsList a2 its2.toArray)
 (rec:eg H s m m' A n):SeqAt.RcAt A s (.ref a1) (.ref a2) (dq (.lst l1) (.lst l2)):=by
 have e1:its1.toArray.size=l1.length:=by rw[bb,<- y1.length,q1.length]
 have e2:its2.toArray.size=l2.length:=by rw[bb,<- y2.length,q2.length]
 have hd:∀ d∈l1,d.dep<n:=fun d hd=>by obtain⟨j,hj⟩:=gE.mp hd;have:=bV hj;simp only[D.dep]at hn;lia
 have he:∀ e∈l2,e.dep<1000:=fun d hd=>by obtain⟨j,hj⟩:=gE.mp hd;have:=bV hj;simp only[D.dep]at hE;lia
 by_cases hl:l1.length=l2.length
 .have z:=SeqAt.RcAt.lists p1 p2 (by rw[e1,e2,hl]) hu (gS ok q1 q2 y1 y2 fun d hm e hm2 v w u u' i1 i2 r1 r2=>rec d e v w u u' (hd d hm) (he e hm2) i1 i2 r1 r2);rw[e1,js hl]at z;exact z
 .have z:=SeqAt.RcAt.lists_lengths p1 p2 (by rw[e1,e2];simpa using hl) hu;rw[show dq (.lst l1) (.lst l2)=eqDs l1 l2 from rfl,gT hl];exact z
theorem gU (ok:HOk P w H s.heap)(hn:(D.lst l1).dep<=n)(hE:(D.lst l2).dep<1000)(hu:A.units<cLine)(q1:IsAll H m l1 vs1)(q2:IsAll H m' l2 vs2)(y1:Vals vs1 its1)(y2:Vals vs2 its2)(p1:s.heap.IsList a1 its1.toArray)(p2:s.heap.IsList a2 its2.toArray)
 (rec:eg H s m m' A n):SeqAt.RcNeAt A s (.ref a1) (.ref a2) (!dq (.lst l1) (.lst l2)):=by
 have e1:its1.toArray.size=l1.length:=by rw[bb,<- y1.length,q1.length]
 have e2:its2.toArray.size=l2.length:=by rw[bb,<- y2.length,q2.length]
 have hd:∀ d∈l1,d.dep<n:=fun d hd=>by obtain⟨j,hj⟩:=gE.mp hd;have:=bV hj;simp only[D.dep]at hn;lia
 have he:∀ e∈l2,e.dep<1000:=fun d hd=>by obtain⟨j,hj⟩:=gE.mp hd;have:=bV hj;simp only[D.dep]at hE;lia
 by_cases hl:l1.length=l2.length
 .have z:=SeqAt.RcNeAt.lists p1 p2 (by rw[e1,e2,hl]) hu (gS ok q1 q2 y1 y2 fun d hm e hm2 v w u u' i1 i2 r1 r2=>rec d e v w u u' (hd d hm) (he e hm2) i1 i2 r1 r2);rw[e1,js hl]at z;exact z
 .have z:=SeqAt.RcNeAt.lists_lengths p1 p2 (by rw[e1,e2];simpa using hl) hu;rw[show dq (.lst l1) (.lst l2)=eqDs l1 l2 from rfl,gT hl];exact z
theorem jZ:((List.range (min l1.length l2.length)).all (fun j=>match l1[j]?,l2[j]? with|some d,some e=>dq d e|_,_=>true)&&l1.length==l2.length)=eqDs l1 l2:=by grind [js,gT]
theorem gm (ok:HOk P w H s.heap)(hn:(D.tup l1).dep<=n)(hE:(D.tup l2).dep<1000)(hu:A.units<cLine)(q1:IsAll H m l1 vs1)(q2:IsAll H m' l2 vs2)(y1:Vals vs1 its1)(y2:Vals vs2 its2)(p1:s.heap.IsTuple a1 its1.toArray)(p2:s.heap.IsTuple a2 its2.toArray)
 (rec:eg H s m m' A n):SeqAt.RcAt A s (.ref a1) (.ref a2) (dq (.tup l1) (.tup l2)):=by
 have e1:its1.toArray.size=l1.length:=by rw[bb,<- y1.length,q1.length]
 have e2:its2.toArray.size=l2.length:=by rw[bb,<- y2.length,q2.length]
 have hd:∀ d∈l1,d.dep<n:=fun d hd=>by obtain⟨j,hj⟩:=gE.mp hd;have:=bV hj;simp only[D.dep]at hn;lia
 have he:∀ e∈l2,e.dep<1000:=fun d hd=>by obtain⟨j,hj⟩:=gE.mp hd;have:=bV hj;simp only[D.dep]at hE;lia
 have z:=SeqAt.RcAt.tuples p1 p2 hu (gS ok q1 q2 y1 y2 fun d hm e hm2 v w u u' i1 i2 r1 r2=>rec d e v w u u' (hd d hm) (he e hm2) i1 i2 r1 r2);rw[e1,e2,jZ]at z;exact z
theorem ib (ok:HOk P w H s.heap)(hn:(D.tup l1).dep<=n)(hE:(D.tup l2).dep<1000)(hu:A.units<cLine)(q1:IsAll H m l1 vs1)(q2:IsAll H m' l2 vs2)(y1:Vals vs1 its1)(y2:Vals vs2 its2)(p1:s.heap.IsTuple a1 its1.toArray)(p2:s.heap.IsTuple a2 its2.toArray)
 (rec:eg H s m m' A n):SeqAt.RcNeAt A s (.ref a1) (.ref a2) (!dq (.tup l1) (.tup l2)):=by
 have e1:its1.toArray.size=l1.length:=by rw[bb,<- y1.length,q1.length]
 have e2:its2.toArray.size=l2.length:=by rw[bb,<- y2.length,q2.length]
 have hd:∀ d∈l1,d.dep<n:=fun d hd=>by obtain⟨j,hj⟩:=gE.mp hd;have:=bV hj;simp only[D.dep]at hn;lia
 have he:∀ e∈l2,e.dep<1000:=fun d hd=>by obtain⟨j,hj⟩:=gE.mp hd;have:=bV hj;simp only[D.dep]at hE;lia
 have z:=SeqAt.RcNeAt.tuples p1 p2 hu (gS ok q1 q2 y1 y2 fun d hm e hm2 v w u u' i1 i2 r1 r2=>rec d e v w u u' (hd d hm) (he e hm2) i1 i2 r1 r2);rw[e1,e2,jZ]at z;exact z
theorem ic (h:SeqAt.RcAt A s (.ref a1) (.ref a2) k)(hs:a1=a2->k=true):SeqAt.EqAt A s (.ref a1) (.ref a2) k:=by
 by_cases e:a1=a2
 .subst e;rw[hs rfl];exact SeqAt.EqAt.same _
 .exact SeqAt.EqAt.of_refs e h
end
theorem Is.shape (ok:HOk P w H s.heap)(hE:d.dep<1000)(h:Is H m d v)(r:RelV v u):(d=.cH/\u=.none)\/(∃ b,d=.bl b/\u=.bool b)\/(∃ i t,d=.int i/\u=.int i t)\/(∃ x t,d=.str x/\u=.str x t)\/
 (∃ l a vs its,d=.lst l/\v=.ref a/\u=.ref a/\IsAll H m l vs/\Vals vs its/\s.heap.IsList a its.toArray)\/∃ l a vs its,d=.tup l/\v=.ref a/\u=.ref a/\IsAll H m l vs/\Vals vs its/\s.heap.IsTuple a its.toArray:=by
 cases d with
 |cH=>cases h;cases r;exact .inl ⟨rfl,rfl⟩
 |bl b=>cases h;cases r;exact .inr (.inl ⟨b,rfl,rfl⟩)
 |int i=>cases h;obtain⟨t,rfl⟩:=r;exact .inr (.inr (.inl ⟨i,t,rfl,rfl⟩))
 |str x=>cases h;obtain⟨t,rfl⟩:=r;exact .inr (.inr (.inr (.inl ⟨x,t,rfl,rfl⟩)))
 |lst l=>obtain⟨a,vs,rfl,g,q⟩:=h;cases r;obtain⟨its,y,p⟩:=q4 ok g;exact .inr (.inr (.inr (.inr (.inl ⟨l,a,vs,its,rfl,rfl,rfl,q,y,p⟩))))
 |tup l=>obtain⟨a,vs,rfl,g,q⟩:=h;cases r;obtain⟨its,y,p⟩:=q5 ok g;exact .inr (.inr (.inr (.inr (.inr ⟨l,a,vs,its,rfl,rfl,rfl,q,y,p⟩))))
 |gC k l=>exact absurd hE (by simp only[D.dep];lia)
theorem oE (ok:HOk P w H s.heap)(hu:A.units<cLine)(rec:eg H s m m' A n)(hn:d.dep<=n)(hN:n<1000)(hE:e.dep<1000)(h1:Is H m d v)(h2:Is H m' e w')(r1:RelV v u)(r2:RelV w' u') :
 SeqAt.RcAt A s u u' (dq d e):=by
 rcases h1.shape ok (by lia) r1 with⟨rfl,rfl⟩|⟨b1,rfl,rfl⟩|⟨i1,t1,rfl,rfl⟩|⟨x1,t1,rfl,rfl⟩|⟨l1,a1,vs1,its1,rfl,rfl,rfl,q1,y1,p1⟩|⟨l1,a1,vs1,its1,rfl,rfl,rfl,q1,y1,p1⟩<;>rcases h2.shape ok hE r2 with⟨rfl,rfl⟩|⟨b2,rfl,rfl⟩|⟨i2,t2,rfl,rfl⟩|⟨x2,t2,rfl,rfl⟩|⟨l2,a2,vs2,its2,rfl,rfl,rfl,q2,y2,p2⟩|⟨l2,a2,vs2,its2,rfl,rfl,rfl,q2,y2,p2⟩;exact .none_none;exact .none_bool b2;exact .none_int i2 t2;exact .none_str x2 t2;exact .none_list p2 hu;exact .none_tuple p2 hu;exact .bool_none b1;exact .bool_bool b1 b2;exact .bool_int b1 i2 t2;exact .bool_str b1 x2 t2;exact .bool_list b1 p2 hu;exact .bool_tuple b1 p2 hu;exact .int_none i1 t1;exact .int_bool i1 t1 b2;exact .int_int i1 t1 i2 t2;exact .int_str i1 t1 x2 t2;exact .int_list i1 t1 p2 hu;exact .int_tuple i1 t1 p2 hu;exact .str_none x1 t1;exact .str_bool x1 t1 b2;exact .str_int x1 t1 i2 t2;exact .str_str x1 t1 x2 t2;exact .str_list x1 t1 p2 hu;exact .str_tuple x1 t1 p2 hu;exact .list_none p1 hu;exact .list_bool b2 p1 hu;exact .list_int i2 t2 p1 hu;exact .list_str x2 t2 p1 hu;exact ff ok hn hE hu q1 q2 y1 y2 p1 p2 rec;exact .list_tuple p1 p2 hu;exact .tuple_none p1 hu;exact .tuple_bool b2 p1 hu;exact .tuple_int i2 t2 p1 hu;exact .tuple_str x2 t2 p1 hu;exact .tuple_list p1 p2 hu;exact gm ok hn hE hu q1 q2 y1 y2 p1 p2 rec
theorem oF (ok:HOk P w H s.heap)(hu:A.units<cLine)(rec:eg H s m m' A n)(hn:d.dep<=n)(hN:n<1000)(hE:e.dep<1000)(h1:Is H m d v)(h2:Is H m' e w')(r1:RelV v u)(r2:RelV w' u') :
 SeqAt.RcNeAt A s u u' (!dq d e):=by
 rcases h1.shape ok (by lia) r1 with⟨rfl,rfl⟩|⟨b1,rfl,rfl⟩|⟨i1,t1,rfl,rfl⟩|⟨x1,t1,rfl,rfl⟩|⟨l1,a1,vs1,its1,rfl,rfl,rfl,q1,y1,p1⟩|⟨l1,a1,vs1,its1,rfl,rfl,rfl,q1,y1,p1⟩<;>rcases h2.shape ok hE r2 with⟨rfl,rfl⟩|⟨b2,rfl,rfl⟩|⟨i2,t2,rfl,rfl⟩|⟨x2,t2,rfl,rfl⟩|⟨l2,a2,vs2,its2,rfl,rfl,rfl,q2,y2,p2⟩|⟨l2,a2,vs2,its2,rfl,rfl,rfl,q2,y2,p2⟩;exact .none_none;exact .none_bool b2;exact .none_int i2 t2;exact .none_str x2 t2;exact .none_list p2 hu;exact .none_tuple p2 hu;exact .bool_none b1;exact .bool_bool b1 b2;exact .bool_int b1 i2 t2;exact .bool_str b1 x2 t2;exact .bool_list b1 p2 hu;exact .bool_tuple b1 p2 hu;exact .int_none i1 t1;exact .int_bool i1 t1 b2;exact .int_int i1 t1 i2 t2;exact .int_str i1 t1 x2 t2;exact .int_list i1 t1 p2 hu;exact .int_tuple i1 t1 p2 hu;exact .str_none x1 t1;exact .str_bool x1 t1 b2;exact .str_int x1 t1 i2 t2;exact .str_str x1 t1 x2 t2;exact .str_list x1 t1 p2 hu;exact .str_tuple x1 t1 p2 hu;exact .list_none p1 hu;exact .list_bool b2 p1 hu;exact .list_int i2 t2 p1 hu;exact .list_str x2 t2 p1 hu;exact gU ok hn hE hu q1 q2 y1 y2 p1 p2 rec;exact .list_tuple p1 p2 hu;exact .tuple_none p1 hu;exact .tuple_bool b2 p1 hu;exact .tuple_int i2 t2 p1 hu;exact .tuple_str x2 t2 p1 hu;exact .tuple_list p1 p2 hu;exact ib ok hn hE hu q1 q2 y1 y2 p1 p2 rec
theorem j0 (ok:HOk P w H s.heap)(hu:A.units<cLine)(rec:eg H s m m' A n)(hn:d.dep<=n)(hN:n<1000)(hE:e.dep<1000)(h1:Is H m d v)(h2:Is H m' e w')(r1:RelV v u)(r2:RelV w' u') :
 SeqAt.EqAt A s u u' (dq d e):=by
 rcases h1.shape ok (by lia) r1 with⟨rfl,rfl⟩|⟨b1,rfl,rfl⟩|⟨i1,t1,rfl,rfl⟩|⟨x1,t1,rfl,rfl⟩|⟨l1,a1,vs1,its1,rfl,rfl,rfl,q1,y1,p1⟩|⟨l1,a1,vs1,its1,rfl,rfl,rfl,q1,y1,p1⟩<;>rcases h2.shape ok hE r2 with⟨rfl,rfl⟩|⟨b2,rfl,rfl⟩|⟨i2,t2,rfl,rfl⟩|⟨x2,t2,rfl,rfl⟩|⟨l2,a2,vs2,its2,rfl,rfl,rfl,q2,y2,p2⟩|⟨l2,a2,vs2,its2,rfl,rfl,rfl,q2,y2,p2⟩;exact .same _;exact .none_bool b2;exact .none_int i2 t2;exact .none_str x2 t2;exact .none_list p2 hu;exact .none_tuple p2 hu;exact .bool_none b1;exact .bool_bool b1 b2;exact .bool_int b1 i2 t2;exact .bool_str b1 x2 t2;exact .bool_list b1 p2 hu;exact .bool_tuple b1 p2 hu;exact .int_none i1 t1;exact .int_bool i1 t1 b2;exact .int_int i1 t1 i2 t2;exact .int_str i1 t1 x2 t2;exact .int_list i1 t1 p2 hu;exact .int_tuple i1 t1 p2 hu;exact .str_none x1 t1;exact .str_bool x1 t1 b2;exact .str_int x1 t1 i2 t2;exact .str_str x1 t1 x2 t2;exact .str_list x1 t1 p2 hu;exact .str_tuple x1 t1 p2 hu;exact .list_none p1 hu;exact .list_bool b2 p1 hu;exact .list_int i2 t2 p1 hu;exact .list_str x2 t2 p1 hu;exact ic (ff ok hn hE hu q1 q2 y1 y2 p1 p2 rec) (fun z=>by subst z;rw[Is.inj h1 h2];exact dw _);exact .list_tuple p1 p2 hu;exact .tuple_none p1 hu;exact .tuple_bool b2 p1 hu;exact .tuple_int i2 t2 p1 hu;exact .tuple_str x2 t2 p1 hu;exact .tuple_list p1 p2 hu;exact ic (gm ok hn hE hu q1 q2 y1 y2 p1 p2 rec) (fun z=>by subst z;rw[Is.inj h1 h2];exact dw _)
theorem pZ (ok:HOk P w H s.heap):∀(n:Nat)(A:yi){d e:D}{v w':V}{u u':yh},A.units+n<cLine->n<1000->d.dep<=n->e.dep<1000->Is H m d v->Is H m' e w'->RelV v u->RelV w' u'->SeqAt.EqAt A s u u' (dq d e)
 |0,A,d,e,v,w',u,u',hu,hN,hn,hE,h1,h2,r1,r2=>j0 ok (by lia) (fun d e v w u u' hd=>absurd hd (by lia)) hn hN hE h1 h2 r1 r2
 |n+1,A,d,e,v,w',u,u',hu,hN,hn,hE,h1,h2,r1,r2=>j0 ok (by lia) (fun d e v w u u' hd he i1 i2 r1 r2=>pZ ok n A.in1 (by show A.units+1+n<cLine;lia) (by lia) (by lia) he i1 i2 r1 r2) hn hN hE h1 h2 r1 r2
theorem l7 (ok:HOk P w H s.heap)(hu:A.units+n<cLine)(hN:n<1000):eg H s m m' A n:=fun d e v w u u' hd he i1 i2 r1 r2=>pZ ok (n-1) A.in1 (by show A.units+1+(n-1)<cLine;lia) (by lia) (by lia) he i1 i2 r1 r2
end
abbrev St:=L2.St
inductive Res (α:Type) where
 |stuck|ok (a:α)|exc (c:Str)
noncomputable def Res.bind {α β:Type}:Res α->(α->Res β)->Res β
 | .stuck,_=>.stuck
 | .exc c,_=>.exc c
 | .ok a,k=>k a
@[simp] theorem Res.cF {α β:Type}(a:α)(k:α->Res β):(Res.ok a).bind k=k a:=rfl
inductive Kd where
 |no|tr (d:D)|ds (d:D)
inductive Sl where
 |val (d:D) (fr:Bool)|own (ds:List D) (fr:Bool)|gG (d:D)|n5 (d:D)
noncomputable abbrev En:=List (Option Sl)
inductive R where
 |val (d:D) (fr:Bool) (al:List Nat)|new (ds:List D) (fr:Bool)|gF (d:D)
noncomputable def R.d:R->D
 | .val d _ _=>d
 | .new ds _=>.lst ds
 | .gF d=>d
noncomputable def R.fr:R->Bool
 | .val _ f _=>f
 | .new _ f=>f
 | .gF _=>true
noncomputable def R.al:R->List Nat
 | .val _ _ al=>al
 | .new _ _=>[]
 | .gF _=>[]
def eh (d:D)(fr:Bool)(al:List Nat):R:=if d.flat then .val d true [] else .val d fr al
structure Gd where
 H₀:Hp
 Ma:Addr->Prop
 Z:Addr->Prop
 root:Option V
 wm:Option V
noncomputable abbrev tS (H:Hp)(Ma:Addr->Prop):Gd:=⟨H,Ma,fun _=>False,none,none⟩
def MuZ (g:Gd)(H:Hp)(a:Addr):Prop:=Mu H a\/(g.Z a/\∃ o u,H a=some (.bF o u))
theorem MuZ.same (h:MuZ g H a)(s:∀ o,H a=some o->H' a=some o):MuZ g H' a:=h.imp (fun z=>z.same s) fun⟨z,o,u,e⟩=>⟨z,o,u,s _ e⟩
def msk (g:Gd)(M:Addr->Prop)(fr:Bool)(a:Addr):Prop:=M a/\(fr=true->g.H₀ a=none)
noncomputable abbrev Pr:=Nat->Addr->Prop
def vmsk (g:Gd)(M:Addr->Prop)(fr:Bool)(ρ:Pr)(al:List Nat)(a:Addr):Prop:=msk g M fr a\/∃ i,i∈al/\ρ i a
mutual
noncomputable def IsSh (H:Hp)(m:Addr->Prop):D->V->Prop
 | .tup ds,v=>∃ a vs,v=.ref a/\H a=some (.tup vs)/\IsShs H m ds vs
 | .lst _,v=>∃ a vs,v=.ref a/\H a=some (.lst vs)/\m a
 |_,_=>True
noncomputable def IsShs (H:Hp)(m:Addr->Prop):List D->List V->Prop
 | [],_=>True
 |d::ds,vs=>∃ v r,vs=v::r/\IsSh H m d v/\IsShs H m ds r
end
def Dst (H:Hp)(T:Addr->Prop)(v:V):Prop:=∃(a:Addr)(vs:List V),v=.ref a/\T a/\(H a=some (.lst vs)\/(∃ kvs,H a=some (.dK kvs)/\vs=kvs.map Prod.snd)\/(H a=some (.dT [])/\vs=[]))/\V.ref a∉vs/\∀(i j:Nat)(b:Addr),vs[i]?=some (V.ref b)->vs[j]?=some (V.ref b)->i=j
theorem Dst.mono (kp:∀ a o,T a->H a=some o->H' a=some o)(mm:∀ a,T a->T' a)(h:Dst H T v):Dst H' T' v:=by obtain⟨a,vs,e,ta,h1,h2⟩:=h;exact⟨a,vs,e,mm a ta,h1.imp (kp a _ ta) (.imp (fun⟨kvs,q,z⟩=>⟨kvs,kp a _ ta q,z⟩) fun⟨q,z⟩=>⟨kp a _ ta q,z⟩),h2⟩
def KdOk (H:Hp)(T:Addr->Prop)(v:V):Kd->Prop
 | .no=>True
 | .tr d=>Is H T d v
 | .ds d=>Is H T d v/\Dst H T v
theorem KdOk.mono (kp:∀ a o,H a=some o->(T a\/cP o)->H' a=some o)(h:KdOk H T v k):KdOk H' T v k:=by
 cases k with
 |no=>exact h
 |tr d=>exact Is.mono kp (fun _ _ _ z=>z) h
 |ds d=>exact⟨Is.mono kp (fun _ _ _ z=>z) h.1,h.2.mono (fun a o z e=>kp a o e (.inl z)) fun _ z=>z⟩
noncomputable def Gd.rt (g:Gd)(n:Nat):Option V:=if n=0 then g.root else g.wm
def SlOk (g:Gd)(M T:Addr->Prop)(H:Hp)(v:V):Sl->Prop
 | .val d fr=>Is H (msk g M fr) d v
 | .own ds fr=>∃ a vs,v=.ref a/\H a=some (.lst vs)/\(∀ b,T b↔b=a)/\IsAll H (msk g M fr) ds vs
 | .gG d=>Is H T d v
 | .n5 d=>IsSh H T d v
noncomputable def Sl.vg:Sl->Bool
 | .val _ _=>false
 |_=>true
def cj (env:En)(j:Nat):Bool:=match env[j]? with
 |some (some sl)=>sl.vg
 |_=>false
structure Rep (g:Gd) (M:Addr->Prop) (ρ:Pr) (env:En) (σ:St) (H:Hp):Prop where
 same:Same g.H₀ H
 cL:∀ a,M a->H a≠none
 hV:∀ a,M a->g.H₀ a=none\/g.Ma a
 fl:∀ a,M a->g.H₀ a=none->MuZ g H a
 slot:∀(i:Nat)(sl:Sl),env[i]?=some (some sl)->∃ v,σ[i]?=some (some v)/\SlOk g M (ρ i) H v sl
 bg:∀(i:Nat)(a:Addr),ρ i a->¬ M a/\g.H₀ a=none/\Mu H a
 apart:∀(i j:Nat)(a:Addr),ρ i a->ρ j a->i=j
 ow:∀(i:Nat)(a:Addr),ρ i a->cj env i=true
 len:env.length=σ.length
 zz:∀ a,g.Z a->H a≠none
def ROk (g:Gd)(M:Addr->Prop)(ρ:Pr)(H0 H:Hp)(v:V):R->Prop
 | .val d fr al=>Is H (vmsk g M fr ρ al) d v
 | .new ds fr=>∃ a vs,v=.ref a/\H a=some (.lst vs)/\¬ M a/\H0 a=none/\(∀ i,¬ ρ i a)/\IsAll H (msk g M fr) ds vs
 | .gF d=>∃ T:Addr->Prop,(∀ a,T a->¬ M a/\H0 a=none/\Mu H a/\∀ i,¬ ρ i a)/\Is H T d v
structure Ext (M:Addr->Prop) (H:Hp) (M':Addr->Prop) (H':Hp):Prop where
 m:∀ a,M a->M' a
 h:Same H H'
 n:∀ a,M' a->M a\/H a=none
theorem Ext.refl (M:Addr->Prop)(H:Hp):Ext M H M H:=⟨fun _ z=>z,Same.refl H,fun _ z=>.inl z⟩
theorem Ext.trans {M M1 M2:Addr->Prop}(a:Ext M H M1 H1)(b:Ext M1 H1 M2 H2):Ext M H M2 H2:=⟨fun x z=>b.m x (a.m x z),a.h.trans b.h,fun x z=>(b.n x z).elim (a.n x) fun w=>.inr (a.h.free w)⟩
section
mutual
theorem IsSh.mono (kp:∀ a o,H a=some o->cP o->H' a=some o)(kl:∀ a vs,m a->H a=some (.lst vs)->∃ vs',H' a=some (.lst vs'))(mm:∀ a,m a->m' a):∀{d:D}{v:V},IsSh H m d v->IsSh H' m' d v
 | .cH,_,h=>h
 | .bl _,_,h=>h
 | .int _,_,h=>h
 | .str _,_,h=>h
 | .tup ds,_,h=>by obtain⟨a,vs,e,h1,h2⟩:=h;exact⟨a,vs,e,kp a _ h1 True.intro,IsShs.mono kp kl mm h2⟩
 | .lst ds,_,h=>by obtain⟨a,vs,e,h1,h2⟩:=h;obtain⟨vs',h3⟩:=kl a vs h2 h1;exact⟨a,vs',e,h3,mm a h2⟩
 | .gC _ _,_,h=>h
theorem IsShs.mono (kp:∀ a o,H a=some o->cP o->H' a=some o)(kl:∀ a vs,m a->H a=some (.lst vs)->∃ vs',H' a=some (.lst vs'))(mm:∀ a,m a->m' a):∀{ds:List D}{vs:List V},IsShs H m ds vs->IsShs H' m' ds vs
 | [],_,h=>h
 |d::ds,_,h=>by obtain⟨v,r,e,h1,h2⟩:=h;exact⟨v,r,e,IsSh.mono kp kl mm h1,IsShs.mono kp kl mm h2⟩
end
theorem msk.mono (mm:∀ a,M a->M' a)(h:msk g M fr a):msk g M' fr a:=⟨mm a h.1,h.2⟩
theorem vmsk.mono (mm:∀ a,M a->M' a)(h:vmsk g M fr ρ al a):vmsk g M' fr ρ al a:=h.imp (msk.mono mm) id
theorem Is.ext (e:Ext M H M' H')(h:Is H (vmsk g M fr ρ al) d v):Is H' (vmsk g M' fr ρ al) d v:=h.mono (fun a o q _=>e.h a o q) fun _ _ _ z=>z.mono e.m
theorem IsAll.ext (e:Ext M H M' H')(h:IsAll H (vmsk g M fr ρ al) ds vs):IsAll H' (vmsk g M' fr ρ al) ds vs:=h.mono (fun a o q _=>e.h a o q) fun _ _ _ z=>z.mono e.m
theorem SlOk.weak (mm:∀ a,M a->M' a)(h:SlOk g M T H v sl):SlOk g M' T H v sl:=by
 cases sl with
 |val d fr=>exact Is.weak (fun b z=>msk.mono mm z) h
 |own ds fr=>obtain⟨b,vs,rfl,h1,h2,h4⟩:=h;exact⟨b,vs,rfl,h1,h2,IsAll.weak (fun b z=>msk.mono mm z) h4⟩
 |gG d=>exact h
 |n5 d=>exact h
theorem SlOk.same (s:Same H H')(h:SlOk g M T H v sl):SlOk g M T H' v sl:=by
 cases sl with
 |val d fr=>exact Is.same s h
 |own ds fr=>obtain⟨b,vs,rfl,h1,h2,h4⟩:=h;exact⟨b,vs,rfl,s _ _ h1,h2,IsAll.same s h4⟩
 |gG d=>exact Is.same s h
 |n5 d=>exact IsSh.mono (fun a o e _=>s a o e) (fun a vs _ e=>⟨vs,s _ _ e⟩) (fun _ z=>z) h
theorem Rep.nV {T:Addr->Prop}(r:Rep g M ρ env σ H)(ht:∀ a,T a->Mu H a/\g.H₀ a=none/\∀ i,¬ ρ i a):Rep g (fun b=>M b\/T b) ρ env σ H where
 same:=r.same
 cL:=fun b hb=>hb.elim (r.cL b) fun e=>(ht b e).1.some
 hV:=fun b hb=>hb.elim (r.hV b) fun e=>.inl (ht b e).2.1
 fl:=fun b hb h0=>hb.elim (fun z=>r.fl b z h0) fun e=>.inl (ht b e).1
 slot:=fun i sl e=>by obtain⟨v,ev,s⟩:=r.slot i sl e;exact⟨v,ev,SlOk.weak (fun _=>.inl) s⟩
 bg:=fun i a h=>⟨fun z=>z.elim (r.bg i a h).1 fun z=>(ht a z).2.2 i h,(r.bg i a h).2⟩
 apart:=r.apart
 ow:=r.ow
 len:=r.len
 zz:=r.zz
theorem Rep.more {a:Addr}(r:Rep g M ρ env σ H)(ha:H a=some (.lst ws))(h0:g.H₀ a=none)(no:∀ i,¬ ρ i a):Rep g (fun b=>M b\/b=a) ρ env σ H:=r.nV fun b e=>by subst e;exact⟨Mu.lst ha,h0,no⟩
theorem Rep.grow (r:Rep g M ρ env σ H)(s:Same H H'):Rep g M ρ env σ H' where
 same:=r.same.trans s
 cL:=fun a ha e=>by
  cases q:H a with
  |none=>exact r.cL a ha q
  |some o=>rw[s a o q]at e;cases e
 hV:=r.hV
 fl:=fun a ha h0=>(r.fl a ha h0).same fun o e=>s a o e
 slot:=fun i sl e=>by obtain⟨v,ev,k⟩:=r.slot i sl e;exact⟨v,ev,SlOk.same s k⟩
 bg:=fun i a h=>let ⟨a1,a2,a3⟩:=r.bg i a h;⟨a1,a2,a3.same fun o e=>s a o e⟩
 apart:=r.apart
 ow:=r.ow
 len:=r.len
 zz:=fun a z e=>by
  cases q:H a with
  |none=>exact r.zz a z q
  |some o=>rw[s a o q]at e;cases e
theorem Rep.free (r:Rep g M ρ env σ H)(h:H a=none):g.H₀ a=none/\¬ M a/\∀ i,¬ ρ i a:=by refine⟨r.same.free h,fun z=>r.cL a z h,fun i o=>?_⟩;exact(r.bg i a o).2.2.some h
theorem aK (h:H a=none):Same H (aX H a o):=fun b u e=>by rw[aA (aH e h)];exact e
theorem ROk.is (rep:Rep g M ρ env σ H)(x:Ext M0 H0 M H)(h0:Same g.H₀ H0)(h:ROk g M ρ H0 H v r):∃ M',Ext M0 H0 M' H/\(∀ a,M a->M' a)/\Rep g M' ρ env σ H/\Is H (vmsk g M' r.fr ρ r.al) r.d v:=by
 cases r with
 |val d fr al=>exact⟨M,x,fun _ z=>z,rep,h⟩
 |new ds fr=>obtain⟨a,vs,rfl,h1,h2,h3,h4,h5⟩:=h;have z0:g.H₀ a=none:=h0.free h3;exact⟨fun b=>M b\/b=a,⟨fun b z=>.inl (x.m b z),x.h,fun b z=>z.elim (x.n b) fun e=>.inr (e▸h3)⟩,fun _=>.inl,rep.more h1 z0 h4,a,vs,rfl,.inl ⟨h1,.inl ⟨.inr rfl,fun _=>z0⟩⟩,IsAll.weak (fun b z=>.inl (msk.mono (fun _=>.inl) z)) h5⟩
 |gF d=>obtain⟨T,ht,is⟩:=h;exact⟨fun b=>M b\/T b,⟨fun b z=>.inl (x.m b z),x.h,fun b z=>z.elim (x.n b) fun e=>.inr (ht b e).2.1⟩,fun _=>.inl,rep.nV fun a z=>let ⟨a1,a2,a3,a4⟩:=ht a z;⟨a3,h0.free a2,a4⟩,Is.weak (fun b z=>.inl ⟨.inr z,fun _=>h0.free (ht b z).2.1⟩) is⟩
theorem ROk.eh (h:Is H (vmsk g M fr ρ al) d v):ROk g M ρ H0 H v (eh d fr al):=by
 unfold L3.eh;split
 .exact Is.flat (by assumption) h
 .exact h
theorem ROk.back (s:Same H1 H0)(h:ROk g M ρ H0 H v r):ROk g M ρ H1 H v r:=by
 cases r with
 |val d fr al=>exact h
 |new ds fr=>obtain⟨a,vs,rfl,h1,h2,h3,h4,h5⟩:=h;exact⟨a,vs,rfl,h1,h2,s.free h3,h4,h5⟩
 |gF d=>obtain⟨T,ht,is⟩:=h;exact⟨T,fun a z=>let ⟨a1,a2,a3⟩:=ht a z;⟨a1,s.free a2,a3⟩,is⟩
end
def oG (mg:Str->Option yh)(E:XK)(g:Gd)(c:Str):Prop:=∀ cls dx H',mg c=some cls->Same g.H₀ H'->E cls dx H'
section
variable (mg:Str->Option yh)(E:XK)(g:Gd)(M:Addr->Prop)(ρ:Pr)(env:En)(σ:St)(H:Hp)
def PostE (Q:VK):Res R->Prop
 | .stuck=>False
 | .exc c=>oG mg E g c
 | .ok r=>∀ v M' H',Ext M H M' H'->Rep g M' ρ env σ H'->ROk g M' ρ H H' v r->Q v H'
def aW (rs:List R):Bool:=rs.all R.fr
def bu (rs:List R):List Nat:=rs.flatMap R.al
def PostA (Q:List V->Hp->Prop):Res (List R)->Prop
 | .stuck=>False
 | .exc c=>oG mg E g c
 | .ok rs=>∀ vs M' H',Ext M H M' H'->Rep g M' ρ env σ H'->IsAll H' (vmsk g M' (aW rs) ρ (bu rs)) (rs.map R.d) vs->Q vs H'
noncomputable def PostT (Q:Bool->Hp->Prop):Res Bool->Prop
 | .stuck=>False
 | .exc c=>oG mg E g c
 | .ok b=>∀ M' H',Ext M H M' H'->Rep g M' ρ env σ H'->Q b H'
end
def Snd (mg:Str->Option yh)(E:XK)(t:TE)(f:En->Res R):Prop:=∀ g M ρ env σ H Q,Rep g M ρ env σ H->PostE mg E g M ρ env σ H Q (f env)->t σ H Q
def SndA (mg:Str->Option yh)(E:XK)(t:TA)(f:En->Res (List R)):Prop:=∀ g M ρ env σ H Q,Rep g M ρ env σ H->PostA mg E g M ρ env σ H Q (f env)->t σ H Q
def SndT (mg:Str->Option yh)(E:XK)(t:TT)(f:En->Res Bool):Prop:=∀ g M ρ env σ H Q,Rep g M ρ env σ H->PostT mg E g M ρ env σ H Q (f env)->t σ H Q
def PD (X:Cx)(E:XK)(e:Expr)(f:En->Res R):Prop:=∃ t,PE X e t/\Snd X.mg E t f
def lC (X:Cx)(E:XK)(es:List Expr)(f:En->Res (List R)):Prop:=∃ t,PA X es t/\SndA X.mg E t f
def p6 (X:Cx)(E:XK)(e:Expr)(f:En->Res Bool):Prop:=∃ t,PT X e t/\SndT X.mg E t f
def PWD (X:Cx)(E:XK)(e:Expr)(f:En->Res Bool):Prop:=∃ t,PW X e t/\SndT X.mg E t f
theorem PWD.pt (h:PWD X E e f):p6 X E e f:=let ⟨t,a,b⟩:=h;⟨t,a.pt,b⟩
section
theorem PostE.ext (e:Ext M H M' H')(p:PostE mg E g M ρ env σ H Q r):PostE mg E g M' ρ env σ H' Q r:=by
 cases r with
 |stuck=>exact p
 |exc c=>exact p
 |ok r=>exact fun v M2 H2 e2 rep2 ro=>p v M2 H2 (e.trans e2) rep2 (ro.back e.h)
theorem PostA.ext (e:Ext M H M' H')(p:PostA mg E g M ρ env σ H Q r):PostA mg E g M' ρ env σ H' Q r:=by
 cases r with
 |stuck=>exact p
 |exc c=>exact p
 |ok r=>exact fun v M2 H2 e2=>p v M2 H2 (e.trans e2)
theorem PostT.ext (e:Ext M H M' H')(p:PostT mg E g M ρ env σ H Q r):PostT mg E g M' ρ env σ H' Q r:=by
 cases r with
 |stuck=>exact p
 |exc c=>exact p
 |ok r=>exact fun M2 H2 e2=>p M2 H2 (e.trans e2)
theorem PostE.val (p:PostE mg E g M ρ env σ H Q (.ok (eh d fr al)))(rep:Rep g M ρ env σ H)(h:Is H (vmsk g M fr ρ al) d v):Q v H:=p v M H (Ext.refl M H) rep (ROk.eh h)
theorem PostE.new (p:PostE mg E g M ρ env σ H Q (.ok (.new ds fr)))(rep:Rep g M ρ env σ H)(ha:H a=none)(h:IsAll H (msk g M fr) ds vs):Q (.ref a) (aX H a (.lst vs)):=by have s:Same H (aX H a (.lst vs)):=aK ha;obtain⟨h0,hm,ho⟩:=rep.free ha;exact p _ M _ ⟨fun _ z=>z,s,fun _ z=>.inl z⟩ (rep.grow s) ⟨a,vs,rfl,aI,hm,ha,ho,IsAll.same s h⟩
theorem PostE.tup (p:PostE mg E g M ρ env σ H Q (.ok (eh (.tup ds) fr al)))(rep:Rep g M ρ env σ H)(ha:H a=none)(h:IsAll H (vmsk g M fr ρ al) ds vs):Q (.ref a) (aX H a (.tup vs)):=by have s:Same H (aX H a (.tup vs)):=aK ha;exact p _ M _ ⟨fun _ z=>z,s,fun _ z=>.inl z⟩ (rep.grow s) (ROk.eh ⟨a,vs,rfl,aI,IsAll.same s h⟩)
theorem Snd.one {t:TE}{f:En->Res R}(h:Snd mg E t f)(rep:Rep g M ρ env σ H){α:Type}{K:R->Res α}{P:(M:Addr->Prop)->(H:Hp)->Res α->Prop}{Q:VK}
 (hp:P M H ((f env).bind K)) (hs:∀ M H,P M H .stuck->False) (hx:∀ M H c,P M H (.exc c)->oG mg E g c) (he:∀ M H M' H' r,Ext M H M' H'->P M H r->P M' H' r)
 (k:∀ r v M' H',Ext M H M' H'->Rep g M' ρ env σ H'->Is H' (vmsk g M' r.fr ρ r.al) r.d v->P M' H' (K r)->Q v H'):t σ H Q:=by
 refine h g M ρ env σ H Q rep ?_;cases e:f env with
 |stuck=>rw[e]at hp;exact hs _ _ hp
 |exc c=>rw[e]at hp;exact hx _ _ c hp
 |ok r=>rw[e]at hp;intro v M1 H1 e1 rep1 ro;obtain⟨M2,e2,_,rep2,is⟩:=ro.is rep1 e1 rep.same;exact k r v M2 H1 e2 rep2 is (he _ _ _ _ _ e2 hp)
theorem Snd.fZ {f:En->Res R}(h:Snd mg E t f)(rep:Rep g M ρ env σ H){K:R->Res R}(hp:PostE mg E g M ρ env σ H Q' ((f env).bind K))
 (k:∀ r v M' H',Ext M H M' H'->Rep g M' ρ env σ H'->Is H' (vmsk g M' r.fr ρ r.al) r.d v->PostE mg E g M' ρ env σ H' Q' (K r)->Q v H'):t σ H Q:=
 h.one rep (P:=fun M H r=>PostE mg E g M ρ env σ H Q' r) hp (fun _ _ z=>z) (fun _ _ _ z=>z) (fun _ _ _ _ _ e p=>p.ext e) k
theorem Snd.sX {f:En->Res R}(h:Snd mg E t f)(rep:Rep g M ρ env σ H){K:R->Res (List R)}{Q':List V->Hp->Prop}(hp:PostA mg E g M ρ env σ H Q' ((f env).bind K))
 (k:∀ r v M' H',Ext M H M' H'->Rep g M' ρ env σ H'->Is H' (vmsk g M' r.fr ρ r.al) r.d v->PostA mg E g M' ρ env σ H' Q' (K r)->Q v H'):t σ H Q:=
 h.one rep (P:=fun M H r=>PostA mg E g M ρ env σ H Q' r) hp (fun _ _ z=>z) (fun _ _ _ z=>z) (fun _ _ _ _ _ e p=>p.ext e) k
theorem Snd.nO {f:En->Res R}(h:Snd mg E t f)(rep:Rep g M ρ env σ H){K:R->Res Bool}{Q':Bool->Hp->Prop}(hp:PostT mg E g M ρ env σ H Q' ((f env).bind K))
 (k:∀ r v M' H',Ext M H M' H'->Rep g M' ρ env σ H'->Is H' (vmsk g M' r.fr ρ r.al) r.d v->PostT mg E g M' ρ env σ H' Q' (K r)->Q v H'):t σ H Q:=
 h.one rep (P:=fun M H r=>PostT mg E g M ρ env σ H Q' r) hp (fun _ _ z=>z) (fun _ _ _ z=>z) (fun _ _ _ _ _ e p=>p.ext e) k
theorem Snd.nZ {fa fb:En->Res R}(ha:Snd mg E ta fa)(hb:Snd mg E tb fb)(rep:Rep g M ρ env σ H){K:R->R->Res R}{S:V->V->Hp->Prop}
 (hp:PostE mg E g M ρ env σ H Q' ((fa env).bind fun ra=>(fb env).bind fun rb=>K ra rb))
 (k:∀ ra rb x y M' H',Rep g M' ρ env σ H'->Is H' (vmsk g M' ra.fr ρ ra.al) ra.d x->Is H' (vmsk g M' rb.fr ρ rb.al) rb.d y->PostE mg E g M' ρ env σ H' Q' (K ra rb)->S x y H') :
 ta σ H fun x H1=>tb σ H1 fun y H2=>S x y H2:=
 ha.fZ rep hp fun ra x M1 H1 e1 rep1 i1 p1=>hb.fZ rep1 p1 fun rb y M2 H2 e2 rep2 i2 p2=>k ra rb x y M2 H2 rep2 (i1.ext e2) i2 p2
end
noncomputable def lim:Nat:=1000000
theorem cz (h:n<=lim):n<=sizeLine:=by rw[xt];unfold lim at h;lia
theorem l9 (h:n<lim):n<sizeLine:=by rw[xt];unfold lim at h;lia
def eR (ds:List D)(fr:Bool)(al:List Nat):R:=if D.bO ds then .new ds true else if al.isEmpty then .new ds fr else .val (.lst ds) fr al
section
theorem vmsk.nil (h:vmsk g M fr ρ [] a):msk g M fr a:=h.elim id fun⟨_,z,_⟩=>absurd z (by simp)
theorem PostE.lst (p:PostE mg E g M ρ env σ H Q (.ok (eR ds fr al)))(rep:Rep g M ρ env σ H)(ha:H a=none)(h:IsAll H (vmsk g M fr ρ al) ds vs):Q (.ref a) (aX H a (.lst vs)):=by
 unfold eR at p;by_cases hf:D.bO ds=true
 .rw[da hf]at p;exact p.new rep ha (IsAll.flat hf h)
 .rw[fR hf]at p;cases al with
  |nil=>exact PostE.new (p:=p) rep ha (IsAll.weak (fun _ z=>z.nil) h)
  |cons i al=>have p:PostE mg E g M ρ env σ H Q (.ok (.val (.lst ds) fr (i::al))):=p;have s:Same H (aX H a (.lst vs)):=aK ha;obtain⟨h0,hm,ho⟩:=rep.free ha;refine p _ (fun b=>M b\/b=a) _ ⟨fun _=>.inl,s,fun b z=>z.imp id fun(e:b=a)=>by grind⟩ ((rep.grow s).more aI h0 ho) ⟨a,vs,rfl,.inl ⟨aI,.inl ⟨.inr rfl,fun _=>h0⟩⟩,?_⟩;exact(IsAll.same s h).weak fun b z=>z.mono fun _=>.inl
theorem Is.rd (h:Is H m (.lst ds) v):∃ a vs,v=.ref a/\Rd H a (.lst vs)/\IsAll H m ds vs:=by obtain⟨a,vs,e,h1,h2⟩:=h;exact⟨a,vs,e,h1.imp (·.1) fun⟨o,z,_⟩=>⟨o,z⟩,h2⟩
end
section
def aL (i:Nat):En->Res R:=fun env=>match env[i]? with
 |some (some (.val d fr))=>.ok (eh d fr [])
 |some (some (.own ds fr))=>.ok (.val (.lst ds) fr [i])
 |some (some (.gG d))=>.ok (.val d true [i])
 |_=>.stuck
theorem j3:Snd mg E (dc i) (aL i):=by
 intro g M ρ env σ H Q rep p;unfold aL at p;cases e1:env[i]? with
 |none=>rw[e1]at p;exact p.elim
 |some o=>
  cases o with
  |none=>rw[e1]at p;exact p.elim
  |some sl=>
   obtain⟨v,ev,k⟩:=rep.slot i sl e1;rw[e1]at p;refine⟨v,ev,?_⟩;cases sl with
   |val d fr=>exact PostE.val p rep (Is.weak (fun _ z=>.inl z) k)
   |own ds fr=>obtain⟨a,vs,rfl,h1,h2,h4⟩:=k;exact p _ M H (Ext.refl M H) rep ⟨a,vs,rfl,.inl ⟨h1,.inr ⟨i,by simp,(h2 a).mpr rfl⟩⟩,IsAll.weak (fun _ z=>.inl z) h4⟩
   |gG d=>exact p _ M H (Ext.refl M H) rep (Is.weak (fun a z=>.inr ⟨i,by simp,z⟩) k)
   |n5 d=>exact p.elim
theorem aB (h:PE X e (dc i)):PD X E e (aL i):=⟨_,h,j3⟩
def vC (d:D):En->Res R:=fun _=>.ok (.val d true [])
theorem j5 (h:∀ H m,Is H m d v):Snd mg E (tC v) (vC d):=fun g M ρ env σ H Q rep p=>p v M H (Ext.refl M H) rep (h H _)
theorem aE {i j pos}:PD X E (.Constant (.int i) j pos) (vC (.int i)):=⟨_,lH,j5 fun _ _=>rfl⟩
theorem tT {b j pos}:PD X E (.Constant (.bool b) j pos) (vC (.bl b)):=⟨_,tq,j5 fun _ _=>rfl⟩
theorem l_ {x j pos}:PD X E (.Constant (.str x) j pos) (vC (.str x)):=⟨_,lI,j5 fun _ _=>rfl⟩
theorem q_ {j pos}:PD X E (.Constant .none j pos) (vC .cH):=⟨_,qE,j5 fun _ _=>rfl⟩
def v2 (op:R->R->Res R)(fa fb:En->Res R):En->Res R:=fun env=>(fa env).bind fun ra=>(fb env).bind fun rb=>op ra rb
def jt (X:Cx)(E:XK)(f:yh->yh->Sem yh)(op:R->R->Res R):Prop:=∃ r:R2,OpR X f r/\
 ∀ g M ρ env σ H Q ra rb x y,Rep g M ρ env σ H->Is H (vmsk g M ra.fr ρ ra.al) ra.d x->Is H (vmsk g M rb.fr ρ rb.al) rb.d y->PostE X.mg E g M ρ env σ H Q (op ra rb)->r x y H Q
theorem bw (ho:jt X E (binaryOp op) k)(ha:PD X E a fa)(hb:PD X E b fb):PD X E (.BinOp a op b pos) (v2 k fa fb):=by obtain⟨r,h1,h2⟩:=ho;obtain⟨ta,pa,sa⟩:=ha;obtain⟨tb,pb,sb⟩:=hb;exact⟨_,jV h1 pa pb,fun g M ρ env σ H Q rep p=>sa.nZ sb rep p fun ra rb x y M' H' rep' i1 i2 p'=>h2 g M' ρ env σ H' Q ra rb x y rep' i1 i2 p'⟩
theorem dR (ho:jt X E (compareOp op) k)(ha:PD X E a fa)(hb:PD X E b fb)(hm:behindInMarks op b=false):PD X E (.Compare a [op] [b] pos) (v2 k fa fb):=by obtain⟨r,h1,h2⟩:=ho;obtain⟨ta,pa,sa⟩:=ha;obtain⟨tb,pb,sb⟩:=hb;exact⟨_,oj h1 pa pb hm,fun g M ρ env σ H Q rep p=>sa.nZ sb rep p fun ra rb x y M' H' rep' i1 i2 p'=>h2 g M' ρ env σ H' Q ra rb x y rep' i1 i2 p'⟩
def oI (C:Int->Int->Bool)(k:Int->Int->D)(a b:R):Res R:=match a.d,b.d with
 | .int i,.int j=>if C i j then .ok (.val (k i j) true []) else .stuck
 |_,_=>.stuck
theorem j6 {f:yh->yh->Sem yh}{C:Int->Int->Prop}{kV:Int->Int->V}(c:Int->Int->Bool)(k:Int->Int->D)(ho:OpR X f (rI C kV))(hc:∀ i j,c i j=true->C i j)(hk:∀ H m i j,Is H m (k i j) (kV i j)):jt X E f (oI c k):=by
 refine⟨_,ho,fun g M ρ env σ H Q ra rb x y rep i1 i2 p=>?_⟩;unfold oI at p;cases e1:ra.d with
 |int i=>
  rw[e1]at p i1;cases e2:rb.d with
  |int j=>
   rw[e2]at p i2;cases i1;cases i2;by_cases h:c i j=true
   .simp only[h,x9]at p;exact⟨i,j,rfl,rfl,hc i j h,p _ M H (Ext.refl M H) rep (hk H _ i j)⟩
   .simp only[h]at p;exact p.elim
  |_=>rw[e2]at p;exact p.elim
 |_=>rw[e1]at p;exact p.elim
theorem gV {f:yh->yh->Sem yh}{kV:Int->Int->V}(k:Int->Int->D)(ho:OpR X f (pX kV))(hk:∀ H m i j,Is H m (k i j) (kV i j)):jt X E f (oI (fun _ _=>true) k):=by refine j6 (C:=fun _ _=>True) (kV:=kV) _ k (fun aa s σ H x y v u Q I rx ry h=>?_) (fun _ _ _=>True.intro) hk;obtain⟨i,j,a,b,_,q⟩:=h;exact ho aa s σ H x y v u Q I rx ry ⟨i,j,a,b,q⟩
def oH:R->R->Res R:=oI (fun _ _=>true) fun i j=>.int (i-j)
noncomputable def ma (i j:Int):Bool:=(decide (-(2 ^ 64)<i)&&decide (i<2 ^ 64)) || (decide (-(2 ^ 64)<j)&&decide (j<2 ^ 64))
def oJ:R->R->Res R:=oI ma fun i j=>.int (i*j)
def re:R->R->Res R:=oI (fun _ j=>decide (0<j)&&decide (j<1073741824)) fun i j=>.int (i / j)
def ie:R->R->Res R:=oI (fun _ j=>decide (0<j)) fun i j=>.int (i % j)
theorem md:jt X E (binaryOp .Sub) oH:=gV _ qN fun _ _ _ _=>rfl
theorem me:jt X E (binaryOp .Mult) oJ:=j6 _ _ qO (fun i j h=>by simp only[ma,xZ,db,xO]at h;exact h) fun _ _ _ _=>rfl
theorem rf:jt X E (binaryOp .FloorDiv) re:=j6 _ _ oi (fun i j h=>by simp only[db,xO]at h;exact h) fun _ _ _ _=>rfl
theorem dS:jt X E (binaryOp .Mod) ie:=j6 _ _ qP (fun i j h=>by simpa using h) fun _ _ _ _=>rfl
def va:R->R->Res R:=oI (fun _ _=>true) fun i j=>.bl (decide (i<j))
def ww:R->R->Res R:=oI (fun _ _=>true) fun i j=>.bl (decide (j<i))
def vJ:R->R->Res R:=oI (fun _ _=>true) fun i j=>.bl (decide (j<=i))
theorem p7:jt X E (compareOp .Lt) va:=gV _ tD fun _ _ _ _=>rfl
theorem tU:jt X E (compareOp .Gt) ww:=gV _ tE fun _ _ _ _=>rfl
theorem tV:jt X E (compareOp .GtE) vJ:=gV _ tF fun _ _ _ _=>rfl
theorem Inv.wG (I:L2.Inv X aa σ H s)(h:Rd H l (.lst xs)) :
 xs.length<=sizeLine/\∃(its:List yh)(n:Nat),Vals xs its/\xs.length=its.length/\s.heap.get? l=some { cls:=.type "list",data:=.seq its.toArray n }:=by
 obtain⟨z,its,n,r,e⟩:=(h.ok I.bc:ObjOk X.prog X.w H s.heap l (.lst xs));exact⟨z,its,n,r,r.length,e⟩
def tW:R2:=fun x y H Q=>∃ l b xs zs,x=.ref l/\y=.ref b/\Rd H l (.lst xs)/\Rd H b (.lst zs)/\xs.length+zs.length<=sizeLine/\∀ p,H p=none->Q (.ref p) (aX H p (.lst (xs++zs)))
theorem op_catS:OpR X (binaryOp .Add) tW:=by
 intro aa s σ H x y v u Q I rx ry h;obtain⟨l,b,xs,zs,rfl,rfl,hH,hB,hz,q⟩:=h;cases rx;cases ry;obtain⟨z,its,n,r,hl,e⟩:=Inv.wG I hH;obtain⟨z2,its2,n2,r2,hl2,e2⟩:=Inv.wG I hB;refine PySem.P.add_list e e2 ?_ (by grind);have ea:its.toArray++its2.toArray=(its++its2).toArray:=by simp
 rw[ea];exact⟨.ref _,_,I.u7 (t':=s.toks) (r.append r2) (by grind),rfl,q _ I.fresh⟩
def fg (a b:R):Res R:=match a.d,b.d with
 | .int i,.int j=>.ok (.val (.int (i+j)) true [])
 | .lst xs,.lst ys=>if xs.length+ys.length<=lim then .ok (eR (xs++ys) (a.fr&&b.fr) (a.al++b.al)) else .stuck
 | .tup xs,.tup ys=>if xs.length+ys.length<=lim/\xs≠[] then .ok (eh (.tup (xs++ys)) (a.fr&&b.fr) (a.al++b.al)) else .stuck
 | .str x,.str y=>if x.length+y.length<=lim then .ok (.val (.str (x++y)) true []) else .stuck
 |_,_=>.stuck
section
theorem vmsk.l (h:vmsk g M f1 ρ l1 a):vmsk g M (f1&&f2) ρ (l1++l2) a:=h.imp (fun z=>⟨z.1,fun e=>z.2 (by grind)⟩) fun⟨i,hi,o⟩=>⟨i,by simp[hi],o⟩
theorem vmsk.r (h:vmsk g M f2 ρ l2 a):vmsk g M (f1&&f2) ρ (l1++l2) a:=h.imp (fun z=>⟨z.1,fun e=>z.2 (by grind)⟩) fun⟨i,hi,o⟩=>⟨i,by simp[hi],o⟩
end
theorem cQ:jt X E (binaryOp .Add) fg:=by
 refine⟨_,op_add.or (op_catS.or (op_catT.or jl)),fun g M ρ env σ H Q ra rb x y rep i1 i2 p=>?_⟩;unfold fg at p;cases e1:ra.d with
 |int i=>
  rw[e1]at p i1;cases e2:rb.d with
  |int j=>rw[e2]at p i2;cases i1;cases i2;exact .inl ⟨i,j,rfl,rfl,p _ M H (Ext.refl M H) rep rfl⟩
  |_=>rw[e2]at p;exact p.elim
 |lst xs=>
  rw[e1]at p i1;cases e2:rb.d with
  |lst ys=>
   rw[e2]at p i2;obtain⟨a,vs,rfl,h1,h2⟩:=i1.rd;obtain⟨b,ws,rfl,h3,h4⟩:=i2.rd;by_cases hz:xs.length+ys.length<=lim
   .simp only[hz,x9]at p;refine .inr (.inl ⟨a,b,vs,ws,rfl,rfl,h1,h3,by rw[h2.length,h4.length];exact cz hz,fun q hq=>?_⟩);exact p.lst rep hq ((h2.weak fun _ z=>z.l).append (h4.weak fun _ z=>z.r))
   .simp only[hz,yc]at p;exact p.elim
  |_=>rw[e2]at p;exact p.elim
 |tup xs=>
  rw[e1]at p i1;cases e2:rb.d with
  |tup ys=>
   rw[e2]at p i2;obtain⟨a,vs,rfl,h1,h2⟩:=i1;obtain⟨b,ws,rfl,h3,h4⟩:=i2;dsimp only at p;by_cases hz:xs.length+ys.length<=lim/\xs≠[]
   .rw[da hz]at p;have n1:vs≠[]:=fun z=>hz.2 (by have:=h2.length;rw[z]at this;exact xU this.symm);refine .inr (.inr (.inl ⟨a,b,vs,ws,rfl,rfl,SqT.of h1,SqT.of h3,n1,by rw[h2.length,h4.length];exact cz hz.1,fun z=>?_,fun _ q hq=>?_⟩))
    .have ey:ys=[]:=by have:=h4.length;rw[z]at this;exact xU this.symm
     rw[ey,xm]at p;exact p.val rep (Is.weak (d:=.tup xs) (fun _ z=>z.l) ⟨a,vs,rfl,h1,h2⟩)
    .exact p.tup rep hq ((h2.weak fun _ z=>z.l).append (h4.weak fun _ z=>z.r))
   .rw[fR hz]at p;exact p.elim
  |_=>rw[e2]at p;exact p.elim
 |str xs=>
  rw[e1]at p i1;cases e2:rb.d with
  |str ys=>
   rw[e2]at p i2;cases i1;cases i2;by_cases hz:xs.length+ys.length<=lim
   .simp only[hz,x9]at p;exact .inr (.inr (.inr ⟨xs,ys,rfl,rfl,cz hz,p _ M H (Ext.refl M H) rep rfl⟩))
   .simp only[hz,yc]at p;exact p.elim
  |_=>rw[e2]at p;exact p.elim
 |_=>rw[e1]at p;exact p.elim
def lD (a b:R):Res R:=if a.d.dep<=50/\b.d.dep<=50 then .ok (.val (.bl (dq a.d b.d)) true []) else .stuck
def rg (a b:R):Res R:=if a.d.dep<=50/\b.d.dep<=50 then .ok (.val (.bl (!dq a.d b.d)) true []) else .stuck
def vK:R2:=fun x y H Q=>∃ d e m m',Is H m d x/\Is H m' e y/\(d.dep<=50/\e.dep<=50)/\Q (.bl (dq d e)) H
def vL:R2:=fun x y H Q=>∃ d e m m',Is H m d x/\Is H m' e y/\(d.dep<=50/\e.dep<=50)/\Q (.bl (!dq d e)) H
theorem rh (hu:X.A.units+64<cLine):OpR X (compareOp .Eq) vK:=by intro aa s σ H x y v u Q I rx ry h;obtain⟨d,e,m,m',h1,h2,hd,q⟩:=h;exact oE I.bc (by lia) (l7 I.bc (A:=X.A) (n:=50) (by lia) (by lia)) hd.1 (by lia) (by lia) h1 h2 rx ry X.prog X.w X.xe _ ⟨.bl _,H,I,rfl,q⟩
theorem ri (hu:X.A.units+64<cLine):OpR X (compareOp .NotEq) vL:=by intro aa s σ H x y v u Q I rx ry h;obtain⟨d,e,m,m',h1,h2,hd,q⟩:=h;exact oF I.bc (by lia) (l7 I.bc (A:=X.A) (n:=50) (by lia) (by lia)) hd.1 (by lia) (by lia) h1 h2 rx ry X.prog X.w X.xe _ ⟨.bl _,H,I,rfl,q⟩
theorem ig (hu:X.A.units+64<cLine):jt X E (compareOp .Eq) lD:=by
 refine⟨_,rh hu,fun g M ρ env σ H Q ra rb x y rep i1 i2 p=>?_⟩;unfold lD at p;by_cases h:ra.d.dep<=50/\rb.d.dep<=50
 .rw[da h]at p;exact⟨_,_,_,_,i1,i2,h,p _ M H (Ext.refl M H) rep rfl⟩
 .rw[fR h]at p;exact p.elim
theorem tX (hu:X.A.units+64<cLine):jt X E (compareOp .NotEq) rg:=by
 refine⟨_,ri hu,fun g M ρ env σ H Q ra rb x y rep i1 i2 p=>?_⟩;unfold rg at p;by_cases h:ra.d.dep<=50/\rb.d.dep<=50
 .rw[da h]at p;exact⟨_,_,_,_,i1,i2,h,p _ M H (Ext.refl M H) rep rfl⟩
 .rw[fR h]at p;exact p.elim
end
section
variable {X:Cx}
def oK (fa fb:En->Res R):En->Res R:=fun env=>(fa env).bind fun ra=>match ra.d with
 | .bl true=>fb env
 | .bl false=>.ok (.val (.bl false) true [])
 |_=>.stuck
theorem mf (ha:PD X E a fa):PD X E (.BoolOp op [a] pos) fa:=let ⟨t,pa,sa⟩:=ha;⟨t,qG pa,sa⟩
theorem mh {aP:List Expr}{fa fb:En->Res R}{pos:Pos}(ha:PD X E a fa)(hb:PD X E (.BoolOp .And (b::aP) pos) fb):PD X E (.BoolOp .And (a::b::aP) pos) (oK fa fb):=by
 obtain⟨ta,pa,sa⟩:=ha;obtain⟨tb,pb,sb⟩:=hb;refine⟨_,qH pa pb,fun g M ρ env σ H Q rep p=>sa.fZ rep p fun r v M' H' e rep' i p'=>?_⟩;cases q:r.d with
 |bl b=>
  rw[q]at i;simp only[q]at p';cases i;refine⟨b,rfl,?_⟩;cases b with
  |true=>exact lV (sb g M' ρ env σ H' Q rep' p')
  |false=>exact jq (p' _ M' H' (Ext.refl _ _) rep' rfl)
 |_=>simp only[q]at p';exact p'.elim
def p8:D->Res Bool
 | .cH=>.ok false
 | .bl b=>.ok b
 | .int i=>.ok (i != 0)
 | .str y=>if y.length<=lim then .ok ((y.length:Int) != 0) else .stuck
 | .tup ds=>.ok (!ds.isEmpty)
 | .lst ds=>.ok (!ds.isEmpty)
 | .gC _ _=>.stuck
theorem Is.p8 (h:Is H m d v)(e:p8 d=.ok k):qR X.K v H k:=by
 cases d with
 |cH=>cases h;cases e;rfl
 |bl b=>cases h;cases e;rfl
 |int b=>cases h;cases e;rfl
 |str b=>
  cases h;unfold L3.p8 at e;dsimp only at e;by_cases hl:b.length<=lim
  .rw[da hl]at e;cases e;exact⟨cz hl,rfl⟩
  .rw[fR hl]at e;cases e
 |tup ds=>obtain⟨a,vs,rfl,h1,h2⟩:=h;cases e;refine .inr (.inl ⟨vs,SqT.of h1,?_⟩);have:=h2.length;cases ds<;>cases vs<;>simp_all
 |lst ds=>obtain⟨a,vs,rfl,h1,h2⟩:=h.rd;cases e;refine .inl ⟨vs,.inl h1,?_⟩;have:=h2.length;cases ds<;>cases vs<;>simp_all
 |gC ks ds=>cases e
def oM (fa:En->Res R):En->Res Bool:=fun env=>(fa env).bind fun ra=>p8 ra.d
theorem mj (ha:PD X E a fa)(he:autoParam (∀ whole,isTrue a X.env whole=(do let v <- whole;standAt a.pos;holding [v] (truthy v))) yn._auto_1):p6 X E a (oM fa):=by
 obtain⟨ta,pa,sa⟩:=ha;refine⟨_,lM pa he,fun g M ρ env σ H Q rep p=>sa.nO rep p fun r v M' H' e rep' i p'=>?_⟩;cases q:p8 r.d with
 |stuck=>rw[q]at p';exact p'.elim
 |exc c=>
  exfalso;unfold p8 at q
  grind
 |ok k=>rw[q]at p';exact⟨k,i.p8 q,p' M' H' (Ext.refl _ _) rep'⟩
def vB (fa:En->Res R):En->Res Bool:=fun env=>(fa env).bind fun ra=>match ra.d with
 | .bl b=>.ok b
 |_=>.stuck
theorem eS (ho:jt X E (compareOp op) k)(ha:PD X E a fa)(hb:PD X E b fb)(hm:behindInMarks op b=false):p6 X E (.Compare a [op] [b] pos) (vB (v2 k fa fb)):=by
 obtain⟨r,h1,h2⟩:=ho;obtain⟨ta,pa,sa⟩:=ha;obtain⟨tb,pb,sb⟩:=hb;have S:Snd X.mg E (lL r ta tb) (v2 k fa fb):=fun g M ρ env σ H Q rep p=>sa.nZ sb rep p fun ra rb x y M' H' rep' i1 i2 p'=>h2 g M' ρ env σ H' Q ra rb x y rep' i1 i2 p';refine⟨_,om h1 pa pb hm,fun g M ρ env σ H Q rep p=>S.nO rep p fun r v M' H' e rep' i p'=>?_⟩;cases q:r.d with
 |bl b=>rw[q]at i;simp only[q]at p';cases i;exact⟨b,rfl,p' M' H' (Ext.refl _ _) rep'⟩
 |_=>simp only[q]at p';exact p'.elim
def oN (fa:En->Res Bool):En->Res Bool:=fun env=>(fa env).bind fun b=>.ok (!b)
def vM (fa fb:En->Res Bool):En->Res Bool:=fun env=>(fa env).bind fun b=>if b then .ok true else fb env
section
theorem SndT.nO {f:En->Res Bool}(h:SndT mg E t f)(rep:Rep g M ρ env σ H){K:Bool->Res Bool}{Q':Bool->Hp->Prop}{Q:Bool->Hp->Prop}(hp:PostT mg E g M ρ env σ H Q' ((f env).bind K))
 (k:∀ b M' H',Ext M H M' H'->Rep g M' ρ env σ H'->PostT mg E g M' ρ env σ H' Q' (K b)->Q b H'):t σ H Q:=by
 refine h g M ρ env σ H Q rep ?_;cases e:f env with
 |stuck=>rw[e]at hp;exact hp
 |exc c=>rw[e]at hp;exact hp
 |ok b=>rw[e]at hp;exact fun M1 H1 e1 rep1=>k b M1 H1 e1 rep1 (PostT.ext e1 hp)
end
theorem j7 (ha:p6 X E a fa):p6 X E (.UnaryOp .Not a pos) (oN fa):=by obtain⟨ta,pa,sa⟩:=ha;exact⟨_,je pa,fun g M ρ env σ H Q rep p=>sa.nO rep p fun b M' H' e rep' p'=>p' M' H' (Ext.refl _ _) rep'⟩
theorem oO (ha:p6 X E a fa):PWD X E (.BoolOp .Or [a] pos) fa:=let ⟨t,pa,sa⟩:=ha;⟨t,lJ pa,sa⟩
theorem rj {aP:List Expr}{fa fb:En->Res Bool}{pos:Pos}(ha:p6 X E a fa)(hb:PWD X E (.BoolOp .Or (b::aP) pos) fb):PWD X E (.BoolOp .Or (a::b::aP) pos) (vM fa fb):=by
 obtain⟨ta,pa,sa⟩:=ha;obtain⟨tb,pb,sb⟩:=hb;refine⟨_,pU pa pb,fun g M ρ env σ H Q rep p=>sa.nO rep p fun b M' H' e rep' p'=>?_⟩;cases b with
 |true=>exact lV (p' M' H' (Ext.refl _ _) rep')
 |false=>exact jq (sb g M' ρ env σ H' Q rep' p')
def n3 (a b:R):Res R:=match a.d,b.d with
 | .lst xs,.int i=>match cq xs i with
  |some d=>.ok (eh d a.fr a.al)
  |none=>.stuck
 | .tup xs,.int i=>match cq xs i with
  |some d=>.ok (eh d a.fr a.al)
  |none=>.stuck
 | .str z,.int i=>if z.length<=lim then (match cq z.cps.toList i with
  |some c=>.ok (.val (.str ⟨#[c]⟩) true [])
  |none=>.stuck) else .stuck
 |_,_=>.stuck
theorem IsAll.cq (h:IsAll H m ds vs)(e:L2.cq ds i=some d):∃ v,L2.cq vs i=some v/\Is H m d v:=by
 unfold L2.cq at e ⊢;rw[h.length];cases q:lS ds.length i with
 |none=>rw[q]at e;cases e
 |some j=>rw[q]at e;exact h.get e
theorem p9:∃ r:R2,IxR X r/\∀ g M ρ env σ H Q ra rb x y,Rep g M ρ env σ H->Is H (vmsk g M ra.fr ρ ra.al) ra.d x->Is H (vmsk g M rb.fr ρ rb.al) rb.d y->PostE X.mg E g M ρ env σ H Q (n3 ra rb)->r x y H Q:=by
 refine⟨_,qW,fun g M ρ env σ H Q ra rb x y rep i1 i2 p=>?_⟩;unfold n3 at p;cases e1:ra.d with
 |lst xs=>
  rw[e1]at p i1;cases e2:rb.d with
  |int i=>
   rw[e2]at p i2;cases i2;obtain⟨a,vs,rfl,h1,h2⟩:=i1.rd;cases q:cq xs i with
   |none=>simp only[q]at p;exact p.elim
   |some d=>simp only[q]at p;obtain⟨v,ev,iv⟩:=h2.cq q;exact .inl ⟨a,vs,i,v,rfl,rfl,.inl h1,ev,p.val rep iv⟩
  |_=>rw[e2]at p;exact p.elim
 |tup xs=>
  rw[e1]at p i1;cases e2:rb.d with
  |int i=>
   rw[e2]at p i2;cases i2;obtain⟨a,vs,rfl,h1,h2⟩:=i1;cases q:cq xs i with
   |none=>simp only[q]at p;exact p.elim
   |some d=>simp only[q]at p;obtain⟨v,ev,iv⟩:=h2.cq q;exact .inr (.inl ⟨a,vs,i,v,rfl,rfl,SqT.of h1,ev,p.val rep iv⟩)
  |_=>rw[e2]at p;exact p.elim
 |str z=>
  rw[e1]at p i1;cases e2:rb.d with
  |int i=>
   rw[e2]at p i2;cases i1;cases i2;by_cases hz:z.length<=lim
   .simp only[hz,x9]at p;cases q:cq z.cps.toList i with
    |none=>simp only[q]at p;exact p.elim
    |some c=>simp only[q]at p;exact .inr (.inr ⟨z,i,c,rfl,rfl,cz hz,q,p _ M H (Ext.refl _ _) rep rfl⟩)
   .simp only[hz,yc]at p;exact p.elim
  |_=>rw[e2]at p;exact p.elim
 |_=>rw[e1]at p;exact p.elim
theorem tY (ha:PD X E a fa)(hb:PD X E b fb)(hs:gM b):PD X E (.Subscript a b pos) (v2 n3 fa fb):=by obtain⟨r,h1,h2⟩:=p9 (X:=X) (E:=E);obtain⟨ta,pa,sa⟩:=ha;obtain⟨tb,pb,sb⟩:=hb;exact⟨_,lT h1 pa pb hs,fun g M ρ env σ H Q rep p=>sa.nZ sb rep p fun ra rb x y M' H' rep' i1 i2 p'=>h2 g M' ρ env σ H' Q ra rb x y rep' i1 i2 p'⟩
def cA (i:Nat)(fb:En->Res R):En->Res R:=fun env=>match env[i]? with
 |some (some (.own ds fr))=>(fb env).bind fun rb=>match rb.d with
  | .int k=>match cq ds k with
   |some d=>.ok (eh d fr [])
   |none=>.stuck
  |_=>.stuck
 |_=>v2 n3 (aL i) fb env
theorem bv (ha:PE X a (dc i))(hb:PD X E b fb)(hs:gM b):PD X E (.Subscript a b pos) (cA i fb):=by
 obtain⟨r,h1,h2⟩:=p9 (X:=X) (E:=E);obtain⟨tb,pb,sb⟩:=hb;refine⟨_,lT (ix_list.or h1) ha pb hs,fun g M ρ env σ H Q rep p=>?_⟩;have gen:PostE X.mg E g M ρ env σ H Q (v2 n3 (aL i) fb env)->lL (fun x y H Q=>oz X.K x y H Q\/r x y H Q) (dc i) tb σ H Q:=fun p=>Snd.nZ j3 sb rep p fun ra rb x y M' H' rep' i1 i2 p'=>.inr (h2 g M' ρ env σ H' Q ra rb x y rep' i1 i2 p');unfold cA at p;cases e1:env[i]? with
 |none=>rw[e1]at p;exact gen p
 |some o=>
  cases o with
  |none=>rw[e1]at p;exact gen p
  |some sl=>
   cases sl with
   |val d fr=>rw[e1]at p;exact gen p
   |gG d=>rw[e1]at p;exact gen p
   |n5 d=>rw[e1]at p;exact gen p
   |own ds fr=>
    rw[e1]at p;obtain⟨v,ev,a,vs,rfl,k1,k2,k4⟩:=rep.slot i _ e1;refine⟨_,ev,sb.fZ rep p fun rb y M' H' e rep' i2 p'=>?_⟩;cases q:rb.d with
    |int k=>
     rw[q]at i2;simp only[q]at p';cases i2;cases q2:cq ds k with
     |none=>simp only[q2]at p';exact p'.elim
     |some d=>simp only[q2]at p';have k5:IsAll H' (vmsk g M' fr ρ []) ds vs:=(IsAll.weak (fun _ z=>.inl z) k4:IsAll H (vmsk g M fr ρ []) ds vs).ext e;obtain⟨w,ew,iw⟩:=k5.cq q2;exact .inl ⟨a,vs,k,w,rfl,rfl,.inl (.inl (e.h _ _ k1)),ew,p'.val rep' iw⟩
    |_=>simp only[q]at p';exact p'.elim
end
section
theorem SndA.one {t:TA}{f:En->Res (List R)}(h:SndA mg E t f)(rep:Rep g M ρ env σ H){α:Type}{K:List R->Res α}{P:(M:Addr->Prop)->(H:Hp)->Res α->Prop}{Q:List V->Hp->Prop}
 (hp:P M H ((f env).bind K)) (hs:∀ M H,P M H .stuck->False) (hx:∀ M H c,P M H (.exc c)->oG mg E g c) (he:∀ M H M' H' r,Ext M H M' H'->P M H r->P M' H' r)
 (k:∀ rs vs M' H',Ext M H M' H'->Rep g M' ρ env σ H'->IsAll H' (vmsk g M' (aW rs) ρ (bu rs)) (rs.map R.d) vs->P M' H' (K rs)->Q vs H'):t σ H Q:=by
 refine h g M ρ env σ H Q rep ?_;cases e:f env with
 |stuck=>rw[e]at hp;exact hs _ _ hp
 |exc c=>rw[e]at hp;exact hx _ _ c hp
 |ok r=>rw[e]at hp;exact fun vs M1 H1 e1 rep1 is=>k r vs M1 H1 e1 rep1 is (he _ _ _ _ _ e1 hp)
theorem SndA.fZ {f:En->Res (List R)}(h:SndA mg E t f)(rep:Rep g M ρ env σ H){K:List R->Res R}{Q:List V->Hp->Prop}(hp:PostE mg E g M ρ env σ H Q' ((f env).bind K))
 (k:∀ rs vs M' H',Ext M H M' H'->Rep g M' ρ env σ H'->IsAll H' (vmsk g M' (aW rs) ρ (bu rs)) (rs.map R.d) vs->PostE mg E g M' ρ env σ H' Q' (K rs)->Q vs H'):t σ H Q:=
 h.one rep (P:=fun M H r=>PostE mg E g M ρ env σ H Q' r) hp (fun _ _ z=>z) (fun _ _ _ z=>z) (fun _ _ _ _ _ e p=>p.ext e) k
theorem SndA.sX {f:En->Res (List R)}(h:SndA mg E t f)(rep:Rep g M ρ env σ H){K:List R->Res (List R)}{Q':List V->Hp->Prop}{Q:List V->Hp->Prop}(hp:PostA mg E g M ρ env σ H Q' ((f env).bind K))
 (k:∀ rs vs M' H',Ext M H M' H'->Rep g M' ρ env σ H'->IsAll H' (vmsk g M' (aW rs) ρ (bu rs)) (rs.map R.d) vs->PostA mg E g M' ρ env σ H' Q' (K rs)->Q vs H'):t σ H Q:=
 h.one rep (P:=fun M H r=>PostA mg E g M ρ env σ H Q' r) hp (fun _ _ z=>z) (fun _ _ _ z=>z) (fun _ _ _ _ _ e p=>p.ext e) k
theorem IsAll.args (h1:Is H (vmsk g M r.fr ρ r.al) r.d v)(h2:IsAll H (vmsk g M (aW rs) ρ (bu rs)) (rs.map R.d) vs) :
 IsAll H (vmsk g M (aW (r::rs)) ρ (bu (r::rs))) ((r::rs).map R.d) (v::vs):=by
 refine⟨v,vs,rfl,h1.weak fun a z=>?_,h2.weak fun a z=>?_⟩
 .exact(z.l:vmsk g M (r.fr&&aW rs) ρ (r.al++bu rs) a)
 .exact(z.r:vmsk g M (r.fr&&aW rs) ρ (r.al++bu rs) a)
end
section
noncomputable def aV:En->Res (List R):=fun _=>.ok []
def ay (f:En->Res R)(fs:En->Res (List R)):En->Res (List R):=fun env=>(f env).bind fun r=>(fs env).bind fun rs=>.ok (r::rs)
theorem az:lC X E [] aV:=⟨_,aQ,fun g M ρ env σ H Q rep p=>p [] M H (Ext.refl _ _) rep rfl⟩
theorem af (he:PD X E e f)(hr:lC X E es fs)(hs:autoParam (starEach (e::es) X.env=(false,eval e X.env)::starEach es X.env) yp._auto_1):lC X E (e::es) (ay f fs):=by obtain⟨t,p1,s1⟩:=he;obtain⟨u,p2,s2⟩:=hr;refine⟨_,au p1 p2 hs,fun g M ρ env σ H Q rep p=>s1.sX rep p fun r v M1 H1 e1 rep1 i1 q1=>s2.sX rep1 q1 fun rs vs M2 H2 e2 rep2 i2 q2=>?_⟩;exact q2 (v::vs) M2 H2 (Ext.refl _ _) rep2 (IsAll.args (i1.ext e2) i2)
def gW (fs:En->Res (List R)):En->Res R:=fun env=>(fs env).bind fun rs=>if rs.length<=lim then .ok (eh (.tup (rs.map R.d)) (aW rs) (bu rs)) else .stuck
theorem df (h:lC X E es fs):PD X E (.Tuple es k pos) (gW fs):=by
 obtain⟨t,p1,s1⟩:=h;refine⟨_,qT p1,fun g M ρ env σ H Q rep p=>s1.fZ rep p fun rs vs M1 H1 e1 rep1 i1 q1=>?_⟩;by_cases hl:rs.length<=lim
 .rw[da hl]at q1;exact⟨by rw[i1.length,eB];exact cz hl,fun a ha=>q1.tup rep1 ha i1⟩
 .rw[fR hl]at q1;exact q1.elim
def dU (fs:En->Res (List R)):En->Res R:=fun env=>(fs env).bind fun rs=>if rs.length<=lim then .ok (eR (rs.map R.d) (aW rs) (bu rs)) else .stuck
theorem b5 (h:lC X E es fs):PD X E (.List es pos) (dU fs):=by
 obtain⟨t,p1,s1⟩:=h;refine⟨_,dO p1,fun g M ρ env σ H Q rep p=>s1.fZ rep p fun rs vs M1 H1 e1 rep1 i1 q1=>?_⟩;by_cases hl:rs.length<=lim
 .rw[da hl]at q1;exact⟨by rw[i1.length,eB];exact cz hl,fun a ha=>q1.lst rep1 ha i1⟩
 .rw[fR hl]at q1;exact q1.elim
end
def nl (H0 H':Hp)(a:Addr):Prop:=H0 a=none/\Mu H' a
def RetOk (g:Gd)(H':Hp)(v:V):R->Prop
 | .val d fr _=>Is H' (fun a=>nl g.H₀ H' a\/(fr=false/\g.Ma a)) d v
 | .new ds fr=>∃ a vs,v=.ref a/\H' a=some (.lst vs)/\g.H₀ a=none/\IsAll H' (fun b=>b≠a/\(nl g.H₀ H' b\/(fr=false/\g.Ma b))) ds vs
 | .gF d=>Is H' (nl g.H₀ H') d v
def tZ (mg:Str->Option yh)(E:XK)(g:Gd)(Q:VK):Res R->Prop
 | .stuck=>False
 | .exc c=>oG mg E g c
 | .ok r=>∀ v H',Same g.H₀ H'->RetOk g H' v r->Q v H'
def jc (mg:Str->Option yh)(n:Nat)(F:List D->Res R):Sp:=fun vs H Q E=>vs.length=n/\∃ ds Ma,IsAll H Ma ds vs/\tZ mg E (tS H Ma) Q (F ds)
def tf (d:D)(fr:Bool)(rs:List R):R:=if d.flat then .val d true [] else if fr then .gF d else .val d (aW rs) (bu rs)
def c9 (rs:List R):R->R
 | .val d fr _=>tf d fr rs
 | .new ds fr=>if D.bO ds then .new ds true else if fr then .gF (.lst ds) else if (bu rs).isEmpty then .new ds (aW rs) else .val (.lst ds) (aW rs) (bu rs)
 | .gF d=>tf d true rs
section
theorem Rep.came (rep:Rep g M ρ env σ H)(s:Same H H')(p:Addr->Prop):Rep g (fun a=>M a\/(nl H H' a/\p a)) ρ env σ H':=(rep.grow s).nV fun a z=>⟨z.1.2,rep.same.free z.1.1,(rep.free z.1.1).2.2⟩
theorem ml (rs:List R)(rep:Rep g M ρ env σ H)(s:Same H H')(h:Is H' (fun a=>nl H H' a\/(fr=false/\vmsk g M (aW rs) ρ (bu rs) a)) d v) :
 ∃ M',Ext M H M' H'/\Rep g M' ρ env σ H'/\ROk g M' ρ H H' v (tf d fr rs):=by
 unfold tf;by_cases hf:d.flat=true
 .rw[da hf];exact⟨M,⟨fun _ z=>z,s,fun _ z=>.inl z⟩,rep.grow s,Is.flat hf h⟩
 .rw[fR hf];cases fr with
  |true=>
   refine⟨M,⟨fun _ z=>z,s,fun _ z=>.inl z⟩,rep.grow s,nl H H',fun a z=>?_,?_⟩
   .exact⟨fun w=>rep.cL a w z.1,z.1,z.2,(rep.free z.1).2.2⟩
   .exact Is.weak (fun a z=>z.elim id fun w=>by cases w.1) h
  |false=>
   refine⟨_,⟨fun _=>.inl,s,fun _ z=>z.imp id (·.1.1)⟩,rep.came s fun _=>True,?_⟩;refine Is.weak (fun a z=>?_) h;rcases z with z|⟨_,z⟩
   .exact .inl ⟨.inr ⟨z,True.intro⟩,fun _=>rep.same.free z.1⟩
   .exact z.mono fun _=>.inl
theorem RetOk.caller (rs:List R)(rep:Rep g M ρ env σ H)(s:Same H H')(h:RetOk (tS H (vmsk g M (aW rs) ρ (bu rs))) H' v r) :
 ∃ M',Ext M H M' H'/\Rep g M' ρ env σ H'/\ROk g M' ρ H H' v (c9 rs r):=by
 cases r with
 |val d fr al=>exact ml rs rep s h
 |gF d=>exact ml rs rep s (Is.weak (fun a z=>.inl z) h)
 |new ds fr=>
  obtain⟨a,vs,rfl,h1,h2,h3⟩:=h;have h2:H a=none:=h2;obtain⟨f0,f1,f2⟩:=rep.free h2;have R1:Rep g (fun b=>M b\/(nl H H' b/\b≠a)) ρ env σ H':=rep.came s fun b=>b≠a;have nm:¬ (M a\/(nl H H' a/\a≠a)):=fun z=>z.elim f1 fun z=>z.2 rfl;have X1:Ext M H (fun b=>M b\/(nl H H' b/\b≠a)) H':=⟨fun _=>.inl,s,fun _ z=>z.imp id (·.1.1)⟩;unfold c9;dsimp only;by_cases hfl:D.bO ds=true
  .rw[da hfl];exact⟨_,X1,R1,a,vs,rfl,h1,nm,h2,f2,IsAll.flat hfl h3⟩
  .rw[fR hfl];cases fr with
   |true=>
    refine⟨M,⟨fun _ z=>z,s,fun _ z=>.inl z⟩,rep.grow s,nl H H',fun a z=>?_,?_⟩
    .exact⟨fun w=>rep.cL a w z.1,z.1,z.2,(rep.free z.1).2.2⟩
    .exact⟨a,vs,rfl,.inl ⟨h1,h2,Mu.lst h1⟩,IsAll.weak (fun b z=>z.2.elim id fun w=>by cases w.1) h3⟩
   |false=>
    simp only[Bool.false_eq_true,yc];by_cases hc:(bu rs).isEmpty=true
    .rw[da hc];refine⟨_,X1,R1,a,vs,rfl,h1,nm,h2,f2,?_⟩;refine IsAll.weak (fun b z=>?_) h3;rcases z with⟨nb,z|⟨hf,z⟩⟩
     .exact⟨.inr ⟨z,nb⟩,fun _=>rep.same.free z.1⟩
     .have hl:bu rs=[]:=by simpa using hc
      have z:vmsk g M (aW rs) ρ (bu rs) b:=z;rw[hl]at z;exact⟨.inl z.nil.1,z.nil.2⟩
    .rw[fR hc];refine⟨fun b=>(M b\/(nl H H' b/\b≠a))\/b=a,⟨fun _ z=>.inl (.inl z),s,fun b z=>z.elim (X1.n b) fun e=>.inr (e▸h2)⟩,R1.more h1 f0 f2,a,vs,rfl,.inl ⟨h1,.inl ⟨.inr rfl,fun _=>f0⟩⟩,?_⟩;refine IsAll.weak (fun b z=>?_) h3;rcases z with⟨nb,z|⟨hf,z⟩⟩
     .exact .inl ⟨.inl (.inr ⟨z,nb⟩),fun _=>rep.same.free z.1⟩
     .exact vmsk.mono (fun _ w=>.inl (.inl w)) z
end
section
variable {X:Cx}{ps:List Str}
def b6 (F:List D->Res R)(fs:En->Res (List R)):En->Res R:=fun env=>(fs env).bind fun rs=>(F (rs.map R.d)).bind fun r=>.ok (c9 rs r)
theorem ii (hl:∀ env rs,fs env=.ok rs->rs.length=ps.length)(s:SndA X.mg E t fs):Snd X.mg E (lN (jc X.mg ps.length F) [] E t) (b6 F fs):=by
 intro g M ρ env σ H Q rep p;refine s g M ρ env σ H _ rep ?_;unfold b6 at p;cases e:fs env with
 |stuck=>rw[e]at p;exact p
 |exc c=>rw[e]at p;exact p
 |ok rs=>
  rw[e]at p;intro vs M1 H1 e1 rep1 is;have p1:PostE X.mg E g M1 ρ env σ H1 Q ((F (rs.map R.d)).bind fun r=>.ok (c9 rs r)):=PostE.ext e1 p;rw[xm];refine⟨by rw[is.length,eB];exact hl env rs e,rs.map R.d,_,is,?_⟩;cases q:F (rs.map R.d) with
  |stuck=>rw[q]at p1;exact p1
  |exc c=>rw[q]at p1;exact fun cls dx H' h1 h2=>p1 cls dx H' h1 (rep1.same.trans h2)
  |ok r=>rw[q]at p1;intro v H2 s2 ro;obtain⟨M3,e3,rep3,ro3⟩:=RetOk.caller rs rep1 s2 ro;exact p1 v M3 H2 e3 rep3 ro3
theorem oP (G:bC X.prog X.w X.K X.mg X.base CX k f fd ps (jc X.mg ps.length F))(hr:bJ k X.A)(hg:Gl X x)(hm:X.mg x=some (.ref f))(hk:PySem.W.keepIn X.K (.ref f)=true)(hb:Binds X.K fd ps [])(hx:cn CX X E)
 (ha:lC X E (e::es) fs) (hl:∀ env rs,fs env=.ok rs->rs.length=ps.length) (hdb:autoParam (dB x) yj._auto_1) (he:autoParam (sE X e es) yp._auto_1) (hpl:autoParam (bT X pos es) yp._auto_1) :
 PD X E (.Call (.Name x p) (e::es) [] pos) (b6 F fs):=by
 obtain⟨t,p1,s1⟩:=ha;exact⟨_,oq G hr hg hm hk hb .nil hx p1 hdb he hpl,ii hl s1⟩
theorem mn (G:bC X.prog X.w X.K X.mg X.base CX k f fd [] (jc X.mg 0 F))(hr:bJ k X.A)(hg:Gl X x)(hm:X.mg x=some (.ref f))(hk:PySem.W.keepIn X.K (.ref f)=true)(hb:Binds X.K fd [] [])(hx:cn CX X E)
 (hdb:autoParam (dB x) yj._auto_1):PD X E (.Call (.Name x p) [] [] pos) (b6 F aV):=
 ⟨_,lP G hr hg hm hk hb .nil hx hdb,ii (ps:=[]) (fs:=aV) (fun _ _ e=>by cases e;rfl) (fun g M ρ env σ H Q rep p=>p [] M H (Ext.refl _ _) rep rfl)⟩
theorem bx:∀ env rs,aV env=.ok rs->rs.length=0:=fun _ _ e=>by cases e;rfl
theorem aF {f:En->Res R}{fs:En->Res (List R)}(h:∀ env rs,fs env=.ok rs->rs.length=n):∀ env rs,ay f fs env=.ok rs->rs.length=n+1:=fun env rs e=>by
 unfold ay at e;cases q:f env with
 |stuck=>rw[q]at e;cases e
 |exc c=>rw[q]at e;cases e
 |ok r=>
  rw[q]at e;cases q2:fs env with
  |stuck=>simp only[Res.cF,q2]at e;cases e
  |exc c=>simp only[Res.cF,q2]at e;cases e
  |ok rs'=>simp only[Res.cF,q2]at e;cases e;simp[h env rs' q2]
def j8 (X:Cx)(E:XK)(f:yh)(k:List R->Res R):Prop:=∃ r,CallR X f r/\
 ∀ g M ρ env σ H Q rs vs,Rep g M ρ env σ H->IsAll H (vmsk g M (aW rs) ρ (bu rs)) (rs.map R.d) vs->PostE X.mg E g M ρ env σ H Q (k rs)->r vs H Q
def oQ (k:List R->Res R)(fs:En->Res (List R)):En->Res R:=fun env=>(fs env).bind k
theorem fi {id:String} {k:List R->Res R} (hc:j8 X E (.builtin id) k) (hg:Gl X x) (hm:X.mg x=none) (hv:bootBuiltins x=some (.builtin id)) (ha:lC X E (e::es) fs) (hn:autoParam (x≠"__name__") yj._auto_1) (hdb:autoParam (dB x) yj._auto_1)
 (he:autoParam (starEach (e::es) X.env=(false,eval e X.env)::starEach es X.env) yp._auto_1) (hpl:autoParam (bT X pos es) yp._auto_1):PD X E (.Call (.Name x p) (e::es) [] pos) (oQ k fs):=by
 obtain⟨r,h1,h2⟩:=hc;obtain⟨t,p1,s1⟩:=ha;exact⟨_,aT h1 hg hm hv p1 hn hdb he hpl,fun g M ρ env σ H Q rep p=>s1.fZ rep p fun rs vs M1 H1 e1 rep1 i1 q1=>h2 g M1 ρ env σ H1 Q rs vs rep1 i1 q1⟩
theorem dW {k:List R->Res R} (hc:j8 X E (.type T) k) (hg:Gl X x) (hm:X.mg x=none) (hv:bootBuiltins x=some (.type T)) (ha:lC X E (e::es) fs) (hn:autoParam (x≠"__name__") yj._auto_1) (hdb:autoParam (dB x) yj._auto_1)
 (he:autoParam (starEach (e::es) X.env=(false,eval e X.env)::starEach es X.env) yp._auto_1) (hpl:autoParam (bT X pos es) yp._auto_1):PD X E (.Call (.Name x p) (e::es) [] pos) (oQ k fs):=by
 obtain⟨r,h1,h2⟩:=hc;obtain⟨t,p1,s1⟩:=ha;exact⟨_,kU h1 hg hm hv p1 hn hdb he hpl,fun g M ρ env σ H Q rep p=>s1.fZ rep p fun rs vs M1 H1 e1 rep1 i1 q1=>h2 g M1 ρ env σ H1 Q rs vs rep1 i1 q1⟩
def ju:List R->Res R
 | [r]=>match r.d with
  | .lst ds=>.ok (.val (.int ds.length) true [])
  | .tup ds=>.ok (.val (.int ds.length) true [])
  | .str z=>if z.length<=lim then .ok (.val (.int z.length) true []) else .stuck
  |_=>.stuck
 |_=>.stuck
theorem jv:j8 X E (.builtin "len") ju:=by
 refine⟨_,call_len_seq.or gP,fun g M ρ env σ H Q rs vs rep i p=>?_⟩;rcases rs with _|⟨r,_|_⟩
 .exact p.elim
 rotate_left
 .exact p.elim
 obtain⟨v,w,rfl,i1,i2⟩:=i;cases i2;have i1:Is H (vmsk g M (aW [r]) ρ (bu [r])) r.d v:=i1;unfold ju at p;dsimp only at p;cases q:r.d with
 |lst ds=>rw[q]at p i1;obtain⟨a,ws,rfl,h1,h2⟩:=i1.rd;exact .inl ⟨a,ws,rfl,.inl (.inl h1),by rw[h2.length];exact p _ M H (Ext.refl _ _) rep rfl⟩
 |tup ds=>rw[q]at p i1;obtain⟨a,ws,rfl,h1,h2⟩:=i1;exact .inl ⟨a,ws,rfl,.inr (SqT.of h1),by rw[h2.length];exact p _ M H (Ext.refl _ _) rep rfl⟩
 |str z=>
  rw[q]at p i1;cases i1;by_cases hz:z.length<=lim
  .simp only[hz,x9]at p;exact .inr ⟨z,rfl,cz hz,p _ M H (Ext.refl _ _) rep rfl⟩
  .simp only[hz,yc]at p;exact p.elim
 |_=>rw[q]at p;exact p.elim
def fj:List R->Res R
 | [r]=>match r.d with
  | .lst ds=>.ok (eR ds r.fr r.al)
  | .tup ds=>.ok (eR ds r.fr r.al)
  |_=>.stuck
 |_=>.stuck
theorem oR (h:vmsk g M (aW [r]) ρ (bu [r]) a):vmsk g M r.fr ρ r.al a:=by
 have e1:aW [r]=r.fr:=by simp[aW]
 have e2:bu [r]=r.al:=by simp[bu]
 rw[e1,e2]at h;exact h
theorem gX:j8 X E (.type "list") fj:=by
 refine⟨_,gQ,fun g M ρ env σ H Q rs vs rep i p=>?_⟩;rcases rs with _|⟨r,_|_⟩
 .exact p.elim
 rotate_left
 .exact p.elim
 obtain⟨v,w,rfl,i1,i2⟩:=i;cases i2;have i1:Is H (vmsk g M (aW [r]) ρ (bu [r])) r.d v:=i1;replace i1:=i1.weak fun _ z=>oR z;unfold fj at p;dsimp only at p;cases q:r.d with
 |lst ds=>rw[q]at p i1;obtain⟨a,ws,rfl,h1,h2⟩:=i1.rd;exact⟨a,ws,rfl,.inl (.inl h1),fun l hl=>p.lst rep hl h2⟩
 |tup ds=>rw[q]at p i1;obtain⟨a,ws,rfl,h1,h2⟩:=i1;exact⟨a,ws,rfl,.inr (SqT.of h1),fun l hl=>p.lst rep hl h2⟩
 |_=>rw[q]at p;exact p.elim
end
inductive Fl where
 |nx (env:En)|rt (r:R)|bk (env:En)|ct (env:En)|rm (r:R) (env:En)
structure d6 (M:Addr->Prop) (H:Hp) (M':Addr->Prop) (H':Hp):Prop where
 m:∀ a,M a->M' a
 h:∀ a o,H a=some o->(M a\/cP o)->H' a=some o
theorem d6.refl (M:Addr->Prop)(H:Hp):d6 M H M H:=⟨fun _ z=>z,fun _ _ e _=>e⟩
theorem d6.trans {M M1 M2:Addr->Prop}(a:d6 M H M1 H1)(b:d6 M1 H1 M2 H2):d6 M H M2 H2:=⟨fun x z=>b.m x (a.m x z),fun x o e z=>b.h x o (a.h x o e z) (z.imp (a.m x) id)⟩
theorem Ext.bF (e:Ext M H M' H'):d6 M H M' H':=⟨e.m,fun a o q _=>e.h a o q⟩
section
variable (mg:Str->Option yh)(E:XK)(g:Gd)(M:Addr->Prop)(H:Hp)(D:Ends)
def PostS:Res Fl->Prop
 | .stuck=>False
 | .exc c=>oG mg E g c
 | .ok (.nx env)=>∀ σ M' ρ H',d6 M H M' H'->Rep g M' ρ env σ H'->D.nx σ H'
 | .ok (.bk env)=>∀ σ M' ρ H',d6 M H M' H'->Rep g M' ρ env σ H'->D.bk σ H'
 | .ok (.ct env)=>∀ σ M' ρ H',d6 M H M' H'->Rep g M' ρ env σ H'->D.ct σ H'
 | .ok (.rt r)=>∀ v M' H',d6 M H M' H'->Same g.H₀ H'->((∀ a,¬ g.Z a)->RetOk g H' v r)->(r.d.flat=true->Is H' (fun _=>False) r.d v)->D.rt v H'
 | .ok (.rm r env)=>∀ v σ M' ρ H0 H',d6 M H M' H'->Rep g M' ρ env σ H'->Same g.H₀ H0->ROk g M' ρ H0 H' v r->D.rt v H'
end
def oS (mg:Str->Option yh)(E:XK)(t:TS)(f:En->Res Fl):Prop:=∀ g M ρ env σ H D,Rep g M ρ env σ H->PostS mg E g M H D (f env)->t D σ H
def n4 (X:Cx)(E:XK)(st:Stmt)(f:En->Res Fl):Prop:=∃ t,PS X st t/\oS X.mg E t f
def ij (X:Cx)(E:XK)(st:List Stmt)(f:En->Res Fl):Prop:=∃ t,lB X st t/\oS X.mg E t f
section
variable {D:Ends}
theorem PostS.bF (e:d6 M H M' H')(p:PostS mg E g M H D r):PostS mg E g M' H' D r:=by
 cases r with
 |stuck=>exact p
 |exc c=>exact p
 |ok r=>cases r with
  |nx env=>exact fun σ M2 ρ2 H2 e2=>p σ M2 ρ2 H2 (e.trans e2)
  |bk env=>exact fun σ M2 ρ2 H2 e2=>p σ M2 ρ2 H2 (e.trans e2)
  |ct env=>exact fun σ M2 ρ2 H2 e2=>p σ M2 ρ2 H2 (e.trans e2)
  |rt r=>exact fun v M2 H2 e2=>p v M2 H2 (e.trans e2)
  |rm r env=>exact fun v σ M2 ρ2 H0 H2 e2=>p v σ M2 ρ2 H0 H2 (e.trans e2)
theorem Snd.nQ {f:En->Res R}(h:Snd mg E t f)(rep:Rep g M ρ env σ H){K:R->Res Fl}(hp:PostS mg E g M H D ((f env).bind K))
 (k:∀ r v M' H',Ext M H M' H'->Rep g M' ρ env σ H'->ROk g M' ρ H H' v r->PostS mg E g M' H' D (K r)->Q v H'):t σ H Q:=by
 refine h g M ρ env σ H Q rep ?_;cases e:f env with
 |stuck=>rw[e]at hp;exact hp
 |exc c=>rw[e]at hp;exact hp
 |ok r=>rw[e]at hp;exact fun v M1 H1 e1 rep1 ro=>k r v M1 H1 e1 rep1 ro (PostS.bF e1.bF hp)
theorem SndT.nQ {f:En->Res Bool}(h:SndT mg E t f)(rep:Rep g M ρ env σ H){K:Bool->Res Fl}{Q:Bool->Hp->Prop}(hp:PostS mg E g M H D ((f env).bind K))
 (k:∀ b M' H',d6 M H M' H'->Rep g M' ρ env σ H'->PostS mg E g M' H' D (K b)->Q b H'):t σ H Q:=by
 refine h g M ρ env σ H Q rep ?_;cases e:f env with
 |stuck=>rw[e]at hp;exact hp
 |exc c=>rw[e]at hp;exact hp
 |ok r=>rw[e]at hp;exact fun M1 H1 e1 rep1=>k r M1 H1 e1.bF rep1 (PostS.bF e1.bF hp)
noncomputable def t0 (ρ:Pr)(i:Nat):Pr:=fun j a=>if j=i then False else ρ j a
theorem jw (h:j≠i):t0 ρ i j=ρ j:=by funext a;unfold t0;rw[fR h]
theorem fk (h:t0 ρ i j a):j≠i/\ρ j a:=by grind [t0]
noncomputable def gY (ρ:Pr)(i:Nat)(T:Addr->Prop):Pr:=fun j a=>if j=i then T a else ρ j a
theorem bL (h:j≠i):gY ρ i T j=ρ j:=by funext a;unfold gY;rw[fR h]
theorem ck:gY ρ i T i=T:=by funext a;unfold gY;rw[da rfl]
def cf (env:En)(i:Nat):En:=match env[i]? with
 |some (some (.own ds fr))=>env.set i (some (.val (.lst ds) fr))
 |some (some (.gG d))=>env.set i (some (.val d true))
 |some (some (.n5 _))=>env.set i none
 |_=>env
def bF (env:En)(al:List Nat):En:=al.foldl cf env
theorem gZ (h:j≠i):(cf env i)[j]?=env[j]?:=by unfold cf;split<;>first|rfl|exact cG (xg h)
theorem ik (i:Nat):(cf env i).length=env.length:=by unfold cf;split<;>simp
theorem mq:∀(al:List Nat){env:En}{j:Nat},¬ j∈al->(bF env al)[j]?=env[j]?
 | [],_,_,_=>rfl
 |i::al,env,j,h=>by show(bF (cf env i) al)[j]?=_;rw[mq al fun z=>h (by simp[z]),gZ fun z=>h (by simp[z])]
theorem j9:∀(al:List Nat)(env:En),(bF env al).length=env.length
 | [],_=>rfl
 |i::al,env=>by show(bF (cf env i) al).length=_;rw[j9 al,ik]
theorem Rep.cf (rep:Rep g M ρ env σ H)(i:Nat):Rep g (fun a=>M a\/ρ i a) (t0 ρ i) (cf env i) σ H where
 same:=rep.same
 cL:=fun b hb=>hb.elim (rep.cL b) fun z=>(rep.bg i b z).2.2.some
 hV:=fun b hb=>hb.elim (rep.hV b) fun z=>.inl (rep.bg i b z).2.1
 fl:=fun b hb h0=>hb.elim (fun z=>rep.fl b z h0) fun z=>.inl (rep.bg i b z).2.2
 slot:=fun j sl ej=>by
  by_cases hj:j=i
  .subst hj;cases e:env[j]? with
   |none=>
    have:L3.cf env j=env:=by unfold L3.cf;rw[e]
    rw[this,e]at ej;cases ej
   |some o=>
    have hi:j<env.length:=(b0.mp e).1;cases o with
    |none=>
     have:L3.cf env j=env:=by unfold L3.cf;rw[e]
     rw[this,e]at ej;cases ej
    |some s0=>
     obtain⟨v,ev,k⟩:=rep.slot j s0 e;cases s0 with
     |val d fr=>
      have:L3.cf env j=env:=by unfold L3.cf;rw[e]
      rw[this,e]at ej;cases ej;exact⟨v,ev,Is.weak (fun b z=>msk.mono (fun _=>.inl) z) k⟩
     |own ds fr=>
      have:L3.cf env j=env.set j (some (.val (.lst ds) fr)):=by unfold L3.cf;rw[e]
      rw[this,b4 hi]at ej;cases ej;obtain⟨a,vs,rfl,h1,h2,h4⟩:=k;have ha:=(h2 a).mpr rfl;exact⟨_,ev,a,vs,rfl,.inl ⟨h1,.inr ha,fun _=>(rep.bg j a ha).2.1⟩,IsAll.weak (fun b z=>msk.mono (fun _=>.inl) z) h4⟩
     |gG d=>
      have:L3.cf env j=env.set j (some (.val d true)):=by unfold L3.cf;rw[e]
      rw[this,b4 hi]at ej;cases ej;exact⟨v,ev,Is.weak (fun b z=>⟨.inr z,fun _=>(rep.bg j b z).2.1⟩) k⟩
     |n5 d=>
      have:L3.cf env j=env.set j none:=by unfold L3.cf;rw[e]
      rw[this,b4 hi]at ej;cases ej
  .rw[gZ hj]at ej;obtain⟨v,ev,k⟩:=rep.slot j sl ej;exact⟨v,ev,by rw[jw hj];exact SlOk.weak (fun _=>.inl) k⟩
 bg:=fun j a h=>by obtain⟨hj,h⟩:=fk h;exact⟨fun z=>z.elim (rep.bg j a h).1 fun z=>hj (rep.apart j i a h z),(rep.bg j a h).2⟩
 apart:=fun j k a h1 h2=>rep.apart j k a (fk h1).2 (fk h2).2
 ow:=fun j a h=>by obtain⟨hj,h⟩:=fk h;have:=rep.ow j a h;unfold cj at this ⊢;rw[gZ hj];exact this
 len:=by rw[ik];exact rep.len
 zz:=rep.zz
theorem Rep.bF:∀(al:List Nat){env:En}{M:Addr->Prop}{ρ:Pr},Rep g M ρ env σ H->∃(M':Addr->Prop)(ρ':Pr),(∀ a,M a->M' a)/\Rep g M' ρ' (L3.bF env al) σ H/\(∀ i,i∈al->∀ a,ρ i a->M' a)/\(∀ j a,ρ' j a->ρ j a)/\(∀ j,¬ j∈al->ρ' j=ρ j)
 | [],env,M,ρ,rep=>⟨M,ρ,fun _ z=>z,rep,fun _ z=>absurd z (by simp),fun _ _ o=>o,fun _ _=>rfl⟩
 |i::al,env,M,ρ,rep=>by
  obtain⟨M2,ρ2,e2,rep2,o2,k2,l2⟩:=Rep.bF al (rep.cf i);refine⟨M2,ρ2,fun a z=>e2 a (.inl z),rep2,fun j hj a o=>?_,fun j a o=>(fk (k2 j a o)).2,fun j hj=>?_⟩
  .by_cases hji:j=i
   .exact e2 a (.inr (hji▸o))
   .exact o2 j ((xh.mp hj).resolve_left hji) a (by rw[jw hji];exact o)
  .rw[l2 j fun z=>hj (by simp[z]),jw fun z=>hj (by simp[z])]
theorem Is.frozen (rep:Rep g M ρ env σ H)(e:∀ a,M a->M' a)(hm:∀ i,i∈al->∀ a,ρ i a->M' a)(h:Is H (vmsk g M fr ρ al) d v):Is H (msk g M' fr) d v:=h.weak fun a z=>z.elim (msk.mono e) fun⟨i,hi,o⟩=>⟨hm i hi a o,fun _=>(rep.bg i a o).2.1⟩
theorem Rep.put (rep:Rep g M ρ env σ H)(hi:i<env.length)(ok:SlOk g M T H v sl)(ht:∀ a,T a->¬ M a/\g.H₀ a=none/\Mu H a/\∀ j,j≠i->¬ ρ j a)(hO:autoParam (∀ a,T a->sl.vg=true) yo._auto_1) :
 Rep g M (gY ρ i T) (env.set i (some sl)) (σ.set i (some v)) H:=by
 have hi2:i<σ.length:=by rw[<- rep.len];exact hi
 refine⟨rep.same,rep.cL,rep.hV,rep.fl,fun j s ej=>?_,fun j a h=>?_,fun j k a h1 h2=>?_,fun j a h=>?_,by rw[xu,xu];exact rep.len,rep.zz⟩
 .by_cases hj:j=i
  .subst hj;rw[b4 hi]at ej;cases ej;exact⟨v,b4 hi2,by rw[ck];exact ok⟩
  .rw[cG (xg hj)]at ej;obtain⟨w,ew,k⟩:=rep.slot j s ej;exact⟨w,by rw[cG (xg hj)];exact ew,by rw[bL hj];exact k⟩
 .by_cases hj:j=i
  .subst hj;rw[ck]at h;exact⟨(ht a h).1,(ht a h).2.1,(ht a h).2.2.1⟩
  .rw[bL hj]at h;exact rep.bg j a h
 .by_cases hj:j=i
  .by_cases hk:k=i
   .rw[hj,hk]
   .subst hj;rw[ck]at h1;rw[bL hk]at h2;exact absurd h2 ((ht a h1).2.2.2 k hk)
  .by_cases hk:k=i
   .subst hk;rw[ck]at h2;rw[bL hj]at h1;exact absurd h1 ((ht a h2).2.2.2 j hj)
   .rw[bL hj]at h1;rw[bL hk]at h2;exact rep.apart j k a h1 h2
 .unfold cj;by_cases hj:j=i
  .subst hj;rw[ck]at h;rw[b4 hi];exact hO a h
  .rw[bL hj]at h;rw[cG (xg hj)];exact rep.ow j a h
def put (env:En)(i:Nat):R->En
 | .new ds fr=>env.set i (some (.own ds fr))
 | .val d fr al=>(bF env al).set i (some (.val d fr))
 | .gF d=>env.set i (some (.gG d))
theorem Rep.store (rep:Rep g M ρ env σ H)(h0:Same g.H₀ H0)(hi:i<env.length)(h:ROk g M ρ H0 H v r):∃ M' ρ',d6 M H M' H/\Rep g M' ρ' (L3.put env i r) (σ.set i (some v)) H:=by
 cases r with
 |new ds fr=>obtain⟨a,vs,rfl,h1,h2,h3,h4,h5⟩:=h;exact⟨M,_,d6.refl _ _,rep.put (sl:=.own ds fr) (T:=fun b=>b=a) hi ⟨a,vs,rfl,h1,fun _=>Iff.rfl,h5⟩ fun b e=>by subst e;exact⟨h2,h0.free h3,Mu.lst h1,fun j _=>h4 j⟩⟩
 |val d fr al=>obtain⟨M1,ρ1,e1,rep1,o1,k1,_⟩:=Rep.bF al rep;exact⟨M1,_,⟨e1,fun _ _ e _=>e⟩,rep1.put (sl:=.val d fr) (T:=fun _=>False) (by rw[j9];exact hi) (Is.frozen rep e1 o1 h) (fun _ z=>z.elim) fun _ z=>z.elim⟩
 |gF d=>obtain⟨T,ht,is⟩:=h;exact⟨M,_,d6.refl _ _,rep.put (sl:=.gG d) (T:=T) hi is fun b z=>let ⟨a1,a2,a3,a4⟩:=ht b z;⟨a1,h0.free a2,a3,fun j _=>a4 j⟩⟩
theorem Rep.sV (hu:tR u')(rep:Rep g M ρ env σ H)(o:ρ i a)(hi:i<env.length)(ev:σ[i]?=some (some v))(ok:SlOk g M (ρ i) (aX H a u') v sl)(hO:autoParam (sl.vg=true) yp._auto_1) :
 d6 M H M (aX H a u')/\Rep g M ρ (env.set i (some sl)) σ (aX H a u'):=by
 obtain⟨nm,n0,uo,ha,hmu⟩:=rep.bg i a o;have nfx:∀ u,H a=some u->¬ cP u:=fun u e z=>by rw[ha]at e;cases e;cases uo<;>first|exact z|exact hmu
 have kp:∀ b u,H b=some u->(M b\/cP u)->aX H a u' b=some u:=fun b u q z=>by grind [aA]
 have km:∀(fr:Bool) b u,H b=some u->(msk g M fr b\/cP u)->aX H a u' b=some u:=fun fr b u q z=>kp b u q (z.imp (·.1) id);refine⟨⟨fun _ z=>z,kp⟩,fun b u q=>?_,fun b hb=>?_,rep.hV,fun b hb h0=>?_,fun j s ej=>?_,fun j b h=>?_,rep.apart,fun j b h=>?_,by rw[xu];exact rep.len,fun c z e=>by
  by_cases hc:c=a
  .subst hc;rw[aI]at e;cases e
  .rw[aA hc]at e;exact rep.zz c z e⟩
 .rw[aA (fun z=>by rw[z,n0]at q;cases q)];exact rep.same b u q
 .have nb:b≠a:=fun z=>nm (by rw[<- z];exact hb);rw[aA nb];exact rep.cL b hb
 .have nb:b≠a:=fun z=>nm (by rw[<- z];exact hb);exact(rep.fl b hb h0).same fun o e=>by rw[aA nb];exact e
 .by_cases hj:j=i
  .grind
  .rw[cG (xg hj)]at ej;obtain⟨w,ew,k⟩:=rep.slot j s ej;refine⟨w,ew,?_⟩;have nj:∀ b,ρ j b->b≠a:=fun b hb e=>hj (rep.apart j i a (e▸hb) o);cases s with
   |val d fr=>exact Is.mono (km fr) (fun _ _ _ z=>z) k
   |own ds' fr'=>obtain⟨b,ws,rfl,h1,h2,h4⟩:=k;exact⟨b,ws,rfl,by rw[aA (nj b ((h2 b).mpr rfl))];exact h1,h2,IsAll.mono (km fr') (fun _ _ _ z=>z) h4⟩
   |gG d=>
    refine Is.mono (fun b u q z=>?_) (fun _ _ _ z=>z) k
    grind [aA]
   |n5 d=>refine IsSh.mono (fun b u q z=>kp b u q (.inr z)) (fun b ws z q=>⟨ws,by rw[aA (nj b z)];exact q⟩) (fun _ z=>z) k
 .obtain⟨b1,b2,b3⟩:=rep.bg j b h;refine⟨b1,b2,?_⟩;by_cases e:b=a
  .exact⟨u',by rw[e,aI],hu⟩
  .exact b3.same fun o z=>by rw[aA e];exact z
 .unfold cj;by_cases hj:j=i
  .subst hj;rw[b4 hi];exact hO
  .rw[cG (xg hj)];exact rep.ow j b h
theorem Rep.write (rep:Rep g M ρ env σ H)(o:ρ i a)(hi:i<env.length)(ev:σ[i]?=some (some v))(ok:SlOk g M (ρ i) (aX H a (.lst vs')) v sl)(hO:autoParam (sl.vg=true) yp._auto_1) :
 d6 M H M (aX H a (.lst vs'))/\Rep g M ρ (env.set i (some sl)) σ (aX H a (.lst vs')):=rep.sV (u':=.lst vs') True.intro o hi ev ok hO
end
section
noncomputable def jx:En->Res Fl:=fun env=>.ok (.nx env)
def bW (f k:En->Res Fl):En->Res Fl:=fun env=>(f env).bind fun r=>match r with
 | .nx bR=>k bR
 |r=>.ok r
theorem cS:ij X E [] jx:=⟨_,jS,fun g M ρ env σ H D rep p=>p σ M ρ H (d6.refl _ _) rep⟩
theorem aR {st:Stmt}{f:En->Res Fl}(h:n4 X E st f):ij X E [st] f:=let ⟨t,a,b⟩:=h;⟨t,eQ a,b⟩
theorem aC {st:Stmt}{aP:List Stmt}{f k:En->Res Fl}(h1:n4 X E st f)(h2:ij X E aP k):ij X E (st::aP) (bW f k):=by
 obtain⟨t,a,b⟩:=h1;obtain⟨u,c,d⟩:=h2;refine⟨_,cu a c,fun g M ρ env σ H D rep p=>b g M ρ env σ H _ rep ?_⟩;unfold bW at p;cases q:f env with
 |stuck=>rw[q]at p;exact p
 |exc c=>rw[q]at p;exact p
 |ok r=>
  rw[q]at p;cases r with
  |nx bR=>exact fun σ' M' ρ' H' e rep'=>d g M' ρ' bR σ' H' D rep' (PostS.bF e p)
  |bk bR=>exact p
  |ct bR=>exact p
  |rt r=>exact p
  |rm r bR=>exact p
def rn (c:En->Res Bool)(a b:En->Res Fl):En->Res Fl:=fun env=>(c env).bind fun k=>if k then a env else b env
theorem fm (hc:p6 X E c fc)(ha:ij X E a fa)(hb:ij X E b fb):n4 X E (.If c a b pos) (rn fc fa fb):=by
 obtain⟨tc,p1,s1⟩:=hc;obtain⟨ta,p2,s2⟩:=ha;obtain⟨tb,p3,s3⟩:=hb;refine⟨_,pW p1 p2 p3,fun g M ρ env σ H D rep p=>s1.nQ rep p fun b M' H' e rep' p'=>?_⟩;cases b with
 |true=>exact lV (s2 g M' ρ env σ H' D rep' p')
 |false=>exact jq (s3 g M' ρ env σ H' D rep' p')
def dy (f:En->Res R):En->Res Fl:=fun env=>(f env).bind fun r=>.ok (.rt r)
theorem ROk.ret (rep:Rep g M ρ env σ H)(h0:Same g.H₀ H0)(h:ROk g M ρ H0 H v r)(hz:∀ a,¬ g.Z a):RetOk g H v r:=by
 have mu:∀ a,M a->g.H₀ a=none->Mu H a:=fun a h1 h2=>(rep.fl a h1 h2).elim id fun z=>(hz a z.1).elim;have key:∀{fr:Bool}{a:Addr},msk g M fr a->nl g.H₀ H a\/(fr=false/\g.Ma a):=fun{fr a} z=>by
  cases fr with
  |true=>exact .inl ⟨z.2 rfl,mu a z.1 (z.2 rfl)⟩
  |false=>exact(rep.hV a z.1).imp (fun w=>⟨w,mu a z.1 w⟩) fun w=>⟨rfl,w⟩
 cases r with
 |val d fr al=>exact Is.weak (fun a z=>z.elim key fun⟨i,_,o⟩=>.inl (rep.bg i a o).2) h
 |new ds fr=>obtain⟨a,vs,rfl,h1,h2,h3,h4,h5⟩:=h;exact⟨a,vs,rfl,h1,h0.free h3,IsAll.weak (fun b z=>⟨fun e=>h2 (e▸z.1),key z⟩) h5⟩
 |gF d=>obtain⟨T,ht,is⟩:=h;exact Is.weak (fun a z=>let ⟨_,a2,a3,_⟩:=ht a z;⟨h0.free a2,a3⟩) is
theorem ROk.flatIs (h:ROk g M ρ H0 H v r)(hf:r.d.flat=true):Is H (fun _=>False) r.d v:=by
 cases r with
 |val d fr al=>exact Is.flat hf h
 |new ds fr=>simp[D.flat,R.d]at hf
 |gF d=>obtain⟨T,_,is⟩:=h;exact Is.flat hf is
theorem br (h:PD X E e f):n4 X E (.Return (some e) pos) (dy f):=by obtain⟨t,p1,s1⟩:=h;exact⟨_,jg p1,fun g M ρ env σ H D rep p=>s1.nQ rep p fun r v M' H' e rep' ro p'=>p' v M' H' (d6.refl _ _) rep'.same (fun hz=>ro.ret rep' rep.same hz) fun hf=>ro.flatIs hf⟩
def cJ (i:Nat)(f:En->Res R):En->Res Fl:=fun env=>(f env).bind fun r=>if i<env.length then .ok (.nx (put env i r)) else .stuck
theorem j_ (s:Snd mg E t f):oS mg E (h9 t (c8 i)) (cJ i f):=by
 intro g M ρ env σ H D rep p;refine s.nQ rep p fun r v M' H' e rep' ro p'=>?_;by_cases hi:i<env.length
 .rw[da hi]at p';obtain⟨M2,ρ2,e2,rep2⟩:=rep'.store rep.same hi ro;exact p' _ M2 ρ2 H' e2 rep2
 .rw[fR hi]at p';exact p'.elim
theorem bt (hN:X.N.Nodup)(hi:X.N[i]?=some x)(hx:n_ X.env.scope x)(h:PD X E e f)(hs:autoParam (swapsWith e (some (.Name x pos')) pos.line X.env=pure false) yp._auto_1)
 (hf:autoParam (X.fn x=true\/X.env.scope.names.lookup x=some .local) yk._auto_1):n4 X E (.Assign [.Name x pos'] e pos) (cJ i f):=by
 obtain⟨t,p1,s1⟩:=h;exact⟨_,dL hN hi hx p1 hs hf,j_ s1⟩
def fq (env:En)(i:Nat):Option (List D×Bool):=match env[i]? with
 |some (some (.own ds fr))=>some (ds,fr)
 |some (some (.gG (.lst ds)))=>some (ds,true)
 |_=>none
mutual
noncomputable def D.sz:D->Nat
 | .tup ds=>D.tj ds+1
 | .lst ds=>D.tj ds+1
 | .gC _ ds=>D.tj ds+1
 |_=>0
noncomputable def D.tj:List D->Nat
 | []=>0
 |d::ds=>d.sz+D.tj ds+1
end
section
mutual
theorem Is.avoid (ha:Is H m' e (.ref a)):∀{d:D}{v:V},d.sz<e.sz->Is H m d v->Is H (fun b=>m b/\b≠a) d v
 | .cH,_,_,h=>h
 | .bl _,_,_,h=>h
 | .int _,_,_,h=>h
 | .str _,_,_,h=>h
 | .tup ds,_,hs,h=>by obtain⟨b,vs,rfl,h1,h2⟩:=h;simp only[D.sz]at hs;exact⟨b,vs,rfl,h1,IsAll.avoid ha (by lia) h2⟩
 | .lst ds,_,hs,h=>by
  have h':=h;obtain⟨b,vs,rfl,h1,h2⟩:=h;have nb:b≠a:=fun z=>by subst z;have q:=Is.inj h' ha;rw[q]at hs;lia
  simp only[D.sz]at hs;refine⟨b,vs,rfl,?_,IsAll.avoid ha (by lia) h2⟩;rcases h1 with⟨h1,h3⟩|⟨o,h1,h3⟩
  .exact .inl ⟨h1,h3,nb⟩
  .exact .inr ⟨o,h1,h3,nb⟩
 | .gC ks ds,_,hs,h=>by
  have h':=h;obtain⟨b,kvs,rfl,h1,h2⟩:=h;have nb:b≠a:=fun z=>by subst z;have q:=Is.inj h' ha;rw[q]at hs;lia
  simp only[D.sz]at hs;exact⟨b,kvs,rfl,⟨h1.1,h1.2,nb⟩,IsAll.avoid ha (by lia) h2⟩
theorem IsAll.avoid (ha:Is H m' e (.ref a)):∀{ds:List D}{vs:List V},D.tj ds<e.sz->IsAll H m ds vs->IsAll H (fun b=>m b/\b≠a) ds vs
 | [],_,_,h=>h
 |d::ds,_,hs,h=>by obtain⟨v,r,rfl,h1,h2⟩:=h;simp only[D.tj]at hs;exact⟨v,r,rfl,Is.avoid ha (by lia) h1,IsAll.avoid ha (by lia) h2⟩
end
end
theorem Rep.qv (rep:Rep g M ρ env σ H)(e:fq env i=some (ds,fr)) :
 ∃(M':Addr->Prop)(ρ':Pr)(a:Addr)(vs:List V),(∀ b,M b->M' b)/\Rep g M' ρ' (env.set i (some (.own ds fr))) σ H/\σ[i]?=some (some (.ref a))/\H a=some (.lst vs)/\(∀ b,ρ' i b↔b=a)/\IsAll H (msk g M' fr) ds vs/\i<env.length/\(∀ j b,ρ' j b->ρ j b)/\(∀ j,j≠i->ρ' j=ρ j):=by
 unfold fq at e;cases q:env[i]? with
 |none=>rw[q]at e;cases e
 |some o=>
  have hi:i<env.length:=(b0.mp q).1;have hself:env.set i (env[i])=env:=xR hi;cases o with
  |none=>rw[q]at e;cases e
  |some sl=>
   obtain⟨v,ev,k⟩:=rep.slot i sl q;rw[q]at e;cases sl with
   |val d f=>cases e
   |n5 d=>cases e
   |own ds' f'=>
    cases e;obtain⟨a,vs,rfl,h1,h2,h4⟩:=k;have eq:env.set i (some (.own ds fr))=env:=by
     have:env[i]=some (.own ds fr):=by have:=(b0.mp q).2;exact this
     rw[<- this];exact hself
    rw[eq];exact⟨M,ρ,a,vs,fun _ z=>z,rep,ev,h1,h2,h4,hi,fun _ _ z=>z,fun _ _=>rfl⟩
   |gG d=>
    cases d with
    |lst ds'=>
     cases e;have k':=k;obtain⟨a,vs,rfl,h1,h2⟩:=k;have pa:ρ i a:=by rcases h1 with⟨_,z⟩|⟨_,_,z⟩<;>exact z
     obtain⟨pm,p0,uo,pl,pmu⟩:=rep.bg i a pa;have hl:H a=some (.lst vs):=by
      rcases h1 with⟨h1,_⟩|⟨o,h1,_⟩
      .exact h1
      .rw[h1]at pl;cases pl;exact pmu.elim
     have inner:IsAll H (fun b=>ρ i b/\b≠a) ds vs:=IsAll.avoid k' (by simp only[D.sz];lia) h2
     let M':Addr->Prop:=fun b=>M b\/(ρ i b/\b≠a)
     let ρ':Pr:=gY ρ i fun b=>b=a
     have rr:Rep g M' ρ' (env.set i (some (.own ds true))) (σ.set i (some (.ref a))) H:=by
      have r1:Rep g M' (fun j b=>if j=i then b=a else ρ j b) (env.set i (some (.own ds true))) σ H:=by
       refine⟨rep.same,fun b hb=>hb.elim (rep.cL b) fun z=>?_,fun b hb=>hb.elim (rep.hV b) fun z=>.inl (rep.bg i b z.1).2.1,fun b hb h0=>hb.elim (fun z=>rep.fl b z h0) fun z=>.inl (rep.bg i b z.1).2.2,fun j s ej=>?_,fun j b h=>?_,fun j k b w1 w2=>?_,fun j b h=>?_,by rw[xu];exact rep.len,rep.zz⟩
       .exact(rep.bg i b z.1).2.2.some
       .by_cases hj:j=i
        .subst hj;rw[b4 hi]at ej;cases ej;exact⟨_,ev,a,vs,rfl,hl,fun b=>by simp,IsAll.weak (fun b z=>⟨.inr z,fun _=>(rep.bg j b z.1).2.1⟩) inner⟩
        .rw[cG (xg hj)]at ej;obtain⟨v',ev',k2⟩:=rep.slot j s ej;have eT:(fun b=>if j=i then b=a else ρ j b)=ρ j:=by funext b;rw[fR hj]
         exact⟨v',ev',by show SlOk g M' (fun b=>if j=i then b=a else ρ j b) H v' s;rw[eT];exact SlOk.weak (fun _=>.inl) k2⟩
       .by_cases hj:j=i
        .rw[da hj]at h;subst h;exact⟨fun z=>z.elim pm fun z=>z.2 rfl,p0,Mu.lst hl⟩
        .rw[fR hj]at h;exact⟨fun z=>z.elim (rep.bg j b h).1 fun z=>hj (rep.apart j i b h z.1),(rep.bg j b h).2⟩
       .by_cases hj:j=i
        .by_cases hk:k=i
         .rw[hj,hk]
         .rw[da hj]at w1;rw[fR hk]at w2;subst w1;exact absurd (rep.apart k i b w2 pa) hk
        .by_cases hk:k=i
         .rw[da hk]at w2;rw[fR hj]at w1;subst w2;exact absurd (rep.apart j i b w1 pa) hj
         .rw[fR hj]at w1;rw[fR hk]at w2;exact rep.apart j k b w1 w2
       .unfold cj;by_cases hj:j=i
        .subst hj;rw[b4 hi];rfl
        .rw[fR hj]at h;rw[cG (xg hj)];exact rep.ow j b h
      have hi2:i<σ.length:=by rw[<- rep.len];exact hi
      have es:σ.set i (some (.ref a))=σ:=by have:σ[i]=some (.ref a):=(b0.mp ev).2;rw[<- this];exact xR hi2
      rw[es];exact r1
     have hi2:i<σ.length:=by rw[<- rep.len];exact hi
     have es:σ.set i (some (.ref a))=σ:=by have:σ[i]=some (.ref a):=(b0.mp ev).2;rw[<- this];exact xR hi2
     rw[es]at rr;refine⟨M',ρ',a,vs,fun _=>.inl,rr,ev,hl,fun b=>by show gY ρ i (fun b=>b=a) i b↔b=a;rw[ck],IsAll.weak (fun b z=>⟨.inr z,fun _=>(rep.bg i b z.1).2.1⟩) inner,hi,fun j b z=>?_,fun j hj=>bL hj⟩;by_cases hj:j=i
     .subst hj;have z:gY ρ j (fun b=>b=a) j b:=z;rw[ck]at z;rw[z];exact pa
     .have z:gY ρ i (fun b=>b=a) j b:=z;rw[bL hj]at z;exact z
    |_=>cases e
def mr (i:Nat)(f:En->Res R):En->Res Fl:=fun env=>match fq env i with
 |some (ds,fr)=>(f env).bind fun r=>if ds.length<lim/\¬ i∈r.al then .ok (.nx ((bF env r.al).set i (some (.own (ds++[r.d]) (fr&&r.fr))))) else .stuck
 |none=>.stuck
theorem oU (ha:PE X a (dc i))(h:PD X E e f)
 (hbase:autoParam (attributeBase a "append" X.env (eval a X.env)=eval a X.env) yp._auto_1)
 (hfew:autoParam (((backTo cpos (starEach [e] X.env)).all (fun x=>!x.1)&&(backToKw cpos (keywordEach [] X.env)).all (fun x=>x.1.isSome)
   && decide (([e]:List Expr).length+([]:List Keyword).length+(if ([]:List Keyword).isEmpty then 0 else 1)<30))=true) yp._auto_1)
 (hline:autoParam ((apos.endLine==cpos.line)=true) yp._auto_1) (hs:autoParam (starEach [e] X.env=(false,eval e X.env)::starEach [] X.env) yp._auto_1) (hplain:autoParam (bT X cpos []) yp._auto_1)
 (hsw:autoParam (swapsWith (.Call (.Attribute a "append" apos) [e] [] cpos) none pos.line X.env=pure false) yp._auto_1) :
 n4 X E (.Expr (.Call (.Attribute a "append" apos) [e] [] cpos) pos) (mr i f):=by
 obtain⟨t,p1,s1⟩:=h;refine⟨_,oh (tP PySem.F.plainAttrs_list PySem.F.slot_list_append PySem.F.type_list_append dP ha (au p1 aQ hs) hbase hfew hline hs hplain) hsw,fun g M ρ env σ H D rep p=>?_⟩;unfold mr at p;cases e1:fq env i with
 |none=>rw[e1]at p;exact p.elim
 |some o=>
  obtain⟨ds,fr⟩:=o;rw[e1]at p;dsimp only at p;obtain⟨M0,ρ0,l,vs,m0,rep0,ev,k1,k2,k4,hi,_⟩:=rep.qv e1;refine⟨_,ev,.inl ⟨rfl,vs,SqL.of k1⟩,s1.nQ rep p fun r y M' H' e rep' ro p'=>?_⟩;by_cases hc:ds.length<lim/\¬ i∈r.al
  .rw[da hc]at p';obtain⟨M1,x1,x1m,rep1,is1⟩:=ro.is rep' e rep.same;obtain⟨M2,ρ2,x2,rep2,o2,k5,k6⟩:=Rep.bF r.al rep1;have is2:Is H' (msk g M2 r.fr) r.d y:=Is.frozen rep1 x2 o2 is1;have e2:fq (bF env r.al) i=some (ds,fr):=by unfold fq;rw[mq _ hc.2];exact e1
   obtain⟨M3,ρ3,l3,vs3,m3,rep3,ev3,j1,j2,j4,hi3,_⟩:=rep2.qv e2;rw[ev]at ev3;cases ev3;have hl:H' l=some (.lst vs):=e.h _ _ k1;rw[hl]at j1;cases j1;have pl:ρ3 i l:=(j2 l).mpr rfl;obtain⟨nl3,_⟩:=rep3.bg i l pl;have is4:IsAll H' (msk g M3 (fr&&r.fr)) (ds++[r.d]) (vs++[y]):=by refine IsAll.snoc (IsAll.weak (fun b z=>⟨z.1,fun q=>z.2 (by cases fr<;>simp_all)⟩) j4) (Is.weak (fun b z=>⟨m3 b z.1,fun q=>z.2 (by cases fr<;>simp_all)⟩) is2)
   have kp:∀ b u,H' b=some u->(msk g M3 (fr&&r.fr) b\/cP u)->aX H' l (.lst (vs++[y])) b=some u:=fun b u q z=>by
    rw[aA]
    .exact q
    .rintro rfl;rcases z with z|z
     .exact nl3 z.1
     .rw[hl]at q;cases q;exact z
   obtain⟨f1,rep4⟩:=rep3.write (sl:=.own (ds++[r.d]) (fr&&r.fr)) (vs':=vs++[y]) pl (by rw[xu];exact hi3) ev ⟨l,vs++[y],rfl,aI,j2,IsAll.mono kp (fun _ _ _ z=>z) is4⟩;rw[List.set_set]at rep4;refine⟨l,vs,y,rfl,rfl,hl,by rw[k4.length];exact l9 hc.1,?_⟩;exact p' σ M3 ρ3 _ (d6.trans ⟨fun a z=>m3 a (x2 a (x1m a z)),fun _ _ q _=>q⟩ f1) rep4
  .rw[fR hc]at p';exact p'.elim
end
def rp (ix:List Nat)(t:TG)(asg:D->Bool->En->Option En):Prop:=∀(g:Gd)(M:Addr->Prop)(ρ:Pr)(env bR:En)(σ:St)(H:Hp)(d:D)(fr:Bool)(v:V)(Q:St->Hp->Prop),
 Rep g M ρ env σ H->Is H (msk g M fr) d v->asg d fr env=some bR->(∀(σ':St)(ρ':Pr),Rep g M ρ' bR σ' H->(∀ j,¬ j∈ix->σ'[j]?=σ[j]?)->(∀ j a,ρ' j a->ρ j a)->Q σ' H)->t v σ H Q
def ti (X:Cx)(ix:List Nat)(tg:Expr)(asg:D->Bool->En->Option En):Prop:=∃ t,PG X tg t/\rp ix t asg
section
def gN (i:Nat):D->Bool->En->Option En:=fun d fr env=>if i<env.length then some (env.set i (some (.val d fr))) else none
theorem k9:rp [i] (c8 i) (gN i):=by
 intro g M ρ env bR σ H d fr v Q rep is e k;unfold gN at e;by_cases hi:i<env.length
 .rw[da hi]at e;cases e;exact k _ _ (rep.put (sl:=.val d fr) (T:=fun _=>False) hi is (fun _ z=>z.elim) fun _ z=>z.elim) (fun j hj=>cG fun e=>hj (by simp[e])) fun j a z=>by
   by_cases hj:j=i
   .subst hj;rw[ck]at z;exact z.elim
   .rw[bL hj]at z;exact z
 .rw[fR hi]at e;cases e
theorem dz (hN:X.N.Nodup)(hi:X.N[i]?=some x)(hx:n_ X.env.scope x)(hf:autoParam (X.fn x=true\/X.env.scope.names.lookup x=some .local) yk._auto_1):ti X [i] (.Name x pos) (gN i):=⟨_,jT hN hi hx hf,k9⟩
end
structure Src where
 xs:List D
 fr:Bool
 al:List Nat
structure Walk (J:It) (m:Addr->Prop) (H:Hp) (xs:List D):Prop where
 go:∀ H' i d,(∀ a o,H a=some o->(m a\/cP o)->H' a=some o)->xs[i]?=some d->J.go i H'/\∀ x H'',J.pS i H' x H''->Same H' H''/\Is H'' m d x
 stop:∀ H',(∀ a o,H a=some o->(m a\/cP o)->H' a=some o)->J.stop xs.length H'
theorem Walk.weak (w:Walk J m H xs)(h:∀ a,m a->m' a):Walk J m' H xs:=⟨fun H' i d k e=>let ⟨a,b⟩:=w.go H' i d (fun a o q z=>k a o q (z.imp (h a) id)) e;⟨a,fun x H'' y=>let ⟨c,d⟩:=b x H'' y;⟨c,d.weak h⟩⟩,fun H' k=>w.stop H' fun a o q z=>k a o q (z.imp (h a) id)⟩
def PostI (mg:Str->Option yh)(E:XK)(g:Gd)(M:Addr->Prop)(ρ:Pr)(env:En)(σ:St)(H:Hp)(R:It->Hp->Prop):Res Src->Prop
 | .stuck=>False
 | .exc c=>oG mg E g c
 | .ok s=>∀ J M' H',Ext M H M' H'->Rep g M' ρ env σ H'->Walk J (vmsk g M' s.fr ρ s.al) H' s.xs->R J H'
def t3 (mg:Str->Option yh)(E:XK)(wi:TI)(f:En->Res Src):Prop:=∀ g M ρ env σ H R,Rep g M ρ env σ H->PostI mg E g M ρ env σ H R (f env)->wi σ H R
def t4 (X:Cx)(E:XK)(tg iter:Expr)(f:En->Res Src):Prop:=∃ wi,PI X tg iter wi/\t3 X.mg E wi f
section
variable {X:Cx}{E:XK}
def vN (K:yf)(tl:TE):TI:=fun σ H R=>tl σ H fun x H1=>∃ a,x=.ref a/\(((∃ xs,SqL K H1 a xs)/\R (vq K a) H1)\/((∃ xs,SqT K H1 a xs)/\R (vr K a) H1))
theorem rq (hl:PE X l tl):PI X tg l (vN X.K tl):=by
 intro aa s σ H R I h;refine ce (hl aa s σ H _ I h) fun v s1 ⟨x,H1,I1,r1,q1⟩=>?_;obtain⟨a,e,q⟩:=q1;subst e;cases r1;rcases q with⟨⟨xs,hq⟩,q⟩|⟨⟨xs,hq⟩,q⟩
 .obtain⟨its,rv,p,hz⟩:=I1.list hq;refine wpAny_pyIter_list p.isList ?_;refine⟨s1.heap.objs.size,[s1.heap.objs.size],_,_,H1,rfl,I1.kept (t':=s1.toks) fun b o e=>ba _ e,kP a _,⟨_,cI _ rfl,rfl,rfl⟩,fun b hb=>?_,q⟩;have e:b=s1.heap.objs.size:=by simpa using hb
  subst e;exact I1.nM (bD _) (I1.bc.fresh (bD _))
 .obtain⟨its,rv,p,hz⟩:=I1.tuple hq;refine wpAny_pyIter_tuple (show s1.heap.IsTuple a its.toArray from p) ?_;refine⟨s1.heap.objs.size,[s1.heap.objs.size],_,_,H1,rfl,I1.kept (t':=s1.toks) fun b o e=>ba _ e,jh a _,⟨_,cI _ rfl,rfl,rfl⟩,fun b hb=>?_,q⟩;have e:b=s1.heap.objs.size:=by simpa using hb
  subst e;exact I1.nM (bD _) (I1.bc.fresh (bD _))
theorem k_ {K:yf}{a:Addr}{m:Addr->Prop}(h:(H a=some (.lst vs)/\m a)\/∃ o,H a=some (.bF o (.lst vs))/\m a)(is:IsAll H m ds vs):Walk (vq K a) m H ds:=by
 have st:∀ H',(∀ a o,H a=some o->(m a\/cP o)->H' a=some o)->SqL K H' a vs:=fun H' k=>by
  rcases h with⟨h,hm⟩|⟨o,h,_⟩
  .exact .inl (.inl (k a _ h (.inl hm)))
  .exact .inl (.inr ⟨o,k a _ h (.inr True.intro)⟩)
 refine⟨fun H' i d k e=>?_,fun H' k=>⟨vs,st H' k,by rw[is.length];exact bD _⟩⟩;obtain⟨v,ev,iv⟩:=(is.mono k fun _ _ _ z=>z:IsAll H' m ds vs).get e;refine⟨⟨vs,v,st H' k,ev⟩,fun x H'' y=>?_⟩;obtain⟨rfl,y⟩:=y;have:=y vs (st _ k);rw[ev]at this;cases this;exact⟨Same.refl _,iv⟩
theorem mv {K:yf}{a:Addr}{m:Addr->Prop}(h:H a=some (.tup vs))(is:IsAll H m ds vs):Walk (vr K a) m H ds:=by have st:∀ H',(∀ a o,H a=some o->(m a\/cP o)->H' a=some o)->SqT K H' a vs:=fun H' k=>SqT.of (k a _ h (.inr True.intro));refine⟨fun H' i d k e=>?_,fun H' k=>⟨vs,st H' k,by rw[is.length];exact bD _⟩⟩;obtain⟨v,ev,iv⟩:=(is.mono k fun _ _ _ z=>z:IsAll H' m ds vs).get e;refine⟨⟨vs,v,st H' k,ev⟩,fun x H'' y=>?_⟩;obtain⟨rfl,y⟩:=y;have:=y vs (st _ k);rw[ev]at this;cases this;exact⟨Same.refl _,iv⟩
noncomputable def cT (lo:Int)(n:Nat):List D:=(List.range n).map fun k=>.int (lo+(k:Nat))
theorem jy (lo:Int)(n:Nat):Walk (u_ lo n) m H (cT lo n):=by
 refine⟨fun H' i d k e=>?_,fun H' k=>by show n<=(cT lo n).length;simp[cT]⟩;have hi:i<n:=by have:=(b0.mp e).1;simpa[cT] using this
 refine⟨hi,fun x H'' y=>?_⟩;obtain⟨rfl,rfl⟩:=y;refine⟨Same.refl _,?_⟩;have:(cT lo n)[i]?=some (.int (lo+(i:Nat))):=by simp[cT,hi]
 rw[this]at e;cases e;rfl
def oV (f:En->Res R):En->Res Src:=fun env=>(f env).bind fun r=>match r.d with
 | .lst ds=>.ok ⟨ds,r.fr,r.al⟩
 | .tup ds=>.ok ⟨ds,r.fr,r.al⟩
 |_=>.stuck
theorem ka (h:PD X E l f):t4 X E tg l (oV f):=by
 obtain⟨t,p1,s1⟩:=h;refine⟨_,rq p1,fun g M ρ env σ H R rep p=>?_⟩;refine s1.one rep (P:=fun M H r=>PostI X.mg E g M ρ env σ H R r) p (fun _ _ z=>z) (fun _ _ _ z=>z) (fun M H M' H' r e p=>?_) fun r v M1 H1 e1 rep1 is q=>?_
 .cases r with
  |stuck=>exact p
  |exc c=>exact p
  |ok s=>exact fun J M2 H2 e2=>p J M2 H2 (e.trans e2)
 .cases z:r.d with
  |lst ds=>rw[z]at is;simp only[z]at q;obtain⟨a,vs,rfl,h1,h2⟩:=is;exact⟨a,rfl,.inl ⟨⟨vs,.inl (h1.imp (·.1) fun⟨o,z,_⟩=>⟨o,z⟩)⟩,q _ M1 H1 (Ext.refl _ _) rep1 (k_ h1 h2)⟩⟩
  |tup ds=>rw[z]at is;simp only[z]at q;obtain⟨a,vs,rfl,h1,h2⟩:=is;exact⟨a,rfl,.inr ⟨⟨vs,SqT.of h1⟩,q _ M1 H1 (Ext.refl _ _) rep1 (mv h1 h2)⟩⟩
  |_=>simp only[z]at q;exact q.elim
noncomputable def cR (i:Int):Bool:=decide (-(2 ^ 62)<=i)&&decide (i<2 ^ 62)
def vb (fs:En->Res (List R)):En->Res Src:=fun env=>(fs env).bind fun rs=>match rs.map R.d with
 | [.int j]=>if cR j then .ok ⟨cT 0 j.toNat,true,[]⟩ else .stuck
 |_=>.stuck
theorem PostI.ext {mg:Str->Option yh}{M M':Addr->Prop}{R:It->Hp->Prop}(e:Ext M H M' H')(p:PostI mg E g M ρ env σ H R r):PostI mg E g M' ρ env σ H' R r:=by
 cases r with
 |stuck=>exact p
 |exc c=>exact p
 |ok s=>exact fun J M2 H2 e2=>p J M2 H2 (e.trans e2)
theorem fv (hg:Gl X "range") (hm:X.mg "range"=none) (ha:lC X E [a] fs) (hs:autoParam (starEach [a] X.env=[(false,eval a X.env)]) yp._auto_1):t4 X E tg (.Call (.Name "range" p) [a] [] pos) (vb fs):=by
 obtain⟨t,p1,s1⟩:=ha;refine⟨_,kQ hg hm p1 hs,fun g M ρ env σ H Rq rep p=>s1.one rep (P:=fun M H r=>PostI X.mg E g M ρ env σ H Rq r) p (fun _ _ z=>z) (fun _ _ _ z=>z) (fun _ _ _ _ _ e p=>p.ext e) fun rs vs M1 H1 e1 rep1 is q=>?_⟩;generalize hd:rs.map R.d=ds at is q
 match ds,is,q with
 | [.int j],is,q=>
  obtain⟨v,w,rfl,i1,i2⟩:=is;cases i1;cases i2;dsimp only at q;by_cases hc:cR j=true
  .rw[da hc]at q;simp only[cR,db,xO]at hc;exact⟨j,rfl,hc.1,hc.2,q _ M1 H1 (Ext.refl _ _) rep1 (jy 0 j.toNat)⟩
  .rw[fR hc]at q;exact q.elim
 | [],_,q=>exact q.elim
 | [.cH],_,q=>exact q.elim
 | [.bl _],_,q=>exact q.elim
 | [.str _],_,q=>exact q.elim
 | [.tup _],_,q=>exact q.elim
 | [.lst _],_,q=>exact q.elim
 | [.gC _ _],_,q=>exact q.elim
 | .int _::_::_,_,q=>exact q.elim
 | .cH::_::_,_,q=>exact q.elim
 | .bl _::_::_,_,q=>exact q.elim
 | .str _::_::_,_,q=>exact q.elim
 | .tup _::_::_,_,q=>exact q.elim
 | .lst _::_::_,_,q=>exact q.elim
 | .gC _ _::_::_,_,q=>exact q.elim
def cU (asg:D->Bool->En->Option En)(fr:Bool)(body:En->Res Fl):List D->En->Res Fl
 | [],env=>.ok (.nx env)
 |x::xs,env=>match asg x fr env with
  |none=>.stuck
  |some jN=>(body jN).bind fun r=>match r with
   | .nx bR=>cU asg fr body xs bR
   | .ct bR=>cU asg fr body xs bR
   | .bk bR=>.ok (.nx bR)
   | .rt r=>.ok (.rt r)
   | .rm r e=>.ok (.rm r e)
def oW (src:En->Res Src)(asg:D->Bool->En->Option En)(body:En->Res Fl):En->Res Fl:=fun env=>(src env).bind fun s=>cU asg s.fr body s.xs (bF env s.al)
def t5 (J:It)(u:TG)(tb:TS)(D:Ends)(σ:St)(H1:Hp):Prop:=∃ W:Nat->Nat->St->Hp->Prop,(∃ m,W 0 m σ H1)/\∀ i m σ H,W i m σ H->(J.stop i H/\D.nx σ H)\/(J.go i H/\∃ N:St->Hp->Prop,(∀ σ' H',N σ' H'->∃ m',m'<m/\W (i+1) m' σ' H')/\∀ x H',J.pS i H x H'->u x σ H' fun σ2 H2=>tb { D with nx:=N,ct:=N,bk:=D.nx } σ2 H2)
theorem mw {asg:D->Bool->En->Option En}{fb:En->Res Fl}{g:Gd}{M2:Addr->Prop}{ρ2:Pr}{env2:En}{σ:St}{H1:Hp}{D:Ends}(s2:rp ix u asg)(s3:oS X.mg E tb fb)(rep2:Rep g M2 ρ2 env2 σ H1)(wk2:Walk J (msk g M2 fr) H1 xs)(p2':PostS X.mg E g M2 H1 D (cU asg fr fb xs env2)):t5 J u tb D σ H1:=by
 refine⟨fun i m σ' H'=>m=xs.length-i/\i<=xs.length/\∃ M' ρ' bR,Rep g M' ρ' bR σ' H'/\d6 M2 H1 M' H'/\PostS X.mg E g M' H' D (cU asg fr fb (xs.drop i) bR),⟨_,rfl,ya _,M2,ρ2,_,rep2,d6.refl _ _,p2'⟩,?_⟩;rintro i m σ' H' ⟨rfl,hle,M',ρ',bR,rep',f',p'⟩;have kp:∀ a o,H1 a=some o->(msk g M2 fr a\/cP o)->H' a=some o:=fun a o e z=>f'.h a o e (z.imp (·.1) id);by_cases hlt:i<xs.length
 .have ed:xs[i]?=some xs[i]:=by simp[hlt]
  obtain⟨go,yl⟩:=wk2.go H' i _ kp ed;have edrop:xs.drop i=xs[i]::xs.drop (i+1):=List.drop_eq_getElem_cons hlt;rw[edrop]at p';unfold cU at p';refine .inr ⟨go,fun σ'' H''=>∃ M'' ρ'' env'',Rep g M'' ρ'' env'' σ'' H''/\d6 M2 H1 M'' H''/\PostS X.mg E g M'' H'' D (cU asg fr fb (xs.drop (i+1)) env''),fun σ'' H'' z=>⟨xs.length-(i+1),by lia,rfl,hlt,z⟩,fun x H'' y=>?_⟩;obtain⟨sm,is⟩:=yl x H'' y;have rep'':=rep'.grow sm;have fx:d6 M' H' M' H'':=⟨fun _ z=>z,fun a o e _=>sm a o e⟩;have is':Is H'' (msk g M' fr) xs[i] x:=is.weak fun a z=>msk.mono f'.m z;cases qa:asg xs[i] fr bR with
  |none=>simp only[qa]at p';exact p'.elim
  |some jN=>
   simp only[qa]at p';refine s2 g M' ρ' bR jN σ' H'' _ fr x _ rep'' is' qa fun σ1 ρ1 rep1' _ _=>?_;refine s3 g M' ρ1 jN σ1 H'' _ rep1' ?_;have p'':=PostS.bF fx p';cases qb:fb jN with
   |stuck=>rw[qb]at p'';exact p''
   |exc c=>rw[qb]at p'';exact p''
   |ok r=>
    rw[qb]at p'';cases r with
    |nx e3=>exact fun σ3 M3 ρ3 H3 f3 rep3=>⟨M3,ρ3,e3,rep3,(f'.trans fx).trans f3,PostS.bF f3 p''⟩
    |ct e3=>exact fun σ3 M3 ρ3 H3 f3 rep3=>⟨M3,ρ3,e3,rep3,(f'.trans fx).trans f3,PostS.bF f3 p''⟩
    |bk e3=>exact p''
    |rt r=>exact p''
    |rm r e3=>exact p''
 .have e:i=xs.length:=by lia
  subst e;rw[List.drop_length]at p';exact .inl ⟨wk2.stop H' kp,p' σ' M' ρ' H' (d6.refl _ _) rep'⟩
theorem oX (hp:PassesOwn (model X.prog X.w) X.A X.env X.xe)(hc:X.calm=true)
 (hi:t4 X E tg iter src) (hg:ti X ix tg asg) (hb:ij X E body fb) (hs:autoParam (∀ x,foldedSetIterable iter X.env x=pure x) yn._auto_1):n4 X E (.For tg iter body [] pos) (oW src asg fb):=by
 obtain⟨wi,p1,s1⟩:=hi;obtain⟨u,p2,s2⟩:=hg;obtain⟨tb,p3,s3⟩:=hb;refine⟨_,qK hp hc p1 p2 p3 hs,fun g M ρ env σ H D rep p=>?_⟩;refine s1 g M ρ env σ H _ rep ?_;unfold oW at p;cases q:src env with
 |stuck=>rw[q]at p;exact p
 |exc c=>rw[q]at p;exact p
 |ok s=>rw[q]at p;intro J M1 H1 e1 rep1 wk;obtain⟨M2,ρ2,x2,rep2,o2,_,_⟩:=Rep.bF s.al rep1;have wk2:Walk J (msk g M2 s.fr) H1 s.xs:=wk.weak fun a z=>z.elim (msk.mono x2) fun⟨i,hi,o⟩=>⟨o2 i hi a o,fun _=>(rep1.bg i a o).2.1⟩;have p2':PostS X.mg E g M2 H1 D (cU asg s.fr fb s.xs (bF env s.al)):=PostS.bF (e1.bF.trans ⟨x2,fun _ _ q _=>q⟩) p;exact mw s2 s3 rep2 wk2 p2'
end
theorem cB:∀(names:List (Str×NameKind))(cs:List (Str×Addr)),(∀ x∈names,x.2=.free->∃ c,env.cells.lookup x.1=some c)->(∀ y c,cs.lookup y=some c->env.cells.lookup y=some c)->
 ∃ cl,(forIn names cs fun(x:Str×NameKind)(r:List (Str×Addr))=>(do
  if (x.2==.free)=true then
   let c <- cellOf env x.1
   pure (ForInStep.yield ((x.1,c)::r))
  else pure (ForInStep.yield r):Sem (ForInStep (List (Str×Addr)))))=pure cl/\(∀ y c,cl.lookup y=some c->env.cells.lookup y=some c)/\(∀ x∈names,x.2=.free->∃ c,cl.lookup x.1=some c)/\(∀ y c,cs.lookup y=some c->∃ c',cl.lookup y=some c')
 | [],cs,_,h=>⟨cs,by simp,h,fun _ z=>absurd z (by simp),fun y c e=>⟨c,e⟩⟩
 |(n,k)::r,cs,hf,h=>by
  by_cases hk:k=.free
  .subst hk;obtain⟨c,hc⟩:=hf (n,.free) (by simp) rfl;have hco:cellOf env n=pure c:=by simp[cellOf,hc]
   have h':∀ y c',((n,c)::cs).lookup y=some c'->env.cells.lookup y=some c':=fun y c' e=>by
    rw[xp]at e;cases hy:y==n with
    |true=>rw[hy]at e;cases e;rw[eq_of_beq hy];exact hc
    |false=>rw[hy]at e;exact h y c' e
   obtain⟨cl,e1,e2,e3,e4⟩:=cB r ((n,c)::cs) (fun x hx=>hf x (by simp[hx])) h';have self:∃ c',cl.lookup n=some c':=e4 n c (by simp[xp]);refine⟨cl,?_,e2,fun x hx hxf=>?_,fun y c' e=>?_⟩
   .rw[List.forIn_cons];simp only[beq_self_eq_true,x9,hco,pure_bind];exact e1
   .rcases xh.mp hx with rfl|hx
    .exact self
    .exact e3 x hx hxf
   .by_cases hy:y=n
    .rw[hy];exact self
    .refine e4 y c' ?_;have hb:(y==n)=false:=by simpa using hy
     rw[xp,hb];exact e
  .obtain⟨cl,e1,e2,e3,e4⟩:=cB r cs (fun x hx=>hf x (by simp[hx])) h;refine⟨cl,?_,e2,fun x hx hxf=>?_,e4⟩
   .rw[List.forIn_cons];have hkb:(k==NameKind.free)=false:=by simpa using hk
    simp only[hkb,Bool.false_eq_true,yc,pure_bind];exact e1
   .rcases xh.mp hx with rfl|hx
    .exact absurd hxf hk
    .exact e3 x hx hxf
theorem c_ (h:∀ x∈scope.names,x.2=.free->∃ c,env.cells.lookup x.1=some c) :
 ∃ cl,closureFor scope env=pure cl/\(∀ y c,cl.lookup y=some c->env.cells.lookup y=some c)/\(∀ x∈scope.names,x.2=.free->∃ c,cl.lookup x.1=some c):=by
 obtain⟨cl,e1,e2,e3,_⟩:=cB scope.names [] h (fun _ _ e=>by simp at e);refine⟨cl,?_,e2,e3⟩;unfold closureFor;refine Eq.trans ?_ (show((pure cl:Sem (List (Str×Addr))) >>= fun cs=>pure cs)=pure cl by simp);rw[<- e1]
 all_goals first
  |rfl
  |(congr 1;congr 1;funext x r;obtain⟨n,k⟩:=x;first|rfl|(dsimp only;split<;>simp_all))
theorem ek {f:Str->NameKind->NameKind}:∀(names:List (Str×NameKind))(y:Str),(names.map fun x=>(x.1,f x.1 x.2)).lookup y=(names.lookup y).map (f y)
 | [],y=>rfl
 |(n,k)::r,y=>by
  rw[xI,xp,xp];cases h:y==n with
  |true=>rw[eq_of_beq h];rfl
  |false=>exact ek r y
theorem cV (scope:Scope)(env:Env)(y:Str):(relabel scope env).names.lookup y=(scope.names.lookup y).map fun k=>if (k==.free&&env.scope.kind==.function&&env.kindOf y==some .cell)=true then .cell else k:=by
 have e:(relabel scope env).names=scope.names.map fun x=>(x.1,(fun n k=>if (k==NameKind.free&&env.scope.kind==.function&&env.kindOf n==some .cell)=true then NameKind.cell else k) x.1 x.2):=by unfold relabel;refine List.map_congr_left fun x _=>?_;obtain⟨n,k⟩:=x;dsimp only;split<;>rfl
 rw[e];exact ek (f:=fun n k=>if (k==NameKind.free&&env.scope.kind==.function&&env.kindOf n==some .cell)=true then NameKind.cell else k) scope.names y
theorem g0 (h:scope.names.lookup y=some .free):(relabel scope env).names.lookup y=some .cell\/(relabel scope env).names.lookup y=some .free:=by
 rw[cV,h];simp only[Option.map_some];split
 .exact .inl rfl
 .exact .inr rfl
noncomputable def aM (X:Cx)(scope:Scope)(N:List Str)(cl:List (Str×Addr))(C:Addr)(s:ye)(H:Hp)(ex:List Addr):Cx:={ X with N:=N,s₀:=s,H₀:=H,env:=compEnvC scope cl C X.env,outer:=X.stack,ex:=ex,fn:=fun _=>false,pn:=[],xe:=fun _ _=>False }
section
theorem oY (I:L2.Inv X aa σ H s)(hkind:scope.kind=.function)(hcell:∀ y∈scope.names,y.2≠.cell)(hcl:∀ y c,cl.lookup y=some c->X.env.cells.lookup y=some c)(hhas:∀ x∈scope.names,x.2=.free->∃ c,cl.lookup x.1=some c)
 (hC:s.heap.objs.size<=C) (hex:∀ b∈ex,bU X aa H b/\b<s.heap.objs.size):(aM X scope N cl C s H ex).Ok where
 mod:=I.ok.mod
 kind:=hkind
 glob:=I.ok.glob
 blt:=I.ok.blt
 above:=hC
 inj:=fun x y c h1 h2=>I.ok.inj x y c (hcl x c h1) (hcl y c h2)
 has:=fun y hy=>by
  have key:∀ k,(relabel scope X.env).names.lookup y=some k->(k=.cell\/k=.free)->∃ c,cl.lookup y=some c:=fun k e hk=>by
   rw[cV]at e;cases q:scope.names.lookup y with
   |none=>rw[q]at e;cases e
   |some k0=>
    have hm:=nR q;have h0:=hcell _ hm;have hf:k0=.free:=by
     rw[q]at e;simp only[Option.map_some,Option.some.injEq]at e;split at e
     .rename_i z;simp only[db,yd]at z;exact z.1.1
     .rcases hk with hk|hk
      .exact absurd (e.trans hk) h0
      .exact e.trans hk
    exact hhas _ hm hf
  rcases hy with hy|hy
  .exact key _ hy (.inl rfl)
  .exact key _ hy (.inr rfl)
 qy:=fun _ _ h=>by cases h
 hd:=I.ok.hd
 frames:=I.ok.frames
 sY:=.inl rfl
 u3:=fun b hb=>⟨d8 (bK (hex b hb).2 hC),fun x c e=>(hex b hb).1.2.2.2.2.1 x c (hcl x c e)⟩
 bs:=fun b o e=>I.bs b o e
 lF:=nW I.ok.lF I.sz
 iN:=fun b o e hb=>by
  rcases (hex b hb).1.2.2.2.1 with z|z
  .exact I.ok.iN b o e z
  .exact absurd (bK (bo e) (nW I.ok.lF z)) (xn _)
 jQ:=fun b hb hfs=>by
  rcases xh.mp (I.d7 b hfs) with z|z
  .exact(hex b hb).1.2.1 z
  .exact(hex b hb).1.2.2.1 z
 dn:=I.stack
 n6:=I.hU
 kt:=I.kt
structure u4 (X:Cx) (scope:Scope) (capN:List Str) (caps:List Nat):Prop where
 at':∀(k:Nat)(y:Str),capN[k]?=some y->∃ j:Nat,caps[k]?=some j/\X.N[j]?=some y
 out:∀ y∈capN,X.env.kindOf y=some .cell\/X.env.kindOf y=some .free
 hV:∀ y∈capN,scope.names.lookup y=some .free
 len:caps.length=capN.length
noncomputable def cW (σ:St)(caps:List Nat):St:=caps.map fun j=>(σ[j]?).join
theorem il (I:L2.Inv X aa σ H s)(hkind:scope.kind=.function)(hcell:∀ y∈scope.names,y.2≠.cell)(hcl:∀ y c,cl.lookup y=some c->X.env.cells.lookup y=some c)(hhas:∀ x∈scope.names,x.2=.free->∃ c,cl.lookup x.1=some c)
 (hC:s.heap.objs.size<=C) (hex:∀ b∈ex,bU X aa H b/\b<s.heap.objs.size) (hc:u4 X scope capN caps) (kp:∀ b o,s.heap.get? b=some o->h4.get? b=some o) (ns:h4.Ns C m4) :
 L2.Inv (aM X scope (tN++capN) cl C s H ex) [] (List.replicate tN.length none++cW σ caps) H { s with heap:=h4,toks:=tk } where
 ok:=oY I hkind hcell hcl hhas hC hex
 os:=rfl
 bare:=I.bare
 base:=Un.kept kp
 loc:=by
  refine⟨m4,ns,fun i y v e1 e2 e3=>?_⟩;by_cases hlt:i<tN.length
  .rw[xj (by simpa using hlt),xJ]at e2;rw[da hlt]at e2;cases e2
  .obtain⟨k,rfl⟩ : ∃ k,i=tN.length+k:=⟨i-tN.length,by lia⟩;have e1:capN[k]?=some y:=by
    have e1:(tN++capN)[tN.length+k]?=some y:=e1
    rwa [fQ (by lia),kF]at e1
   have e2:(cW σ caps)[k]?=some (some v):=by
    rwa [fQ (by simp),xQ,kF]at e2
   obtain⟨j,ej,eN⟩:=hc.at' k y e1;have e4:σ[j]?=some (some v):=by
    unfold cW at e2;rw[xf,ej]at e2;have e2:(σ[j]?).join=some v:=by simpa using e2
    cases q:σ[j]? with
    |none=>rw[q]at e2;cases e2
    |some o=>rw[q]at e2;cases o with
     |none=>cases e2
     |some w=>cases e2;rfl
   have hm:=xA e1;obtain⟨m,hn,hl⟩:=I.loc;have hout:=hc.out y hm;obtain⟨u,r,l⟩:=hl j y v eN e4 (.inr hout);refine⟨u,r,.inr ⟨g0 (hc.hV y hm),?_⟩⟩;obtain⟨c,hcl2⟩:=hhas (y,.free) (nR (hc.hV y hm)) rfl;refine⟨c,hcl2,?_⟩;rcases l with⟨l,_⟩|⟨_,c',e5,z⟩
   .rcases hout with h|h<;>(rw[h]at l;cases l)
   .have:=hcl y c hcl2;rw[e5]at this;cases this;obtain⟨o,ho,hd⟩:=z;exact⟨o,kp _ o ho,hd⟩
 cell:=fun y c e=>by obtain⟨v,o,ho,hd⟩:=I.cell y c (hcl y c e);exact⟨v,o,kp _ o ho,hd⟩
 free:=I.bc.fresh hC
 bS:=fun y c e=>I.bS y c (hcl y c e)
 pin:=fun p hp=>absurd (show p∈([]:List (Addr×Obj)) from hp) (by simp)
 bc:=I.bc.kept kp
 len:=by simp[aM,cW,hc.len]
theorem gn (I:L2.Inv X aa σ H s)(hX:X'=aM X scope N cl C s H ex)(hC:s.heap.objs.size<=C)(hex:∀ b∈ex,bU X aa H b/\b<s.heap.objs.size)
 (I':L2.Inv X' pl σ' H' s'):L2.Inv X aa σ H' s'/\bU X aa H' C:=by
 subst hX;refine⟨I.qx (ch:=ex) I'.os I'.base I'.bc I'.bare fun b hb=>?_,I.nM hC I'.free⟩;obtain⟨_,h2,h3,h4,h5,h6⟩:=(hex b hb).1;exact⟨h4,h2,h5,h6⟩
theorem g3 (I:L2.Inv X aa σ H s)(hf:bU X aa H C)(sb:Heap.SameBut C s.heap h'):L2.Inv X aa σ H { s with heap:=h' }:=I.turned (t':=s.toks) (it:=C) (fun b o hb e=>(sb.2 b hb).trans e) hf.1 hf.2.1 hf.2.2.2.1 hf.2.2.2.2.1 hf.2.2.2.2.2
end
section
def p_ (X:Cx)(ifs:List Expr)(tt:TT):Prop:=∀(aa:List (Addr×Obj))(s:ye)(σ:St)(H:Hp)(Q:Bool->Hp->Prop),L2.Inv X aa σ H s->tt σ H Q->
 wpAny (model X.prog X.w) X.A (forIn ifs true fun c r=>if r=true then do let ok <- isTrue c X.env (eval c X.env);pure (ForInStep.yield ok) else pure (ForInStep.yield r)) (TP X aa σ Q) X.xe s
theorem oZ:p_ X [] (fun _ H Q=>Q true H):=fun _ _ σ H Q I q=>wpAny_tests_nil ⟨H,I,q⟩
theorem o0 (h:PT X c tt):p_ X [c] tt:=fun aa s σ H Q I q=>wpAny_tests_one (h aa s σ H Q I q)
theorem lc (hX:X'=aM X scope (tN++capN) cl C s3 H3 fp)(T:Turn X.prog X.w X.K tg J fp it tn)(hcalm:X.calm=true)
 (I4:L2.Inv X' [] (List.replicate tN.length none++σc) H3 s4) (bI:X'.N.length=tN.length+σc.length) (st4:tn 0 s4.heap) (hf:∀ b∈fp,bU X' [] H3 b)
 (hg:PG X' tg gt) (ht:p_ X' ifs tt) (he:PE X' elt te)
   (W:Nat->Nat->List V->Hp->Prop) (gR:List V->Hp->Prop) (w0:∃ m,W 0 m [] H3)
   (turn:∀ i m acc H,W i m acc H->H Dl=some (.lst acc)/\((J.stop i H/\gR acc H)\/(J.go i H/\∀ xv H' o,J.pS i H xv H'->o.length=tN.length->gt xv (o++σc) H' fun σ2 H1=>(∀ j:Nat,tN.length<=j->σ2[j]?=(o++σc)[j]?)/\tt σ2 H1 fun b H2=>if b=true then
     te σ2 H2 fun y H5=>H5 Dl=some (.lst acc)/\acc.length<sizeLine/\∃ m',m'<m/\W (i+1) m' (acc++[y]) (aX H5 Dl (.lst (acc++[y]))) else ∃ m',m'<m/\W (i+1) m' acc H2)))
   (R:Result->ye->Prop) (hR:∀ σ' H' acc s',L2.Inv X' [] σ' H' s'->H' Dl=some (.lst acc)->gR acc H'->R (.ok .next) s') :
   codeAny (model X.prog X.w) X.A (.compLoop (.ListComp elt [⟨tg,iter,ifs,0⟩] scope pos) 0 (.ref it) (.ref Dl) (compEnvC scope cl C X.env)) R s4:=by
  obtain⟨m0,w0⟩:=w0;have eA:X'.A=X.A:=by rw[hX];rfl
  have eP:X'.prog=X.prog:=by rw[hX];rfl
  have eW:X'.w=X.w:=by rw[hX];rfl
  have eK:X'.K=X.K:=by rw[hX];rfl
  have eE:X'.env=compEnvC scope cl C X.env:=by rw[hX];rfl
  have eX:X'.xe=fun _ _=>False:=by rw[hX];rfl
  have eC:X'.calm=true:=by rw[hX];exact hcalm
  have stat:∀{H':Hp},(∀ b∈fp,H' b=none)->∀ b∈fp,bU X' [] H' b:=fun hn b hb=>⟨hn b hb,(hf b hb).2⟩;refine codeAny_loop rfl (fun n s=>∃ i o acc H,L2.Inv X' [] (o++σc) H s/\o.length=tN.length/\tn i s.heap/\(∀ b∈fp,H b=none)/\W i n acc H) ?_ m0 ⟨0,List.replicate tN.length none,[],H3,I4,by simp,st4,fun b hb=>(hf b hb).1,w0⟩;rintro n s5 ⟨i,o,acc,H5,I5,lo,st5,fr5,w5⟩;show wpAny _ X.A ((compTurn (.ListComp elt [⟨tg,iter,ifs,0⟩] scope pos) 0 (.ref it) (.ref Dl) (compEnvC scope cl C X.env)).onRaise (fun x=>do noteFrame x (compEnvC scope cl C X.env);theTreesLotGoes x)) _ _ s5;refine wpAny_noted ?_;rw[compTurn_list];obtain⟨hD,alt⟩:=turn i n acc H5 w5;rcases alt with⟨stop,fin⟩|⟨go,step⟩
  .refine ae (xK (ae (fO (eA▸T.done X' eP eW eK eC i [] s5 _ H5 _ I5 (stat fr5) st5 stop) (fun r s6 ⟨hr,I6⟩=>?_) fun _ _ z=>z)));subst hr;exact bp (hR _ H5 acc s6 I6 hD fin)
  .refine ae (xK (ae (fO (eA▸T.item X' eP eW eK eC i [] s5 _ H5 _ I5 (stat fr5) st5 go) (fun r s6 ⟨u,hr,h6⟩=>?_) fun _ _ z=>z)));subst hr;refine ae (fO h6 (fun _ s7 ⟨xv,H7,I7,r7,y7,st7,fr7⟩=>?_) fun _ _ z=>z);have I7':=I7.pinned (stat fr7) (T.obj _ _ st7);have hg':=hg _ s7 _ H7 xv u _ I7' r7 (step xv H7 o y7 lo);rw[eP,eW,eA,eE,eX]at hg';refine ae (fO hg' (fun _ s8 ⟨σ8,H8,I8,shp,q8⟩=>?_) fun _ _ z=>z.elim);obtain⟨o2,lo2,eσ⟩ : ∃ o2:St,o2.length=tN.length/\σ8=o2++σc:=by
    have l8:σ8.length=tN.length+σc.length:=I8.len.trans bI;refine⟨σ8.take tN.length,by rw[xB];lia,?_⟩;have ed:σ8.drop tN.length=σc:=by
     apply List.ext_getElem?
     intro j;rw[List.getElem?_drop,shp (tN.length+j) (by lia),fQ (by lia),lo,kF]
    rw[<- ed,List.take_append_drop]
   subst eσ;have ht':=ht _ s8 _ H8 _ I8 q8;rw[eP,eW,eA,eE,eX]at ht';refine ae (fO ht' (fun ok s9 ⟨H9,I9,q9⟩=>?_) fun _ _ z=>z.elim);have again:∀{s':ye}{H':Hp},L2.Inv X' ([]++dM fp s7.heap) (o2++σc) H' s'->L2.Inv X' [] (o2++σc) H' s'/\tn (i+1) s'.heap/\∀ b∈fp,H' b=none:=fun{s' H'} J'=>by refine⟨J'.c0,T.keep _ _ _ st7 fun b hb ob e=>(J'.pin (b,ob) (bX _ (bX _ (bG hb e)))).1,fun b hb=>?_⟩;obtain⟨ob,e,d⟩:=T.obj _ _ st7 b hb;exact(J'.pin (b,ob) (bX _ (bX _ (bG hb e)))).2.1
   cases ok with
   |false=>obtain⟨m',hm,w9⟩:=(show ∃ m',m'<n/\W (i+1) m' acc H9 from by simpa using q9);obtain⟨a1,a2,a3⟩:=again I9;exact bp ⟨rfl,m',hm,i+1,o2,acc,H9,a1,lo2,a2,a3,w9⟩
   |true=>
    have q9:te (o2++σc) H9 fun y H5=>H5 Dl=some (.lst acc)/\acc.length<sizeLine/\∃ m',m'<n/\W (i+1) m' (acc++[y]) (aX H5 Dl (.lst (acc++[y]))):=by simpa using q9
    have he':=he _ s9 _ H9 _ I9 q9;rw[eP,eW,eA,eE,eX]at he';refine ae (ae (fO he' (fun v s10 ⟨y,H10,I10,ry,eD,hl,m',hm,w10⟩=>?_) fun _ _ z=>z.elim));have hm':=dP (X:=X') _ s10 _ H10 (.ref Dl) [y] (.ref Dl) [v] (fun w H'=>w=.cH/\H'=aX H10 Dl (.lst (acc++[y]))) I10 rfl (.cons ry .nil) ⟨Dl,acc,y,rfl,rfl,eD,hl,rfl,rfl⟩;rw[eP,eW,eA,eX]at hm';refine ae (fO hm' (fun _ s11 ⟨w,H11,I11,_,_,eH⟩=>?_) fun _ _ z=>z.elim);subst eH;obtain⟨a1,a2,a3⟩:=again I11;exact bp (bp ⟨rfl,m',hm,i+1,o2,acc++[y],_,a1,lo2,a2,a3,w10⟩)
end
structure bE (X:Cx) (scope:Scope) (tN:List Str) (capN:List Str) (caps:List Nat):Prop where
 kind:scope.kind=.function
 kK:∀ y∈scope.names,y.2≠.cell
 names:∀ y∈scope.names,y.2=.local->scope.names.lookup y.1=some .local
 own:∀ x∈tN,scope.names.lookup x=some .local
 free:∀ y∈scope.names,y.2=.free->X.env.kindOf y.1=some .cell\/X.env.kindOf y.1=some .free
 cap:u4 X scope capN caps
 nd:(tN++capN).Nodup
section
def bM (X:Cx)(scope:Scope)(tg:Expr)(tN:List Str)(capN:List Str)(caps:List Nat)(elt:Expr)(ifs:List Expr)(σ:St)(gR:Addr->List V->Hp->Prop)(J:It)(H2:Hp):Prop:=
 ∀(Dl:Addr),H2 Dl=none->∀(cl:List (Str×Addr))(C:Addr)(s3:ye)(fp:List Addr),∃(gt:TG)(tt:TT)(te:TE)(W:Nat->Nat->List V->Hp->Prop),
  PG (aM X scope (tN++capN) cl C s3 (aX H2 Dl (.lst [])) fp) tg gt/\p_ (aM X scope (tN++capN) cl C s3 (aX H2 Dl (.lst [])) fp) ifs tt/\PE (aM X scope (tN++capN) cl C s3 (aX H2 Dl (.lst [])) fp) elt te/\(∃ m,W 0 m [] (aX H2 Dl (.lst [])))/\
  ∀ i m acc H,W i m acc H->H Dl=some (.lst acc)/\((J.stop i H/\gR Dl acc H)\/(J.go i H/\∀ xv H' (o:St),J.pS i H xv H'->o.length=tN.length->gt xv (o++cW σ caps) H' fun σ2 H1=>(∀ j:Nat,tN.length<=j->σ2[j]?=(o++cW σ caps)[j]?)/\tt σ2 H1 fun b H2=>if b=true then
   te σ2 H2 fun y H5=>H5 Dl=some (.lst acc)/\acc.length<sizeLine/\∃ m',m'<m/\W (i+1) m' (acc++[y]) (aX H5 Dl (.lst (acc++[y]))) else ∃ m',m'<m/\W (i+1) m' acc H2))
theorem gp {use:Option (yh->Sem Unit)}{Qv:yh->ye->Prop}{gR:Addr->List V->Hp->Prop}(hc:X.calm=true)(S:bE X scope tN capN caps)(I:L2.Inv X aa σ H s)(hi:PI X tg iter wi)
 (h:wi σ H (bM X scope tg tN capN caps elt ifs σ gR))
 (hu:∀(Dl C:Addr)(acc:List V)(H':Hp)(s':ye),L2.Inv X aa σ H' s'->bU X aa H' C->H' Dl=some (.lst acc)->gR Dl acc H'->(∃ m,s'.heap.Ns C m)->compPost (model X.prog X.w) X.A X.xe use Qv (.ref Dl) C (.ok .next) s')
 (hs:autoParam (∀ x,foldedSetIterable iter X.env x=pure x) yn._auto_1) :
 wX X (comprehension (.ListComp elt [⟨tg,iter,ifs,0⟩] scope pos) scope X.env (firstIterPos [⟨tg,iter,ifs,0⟩] pos) (newList []) false (eval iter X.env) use) Qv X.xe s:=by
 obtain⟨cl,ecl,hcl,hhas⟩:=c_ (scope:=scope) (env:=X.env) fun y hy hf=>I.ok.has y.1 (S.free y hy hf);refine wpAny_comprehension_free rfl hs ecl S.kind S.names (ce (hi aa s σ H _ I h) fun v s1 h1=>ce h1 fun itv s2 h2=>?_);obtain⟨it,fp,tn,J,H2,rfl,I2,T,st2,f2,goal⟩:=h2;refine gH (wpAny_newFunctionEnv S.kK (by intro y hy;simp at hy) (fun h₁ hns₁ hsb₁=>?_) S.kind);dsimp only at hns₁ hsb₁ ⊢;have hD:H2 s2.heap.objs.size=none:=I2.bc.fresh (bD _);have I3:L2.Inv X aa σ (aX H2 s2.heap.objs.size (.lst [])) { s2 with heap:=s2.heap.push { cls:=.type "list",dict:=none,data:=.seq ([]:List yh).toArray } }:=I2.laid (t':=s2.toks) (fun b u e=>ba _ e) (bD _) ⟨ya _,[],0,.nil,cI _ rfl⟩;generalize hs3:({ s2 with heap:=s2.heap.push { cls:=.type "list",dict:=none,data:=.seq ([]:List yh).toArray } }:ye)=s3 at I3;have e3:s2.heap.push { cls:=.type "list",dict:=none,data:=.seq ([]:List yh).toArray }=s3.heap:=by rw[<- hs3]
 rw[e3]at hns₁ hsb₁ ⊢;have kp:∀ b o,s3.heap.get? b=some o->h₁.get? b=some o:=fun b o e=>hsb₁.extBut b o (d8 (bo e)) (ba _ e);have k23:∀ b o,s2.heap.get? b=some o->s3.heap.get? b=some o:=fun b o e=>by rw[<- e3];exact ba _ e
 have hex:∀ b∈fp,bU X aa (aX H2 s2.heap.objs.size (.lst [])) b/\b<s3.heap.objs.size:=fun b hb=>by obtain⟨o,ho,_⟩:=T.obj 0 _ st2 b hb;have hlt:b<s2.heap.objs.size:=bo ho;refine⟨⟨?_,(f2 b hb).2⟩,bo (k23 b o ho)⟩;rw[aA (d8 hlt)];exact(f2 b hb).1
 have es:({ s2 with heap:=h₁,toks:=s2.toks+([]:List (Str×yh)).length }:ye)={ s3 with heap:=h₁,toks:=s2.toks+([]:List (Str×yh)).length }:=by rw[<- hs3]
 have I4:L2.Inv (aM X scope (tN++capN) cl s3.heap.objs.size s3 (aX H2 s2.heap.objs.size (.lst [])) fp) [] (List.replicate tN.length none++cW σ caps) (aX H2 s2.heap.objs.size (.lst [])) { s3 with heap:=h₁,toks:=s2.toks+([]:List (Str×yh)).length }:=il I3 S.kind S.kK hcl hhas (bD _) hex S.cap kp hns₁;obtain⟨gt,tt,te,W,hg,ht,he,w0,turn⟩:=goal s2.heap.objs.size hD cl s3.heap.objs.size s3 fp;have st4:tn 0 h₁:=T.keep 0 _ _ st2 fun b hb o e=>kp b o (k23 b o e);have f4:∀ b∈fp,bU (aM X scope (tN++capN) cl s3.heap.objs.size s3 (aX H2 s2.heap.objs.size (.lst [])) fp) [] (aX H2 s2.heap.objs.size (.lst [])) b:=fun b hb=>by
  obtain⟨f,hlt⟩:=hex b hb;refine⟨f.1,d8 hlt,fun hfs=>?_,.inl hb,fun y c e=>f.2.2.2.2.1 y c (hcl y c e),fun p hp=>absurd (show p∈([]:List (Addr×Obj)) from hp) (by simp)⟩;rcases xh.mp (I3.d7 b hfs) with z|z
  .exact f.2.1 z
  .exact f.2.2.1 z
 have loop:codeAny (model X.prog X.w) X.A (.compLoop (.ListComp elt [⟨tg,iter,ifs,0⟩] scope pos) 0 (.ref it) (.ref s2.heap.objs.size) (compEnvC scope cl s3.heap.objs.size X.env)) (compPost (model X.prog X.w) X.A X.xe use Qv (.ref s2.heap.objs.size) s3.heap.objs.size)
  { s3 with heap:=h₁,toks:=s2.toks+([]:List (Str×yh)).length }:=by
  refine lc rfl T hc I4 (by show(tN++capN).length=_;simp[cW,S.cap.len]) st4 f4 hg ht he W (gR s2.heap.objs.size) w0 turn _ fun σ' H' acc s' I' hD' fin=>?_;obtain⟨Io,fo⟩:=gn I3 rfl (bD _) hex I';obtain⟨m',hn',_⟩:=I'.loc;exact hu _ _ acc H' s' Io fo hD' fin ⟨m',hn'⟩
 rw[es];exact codeAny_compStart_list loop (T.self _ 0 _ _ _ st4 loop)
theorem mx (hc:X.calm=true)(S:bE X scope tN capN caps)(I:L2.Inv X aa σ H s)(hi:PI X tg iter wi)(h:wi σ H (bM X scope tg tN capN caps elt ifs σ fun Dl _ H'=>Q (.ref Dl) H'))
 (hs:autoParam (∀ x,foldedSetIterable iter X.env x=pure x) yn._auto_1):wX X (eval (.ListComp elt [⟨tg,iter,ifs,0⟩] scope pos) X.env) (EP X aa σ Q) X.xe s:=by
 rw[eval_ListComp];refine gp (use:=none) hc S I hi h (fun Dl C acc H' s' Io fo hD fin hn=>?_) hs;obtain⟨m,hn⟩:=hn;exact⟨m,hn,fun h' sb=>⟨.ref Dl,H',g3 Io fo sb,rfl,fin⟩⟩
theorem my {D:Ends}{i:Nat}(hc:X.calm=true)(S:bE X scope tN capN caps)(hN:X.N.Nodup)(hi':X.N[i]?=some y)(hy:X.env.scope.names.lookup y=some .local)
 (hsw:swapsWith (.ListComp elt [⟨tg,iter,ifs,0⟩] scope pos) (some (.Name y py)) spos.line X.env=pure true) (I:L2.Inv X aa σ H s) (hi:PI X tg iter wi)
 (h:wi σ H (bM X scope tg tN capN caps elt ifs σ fun Dl _ H'=>D.nx (σ.set i (some (.ref Dl))) H')) (hs:autoParam (∀ x,foldedSetIterable iter X.env x=pure x) yn._auto_1) :
 wX X (exec (.Assign [.Name y py] (.ListComp elt [⟨tg,iter,ifs,0⟩] scope pos) spos) X.env) (SP X aa D) X.xe s:=by
 rw[exec_Assign_Name_used _ _ _ _ hsw];refine ae (xK (ae ?_));show wpAny _ X.A (do let _ <- comprehension (.ListComp elt [⟨tg,iter,ifs,0⟩] scope pos) scope X.env _ (newList []) false (eval iter X.env) (some (assign (.Name y py) X.env))) _ _ s;refine ae (fO (gp (use:=some (assign (.Name y py) X.env)) (Qv:=fun _ s'=>SP X aa D .next s') hc S I hi h (fun Dl C acc H' s' Io fo hD fin hn=>?_) hs) (fun _ s' hq=>bp (bp hq)) fun _ _ e=>e);obtain⟨m,hn⟩:=hn;show wpAny _ X.A (assign (.Name y py) X.env (.ref Dl)) _ _ _;refine wpAny_assign_Name (gf (v:=.ref Dl) Io hN hi' (.inl hy) rfl (fun s'' I'' ⟨a,sb,ha⟩=>?_) (.inr hy));have nca:C≠a:=by
  rcases ha with z|z
  .rw[z];exact fo.2.1
  .exact xg (fo.2.2.2.2.1 y a z)
 refine⟨m,hn.sameBut sb nca,fun h' sb'=>?_⟩;exact⟨_,H',g3 I'' fo sb',fin⟩
end
noncomputable def Res.vh {α:Type}:Res α->Res α
 | .exc _=>.stuck
 |r=>r
def o5 (env:En)(j:Nat):Option Sl:=match env[j]? with
 |some (some (.val d fr))=>some (.val d fr)
 |some (some (.own ds fr))=>some (.val (.lst ds) fr)
 |some (some (.gG d))=>some (.val d true)
 |_=>none
def dg (env:En)(n:Nat)(caps:List Nat):En:=List.replicate n none++caps.map (o5 env)
def cv (mk:D->Option En)(test:En->Res Bool)(elt:En->Res R):List D->Res (List R)
 | []=>.ok []
 |x::xs=>match mk x with
  |none=>.stuck
  |some e=>(test e).bind fun b=>if b then (elt e).bind fun r=>(cv mk test elt xs).bind fun rs=>.ok (r::rs) else cv mk test elt xs
def en (n:Nat)(caps:List Nat)(src:En->Res Src)(asg:D->Bool->En->Option En)(test:En->Res Bool)(elt:En->Res R):En->Res R:=fun env=>(src env).bind fun s=>if s.xs.length<=lim then
 (cv (fun d=>asg d s.fr (dg env n caps)) test elt s.xs).vh.bind fun rs=>.ok (eR (rs.map R.d) (aW rs) (s.al++caps.filter (cj env))) else .stuck
def mz (X:Cx)(E:XK)(ifs:List Expr)(f:En->Res Bool):Prop:=∃ t,p_ X ifs t/\SndT X.mg E t f
section
theorem fw:mz X E [] (fun _=>.ok true):=⟨_,oZ,fun g M ρ env σ H Q rep p=>p M H (Ext.refl _ _) rep⟩
end
section
variable {M1:Addr->Prop}
theorem t6 (rep:Rep g M1 ρ env σ H1)(s:Same H1 H)(ho:o.length=n)(hM:∀ a,(M1 a\/∃ i,i∈caps/\ρ i a)->M' a)(hf:∀ a,M' a->H a≠none)(hi:∀ a,M' a->g.H₀ a=none\/g.Ma a)(hfl:∀ a,M' a->g.H₀ a=none->MuZ g H a) :
 Rep g M' (fun _ _=>False) (dg env n caps) (o++cW σ caps) H where
 same:=rep.same.trans s
 cL:=hf
 hV:=hi
 fl:=hfl
 slot:=fun i sl e=>by
  by_cases hlt:i<n
  .unfold dg at e;rw[xj (by simpa using hlt),xJ,da hlt]at e;cases e
  .obtain⟨k,rfl⟩ : ∃ k,i=n+k:=⟨i-n,by lia⟩;have e:(caps.map (o5 env))[k]?=some (some sl):=by
    unfold dg at e
    rwa [fQ (by simp),xQ,kF]at e
   rw[xf]at e;cases q:caps[k]? with
   |none=>rw[q]at e;cases e
   |some j=>
    rw[q]at e;have e:o5 env j=some sl:=by simpa using e
    have hj:j∈caps:=xA q;unfold o5 at e;cases q2:env[j]? with
    |none=>rw[q2]at e;cases e
    |some o=>
     cases o with
     |none=>rw[q2]at e;cases e
     |some sl0=>
      obtain⟨v,ev,k2⟩:=rep.slot j sl0 q2;have el:(o++cW σ caps)[n+k]?=some (some v):=by rw[fQ (by lia),ho,kF];unfold cW;rw[xf,q];simp[ev]
      rw[q2]at e;cases sl0 with
      |val d' fr'=>cases e;exact⟨v,el,Is.mono (fun a o q _=>s a o q) (fun a _ _ z=>⟨hM a (.inl z.1),z.2⟩) k2⟩
      |own ds' fr'=>cases e;obtain⟨a,vs,rfl,h1,h2,h4⟩:=k2;have ha:=(h2 a).mpr rfl;exact⟨_,el,a,vs,rfl,.inl ⟨s _ _ h1,hM a (.inr ⟨j,hj,ha⟩),fun _=>(rep.bg j a ha).2.1⟩,IsAll.mono (fun a o q _=>s a o q) (fun a _ _ z=>⟨hM a (.inl z.1),z.2⟩) h4⟩
      |gG d'=>cases e;exact⟨v,el,Is.mono (fun a o q _=>s a o q) (fun a _ _ z=>⟨hM a (.inr ⟨j,hj,z⟩),fun _=>(rep.bg j a z).2.1⟩) k2⟩
      |n5 d'=>cases e
 bg:=fun _ _ z=>z.elim
 apart:=fun _ _ _ z=>z.elim
 ow:=fun _ _ z=>z.elim
 len:=by simp[dg,cW,ho]
 zz:=fun a z e=>rep.zz a z (s.free e)
end
noncomputable def im (X:Cx)(scope:Scope)(tg:Expr)(tN:List Str)(capN:List Str)(caps:List Nat)(elt:Expr)(ifs:List Expr)(wi:TI):TE:=fun σ H Q=>wi σ H (bM X scope tg tN capN caps elt ifs σ fun Dl _ H'=>Q (.ref Dl) H')
structure CI (g:Gd) (M:Addr->Prop) (H1:Hp) (Dl:Addr) (C:Nat->List R->Prop) (full:List R) (i:Nat) (acc:List V) (H:Hp) (M':Addr->Prop) (rs aP:List R):Prop where
 sm:Same H1 H
 hD:H Dl=some (.lst acc)
 mi:∀ a,M a->M' a
 mo:∀ a,M' a->M a\/H1 a=none
 nD:¬ M' Dl
 fz:∀ a,M' a->H a≠none
 fl:∀ a,M' a->g.H₀ a=none->MuZ g H a
 rl:rs.length<=i
 is:IsAll H (msk g M' (aW rs)) (rs.map R.d) acc
 qr:C i aP
 ef:full=rs++aP
section
theorem lf {M1:Addr->Prop}{H1:Hp}{Q:VK}{J:It}{s:Src}{full:List R}(hix:∀ j∈ix,j<tN.length)(hg:∀ cl C s3 H3 fp,ti (aM X scope (tN++capN) cl C s3 H3 fp) ix tg asg)(ht:∀ cl C s3 H3 fp,mz (aM X scope (tN++capN) cl C s3 H3 fp) E0 ifs ft)(he:∀ cl C s3 H3 fp,PD (aM X scope (tN++capN) cl C s3 H3 fp) E0 elt fe)(rep1:Rep g M1 ρ env σ H1)(wk:Walk J (vmsk g M1 s.fr ρ s.al) H1 s.xs)(hlim:s.xs.length<=lim)(qc:cv (fun d=>asg d s.fr (dg env tN.length caps)) ft fe s.xs=.ok full)
 (p:PostE X.mg E g M1 ρ env σ H1 Q (.ok (eR (full.map R.d) (aW full) (s.al++caps.filter (cj env))))):bM X scope tg tN capN caps elt ifs σ (fun Dl _ H'=>Q (.ref Dl) H') J H1:=by
 intro Dl hDl cl C s3 fp;obtain⟨gt,pg,sg⟩:=hg cl C s3 (aX H1 Dl (.lst [])) fp;obtain⟨tt,pt,st⟩:=ht cl C s3 (aX H1 Dl (.lst [])) fp;obtain⟨te,pe,se⟩:=he cl C s3 (aX H1 Dl (.lst [])) fp;obtain⟨d0,dm,dow⟩:=rep1.free hDl;refine⟨gt,tt,te,fun i m acc H=>m=s.xs.length-i/\i<=s.xs.length/\∃(M':Addr->Prop)(rs aP:List R),CI g (fun a=>M1 a\/∃ j,j∈s.al++caps/\ρ j a) H1 Dl (fun i aP=>cv (fun d=>asg d s.fr (dg env tN.length caps)) ft fe (s.xs.drop i)=.ok aP) full i acc H M' rs aP,
  pg,pt,pe,⟨_,rfl,ya _,(fun a=>M1 a\/∃ j,j∈s.al++caps/\ρ j a),[],full,aK hDl,aI,fun _ z=>z,fun _ z=>.inl z,?_,?_,?_,bD _,rfl,qc,rfl⟩,?_⟩
 .rintro (z|⟨j,_,z⟩)
  .exact dm z
  .exact dow j z
 .rintro a (z|⟨j,_,z⟩) hn
  .exact rep1.cL a z ((aK hDl).free hn)
  .obtain⟨_,_,uo,hz,_⟩:=rep1.bg j a z;rw[(aK hDl) a _ hz]at hn;cases hn
 .rintro a (z|⟨j,_,z⟩) h0
  .exact(rep1.fl a z h0).same fun o e=>aK hDl _ _ e
  .exact .inl ((rep1.bg j a z).2.2.same fun o e=>aK hDl _ _ e)
 .rintro i m acc H2 ⟨rfl,hle,M',rs,aP,sm,hD2,hMi,hMo,nD,frz2,fl2,hrs,isA,qr,efull⟩;refine⟨hD2,?_⟩;have kp:∀ a o,H1 a=some o->(vmsk g M1 s.fr ρ s.al a\/cP o)->H2 a=some o:=fun a o e _=>sm a o e;have inn2:∀{M'':Addr->Prop}{a:Addr},(M1 a\/∃ j,j∈s.al++caps/\ρ j a)\/H1 a=none->g.H₀ a=none\/g.Ma a:=fun{M'' a} z=>by
   rcases z with(z|⟨j,_,z⟩)|z
   .exact rep1.hV a z
   .exact .inl (rep1.bg j _ z).2.1
   .exact .inl (rep1.same.free z)
  by_cases hlt:i<s.xs.length
  .have ed:s.xs[i]?=some s.xs[i]:=by simp[hlt]
   obtain⟨go,yl⟩:=wk.go H2 i _ kp ed;refine .inr ⟨go,fun xv H3 o y lo=>?_⟩;obtain⟨s23,isx⟩:=yl xv H3 y;have edrop:s.xs.drop i=s.xs[i]::s.xs.drop (i+1):=List.drop_eq_getElem_cons hlt;rw[edrop]at qr;unfold cv at qr;have isx':Is H3 (msk g M' s.fr) s.xs[i] xv:=isx.weak fun a z=>by
    rcases z with z|⟨j,hj,z⟩
    .exact⟨hMi a (.inl z.1),z.2⟩
    .exact⟨hMi a (.inr ⟨j,by simp[hj],z⟩),fun _=>(rep1.bg j _ z).2.1⟩
   have repI:Rep g M' (fun _ _=>False) (dg env tN.length caps) (o++cW σ caps) H3:=t6 rep1 (sm.trans s23) lo (fun a z=>hMi a (z.imp id fun⟨j,hj,w⟩=>⟨j,by simp[hj],w⟩)) (fun a z hn=>frz2 a z (s23.free hn)) (fun a z=>inn2 (M'':=M') (hMo a z)) (fun a z h0=>(fl2 a z h0).same fun o e=>s23 _ _ e);cases qa:asg s.xs[i] s.fr (dg env tN.length caps) with
   |none=>simp only[qa]at qr;cases qr
   |some envT=>
   simp only[qa]at qr;refine sg g M' _ _ envT _ H3 _ s.fr xv _ repI isx' qa fun σ2 ρ2 repT shp nρ=>⟨fun j hj=>shp j fun z=>absurd (hix j z) (by lia),?_⟩;refine st g M' ρ2 _ _ H3 _ repT ?_;cases qt:ft envT with
   |stuck=>rw[qt]at qr;cases qr
   |exc c=>rw[qt]at qr;cases qr
   |ok b=>
    rw[qt]at qr;intro M4 H4 e4 rep4;cases b with
    |false=>refine jq ⟨s.xs.length-(i+1),by lia,rfl,hlt,M',rs,aP,(sm.trans s23).trans e4.h,e4.h _ _ (s23 _ _ hD2),hMi,hMo,nD,fun a z hn=>frz2 a z (s23.free (e4.h.free hn)),fun a z h0=>(fl2 a z h0).same fun o e=>e4.h _ _ (s23 _ _ e),by lia,?_,by simpa using qr,efull⟩;exact IsAll.same e4.h (IsAll.same s23 isA)
    |true=>
     refine lV ?_;simp only[Res.cF,x9]at qr;refine se g M4 ρ2 _ _ H4 _ rep4 ?_;cases qe:fe envT with
     |stuck=>rw[qe]at qr;cases qr
     |exc c=>rw[qe]at qr;cases qr
     |ok r=>
      rw[qe]at qr;simp only[Res.cF]at qr;cases qd:cv (fun d=>asg d s.fr (dg env tN.length caps)) ft fe (s.xs.drop (i+1)) with
      |stuck=>rw[qd]at qr;cases qr
      |exc c=>rw[qd]at qr;cases qr
      |ok rest'=>
       rw[qd]at qr;have qr:r::rest'=aP:=by simpa using qr
       intro yv M5 H5 e5 rep5 ro;obtain⟨M6,e6,m56,rep6,is6⟩:=ro.is rep5 e5 rep4.same;have D3:H3 Dl=some (.lst acc):=s23 _ _ hD2;have D4:H4 Dl=some (.lst acc):=e4.h _ _ D3;have D5:H5 Dl=some (.lst acc):=e5.h _ _ D4;have nD4:¬ M4 Dl:=fun z=>(e4.n Dl z).elim nD fun w=>by rw[D3]at w;cases w
       have nD6:¬ M6 Dl:=fun z=>(e6.n Dl z).elim nD4 fun w=>by rw[D4]at w;cases w
       have M46:∀ a,M4 a->M6 a:=e6.m;have up:∀ a o,H5 a=some o->a≠Dl->aX H5 Dl (.lst (acc++[yv])) a=some o:=fun a o e n=>by rw[aA n];exact e
       have kp5:∀(fr:Bool) a o,H5 a=some o->(msk g M6 fr a\/cP o)->aX H5 Dl (.lst (acc++[yv])) a=some o:=fun fr a o e z=>up a o e fun w=>by
        subst w;rcases z with z|z
        .exact nD6 z.1
        .rw[D5]at e;cases e;exact z
       refine⟨D5,?_,s.xs.length-(i+1),by lia,rfl,hlt,M6,rs++[r],rest',?_,aI,fun a z=>M46 a (e4.m a (hMi a z)),fun a z=>?_,nD6,fun a z=>?_,fun a z h0=>?_,by simp;lia,?_,qd,by rw[efull,<- qr];simp⟩
       .have:acc.length=rs.length:=by rw[isA.length,eB]
        exact l9 (by lia)
       .intro b o e;exact up b o (e5.h _ _ (e4.h _ _ (s23 _ _ (sm _ _ e)))) (aH e hDl)
       .rcases e6.n a z with z|z
        .rcases e4.n a z with z|z
         .exact hMo a z
         .exact .inr (sm.free (s23.free z))
        .exact .inr (sm.free (s23.free (e4.h.free z)))
       .by_cases hw:a=Dl
        .rw[hw,aI];simp
        .rw[aA hw];exact rep6.cL a z
       .have hw:a≠Dl:=fun e=>nD6 (e▸z);exact(rep6.fl a z h0).same fun o e=>by rw[aA hw];exact e
       .rw[List.map_append];refine IsAll.append ?_ ⟨yv,[],rfl,?_,rfl⟩
        .have i5:IsAll H5 (msk g M' (aW rs)) (rs.map R.d) acc:=((isA.same s23).same e4.h).same e5.h;refine(i5.weak fun a z=>(⟨M46 a (e4.m a z.1),fun e=>z.2 (by simp[aW]at e ⊢;exact e.1)⟩ : msk g M6 (aW (rs++[r])) a)).mono (kp5 _) fun _ _ _ z=>z
        .refine(is6.weak fun a z=>?_:Is H5 (msk g M6 (aW (rs++[r]))) r.d yv).mono (kp5 _) fun _ _ _ z=>z;rcases z with z|⟨j,_,z⟩
         .exact⟨z.1,fun e=>z.2 (by simp[aW]at e;exact e.2)⟩
         .exact(nρ _ _ z).elim
  .have ei:i=s.xs.length:=by lia
   subst ei;refine .inl ⟨wk.stop H2 kp,?_⟩;rw[List.drop_length]at qr;unfold cv at qr;cases qr;rw[xm]at efull;subst efull;have RM:Rep g (fun a=>M1 a\/(nl H1 H2 a/\M' a)) ρ env σ H2:=rep1.came sm M';have XM:Ext M1 H1 (fun a=>M1 a\/(nl H1 H2 a/\M' a)) H2:=⟨fun _=>.inl,sm,fun _ z=>z.imp id (·.1.1)⟩;have nDl:¬ (M1 Dl\/(nl H1 H2 Dl/\M' Dl)):=fun z=>z.elim dm fun z=>nD z.2;have nwD:∀ b,V.ref Dl=.ref b->H1 b=none:=fun b e=>by cases e;exact hDl
   unfold eR at p;by_cases hfl:D.bO (full.map R.d)=true
   .rw[da hfl]at p;exact p _ _ H2 XM RM ⟨Dl,acc,rfl,hD2,nDl,hDl,dow,IsAll.flat hfl isA⟩
   .rw[fR hfl]at p;by_cases hal:(s.al++caps.filter (cj env)).isEmpty=true
    .rw[da hal]at p;refine p _ _ H2 XM RM ⟨Dl,acc,rfl,hD2,nDl,hDl,dow,isA.weak fun a z=>⟨?_,z.2⟩⟩;rcases hMo a z.1 with(w|⟨j,hj,w⟩)|w
     .exact .inl w
     .exfalso;have he:s.al++caps.filter (cj env)=[]:=by simpa using hal
      rcases xW.mp hj with hj|hj
      .have:j∈s.al++caps.filter (cj env):=xy _ hj;rw[he]at this;simp at this
      .have:j∈s.al++caps.filter (cj env):=bX _ (List.mem_filter.mpr ⟨hj,rep1.ow j a w⟩);rw[he]at this;simp at this
     .exact .inr ⟨⟨w,(fl2 a z.1 (rep1.same.free w)).elim id fun q=>(rep1.zz a q.1 w).elim⟩,z.1⟩
    .rw[fR hal]at p;refine p _ (fun a=>(M1 a\/(nl H1 H2 a/\M' a))\/a=Dl) H2 ⟨fun _ z=>.inl (.inl z),sm,fun a z=>z.elim (XM.n a) fun e=>.inr (e▸hDl)⟩ (RM.more hD2 d0 dow) ⟨Dl,acc,rfl,.inl ⟨hD2,.inl ⟨.inr rfl,fun _=>d0⟩⟩,isA.weak fun a z=>?_⟩;rcases hMo a z.1 with(w|⟨j,hj,w⟩)|w
     .exact .inl ⟨.inl (.inl w),z.2⟩
     .refine .inr ⟨j,?_,w⟩;rcases xW.mp hj with hj|hj
      .exact xy _ hj
      .exact bX _ (List.mem_filter.mpr ⟨hj,rep1.ow j a w⟩)
     .exact .inl ⟨.inl (.inr ⟨⟨w,(fl2 a z.1 (rep1.same.free w)).elim id fun q=>(rep1.zz a q.1 w).elim⟩,z.1⟩),z.2⟩
theorem io (si:t3 X.mg E wi src)(hix:∀ j∈ix,j<tN.length)(hg:∀ cl C s3 H3 fp,ti (aM X scope (tN++capN) cl C s3 H3 fp) ix tg asg)(ht:∀ cl C s3 H3 fp,mz (aM X scope (tN++capN) cl C s3 H3 fp) E0 ifs ft)(he:∀ cl C s3 H3 fp,PD (aM X scope (tN++capN) cl C s3 H3 fp) E0 elt fe) :
 Snd X.mg E (im X scope tg tN capN caps elt ifs wi) (en tN.length caps src asg ft fe):=by
 intro g M ρ env σ H Q rep p;refine si g M ρ env σ H _ rep ?_;unfold en at p;cases q:src env with
 |stuck=>rw[q]at p;exact p
 |exc c=>rw[q]at p;exact p
 |ok s=>
  rw[q]at p;simp only[Res.cF]at p;intro J M1 H1 e1 rep1 wk Dl hDl cl C s3 fp;by_cases hlim:s.xs.length<=lim
  .rw[da hlim]at p;cases qc:cv (fun d=>asg d s.fr (dg env tN.length caps)) ft fe s.xs with
   |stuck=>rw[qc]at p;exact p.elim
   |exc c=>rw[qc]at p;exact p.elim
   |ok full=>rw[qc]at p;have p:PostE X.mg E g M1 ρ env σ H1 Q (.ok (eR (full.map R.d) (aW full) (s.al++caps.filter (cj env)))):=PostE.ext e1 p;exact lf hix hg ht he rep1 wk hlim qc p Dl hDl cl C s3 fp
  .rw[fR hlim]at p;exact p.elim
theorem o6 (hc:X.calm=true)(S:bE X scope tN capN caps)(hi:t4 X E tg iter src)(hix:∀ j∈ix,j<tN.length)(hg:∀ cl C s3 H3 fp,ti (aM X scope (tN++capN) cl C s3 H3 fp) ix tg asg)(ht:∀ cl C s3 H3 fp,mz (aM X scope (tN++capN) cl C s3 H3 fp) E0 ifs ft)(he:∀ cl C s3 H3 fp,PD (aM X scope (tN++capN) cl C s3 H3 fp) E0 elt fe)
 (hs:autoParam (∀ x,foldedSetIterable iter X.env x=pure x) yn._auto_1):PD X E (.ListComp elt [⟨tg,iter,ifs,0⟩] scope pos) (en tN.length caps src asg ft fe):=by
 obtain⟨wi,p1,s1⟩:=hi;exact⟨im X scope tg tN capN caps elt ifs wi,fun aa s σ H Q I h=>mx hc S I p1 h hs,io s1 hix hg ht he⟩
theorem ip (hc:X.calm=true)(S:bE X scope tN capN caps)(hN:X.N.Nodup)(hi':X.N[i]?=some y)(hy:X.env.scope.names.lookup y=some .local)
 (hi:t4 X E tg iter src) (hix:∀ j∈ix,j<tN.length) (hg:∀ cl C s3 H3 fp,ti (aM X scope (tN++capN) cl C s3 H3 fp) ix tg asg) (ht:∀ cl C s3 H3 fp,mz (aM X scope (tN++capN) cl C s3 H3 fp) E0 ifs ft) (he:∀ cl C s3 H3 fp,PD (aM X scope (tN++capN) cl C s3 H3 fp) E0 elt fe)
 (hsw:autoParam (swapsWith (.ListComp elt [⟨tg,iter,ifs,0⟩] scope pos) (some (.Name y py)) spos.line X.env=pure true) yp._auto_1) (hs:autoParam (∀ x,foldedSetIterable iter X.env x=pure x) yn._auto_1) :
 n4 X E (.Assign [.Name y py] (.ListComp elt [⟨tg,iter,ifs,0⟩] scope pos) spos) (cJ i (en tN.length caps src asg ft fe)):=by
 obtain⟨wi,p1,s1⟩:=hi;exact⟨h9 (im X scope tg tN capN caps elt ifs wi) (c8 i),fun aa s σ H D I h=>my hc S hN hi' hy hsw I p1 h hs,j_ (io s1 hix hg ht he)⟩
end
def dh (N:List Str)(ds:List D):En:=ds.map (fun d=>some (.val d false))++List.replicate (N.length-ds.length) none
def mB:Res Fl->Res R
 | .ok (.nx _)=>.ok (.val .cH true [])
 | .ok (.rt r)=>.ok r
 | .ok _=>.stuck
 | .exc c=>.exc c
 | .stuck=>.stuck
def eJ (N:List Str)(FB:En->Res Fl)(ds:List D):Res R:=mB (FB (dh N ds))
theorem lg (is:IsAll H Ma ds vs):Rep (tS H Ma) (fun a=>Ma a/\H a≠none) (fun _ _=>False) (dh N ds) (L2.ci N vs) H where
 same:=Same.refl H
 cL:=fun a z=>z.2
 hV:=fun a z=>.inr z.1
 fl:=fun a z h=>absurd h z.2
 slot:=fun i sl e=>by
  have hl:=is.length;unfold dh at e;by_cases hi:i<ds.length
  .rw[xj (by simpa using hi),xf]at e;obtain⟨v,ev,iv⟩:=is.get (i:=i) (d:=ds[i]) (by simp[hi]);have e1:ds[i]?=some ds[i]:=by simp[hi]
   rw[e1]at e;cases e;refine⟨v,?_,Is.mono (fun _ _ q _=>q) (fun a o q z=>⟨⟨z,by rw[q];simp⟩,fun z=>by cases z⟩) iv⟩;unfold L2.ci;rw[xj (by simp;lia),xf,ev];rfl
  .rw[fQ (by simpa using hi),xJ]at e;split at e<;>cases e
 bg:=fun _ _ z=>z.elim
 apart:=fun _ _ _ z=>z.elim
 ow:=fun _ _ z=>z.elim
 len:=by have hl:=is.length;unfold dh L2.ci;simp[hl]
 zz:=fun _ z=>z.elim
section
theorem o7:SlR X (fun x lo hi H Q=>∃ a xs,x=.ref a/\SqT X.K H a xs/\(HT.sIx xs.length 0 lo=0/\HT.sIx xs.length xs.length hi=xs.length)/\Q x H):=by
 intro aa s σ H x v vl vu lo hi sl Q I rx hs pl pu h;obtain⟨a,xs,rfl,hx,hw,q⟩:=h;cases rx;obtain⟨its,r,ht,hz⟩:=I.tuple hx;have bI:its.toArray.size=xs.length:=by rw[bb];exact r.length.symm
 refine⟨"tuple",_,eF.lookup,ht.typeIs,?_⟩;obtain⟨os,hos,hcs,hds⟩:=id hs;have hTs:s.TypeIs (.ref sl) "slice":=⟨os,hos,hcs⟩;unfold getItem
 try with_reducible refine xo ?_
 first|refine ae (bp ?_)|skip
 refine ae (wpAny_sequenceKey ht.typeIs (by decide) ?_);refine ae (xH (name:=Str.ofString "__getitem__") ht.typeIs eF
  (wpAny_call_entry eF ht.typeIs entry_tuple_getitem ?_ (args_tuple_getitem _ _)))
 show wpAny _ _ (Builtin.Tuple.tupleItemsOf (.ref a) >>= _) _ _ s;refine ae (tupleItemsOf_ ht ?_);refine ae (wpAny_typeOf hTs ?_);rw[da (by decide)];refine ae (HT.sliceApplied_gen hs pl pu ?_);have hyes:((((HT.sIx its.toArray.size 0 lo:Nat):Int)==0&&(1:Int)==1&&(HT.sIx its.toArray.size its.toArray.size hi-HT.sIx its.toArray.size 0 lo)==its.toArray.size)=true):=by rw[bI,hw.1,hw.2];simp
 show wpAny _ _ (if (((HT.sIx its.toArray.size 0 lo:Nat):Int)==0&&(1:Int)==1&&(HT.sIx its.toArray.size its.toArray.size hi-HT.sIx its.toArray.size 0 lo)==its.toArray.size)=true then _ else _) _ _ s;rw[da hyes];have fin:EP X aa σ Q (.ref a) s:=⟨.ref a,H,I,rfl,q⟩;refine ae (m:=Builtin.Tuple.tupleIsExact (.ref a)) ?_;unfold Builtin.Tuple.tupleIsExact;refine ae (wpAny_typeOf ht.typeIs ?_);refine bp ?_;rw[da (by decide)];exact ae (wpAny_rule (bp ⟨_,rfl,bp fin⟩))
end
section
def cK {α:Type}(xs:List α)(lo hi:Option Int):List α:=(xs.drop (HT.sIx xs.length 0 lo)).take (HT.sIx xs.length xs.length hi-HT.sIx xs.length 0 lo)
theorem IsAll.cut (h:IsAll H m ds vs)(lo hi:Option Int):IsAll H m (cK ds lo hi) (ia vs lo hi):=by unfold cK ia;rw[h.length];exact(h.drop _).take _
noncomputable def qf (mg:Str->Option yh)(E:XK)(g:Gd)(M:Addr->Prop)(ρ:Pr)(env:En)(σ:St)(H:Hp)(Q:Option Int->Hp->Prop):Res (Option Int)->Prop
 | .stuck=>False
 | .exc c=>oG mg E g c
 | .ok o=>∀ M' H',Ext M H M' H'->Rep g M' ρ env σ H'->Q o H'
def vd (X:Cx)(E:XK)(e:Option Expr)(f:En->Res (Option Int)):Prop:=∃ t,PO X e t/\∀ g M ρ env σ H Q,Rep g M ρ env σ H->qf X.mg E g M ρ env σ H Q (f env)->t σ H Q
noncomputable def kb:En->Res (Option Int):=fun _=>.ok none
def kd (f:En->Res R):En->Res (Option Int):=fun env=>(f env).bind fun r=>match r.d with
 | .int i=>.ok (some i)
 |_=>.stuck
theorem iq:vd X E none kb:=⟨_,ou,fun g M ρ env σ H Q rep p=>p M H (Ext.refl _ _) rep⟩
theorem ir (h:PD X E e f):vd X E (some e) (kd f):=by
 obtain⟨t,p1,s1⟩:=h;refine⟨_,ov p1,fun g M ρ env σ H Q rep p=>s1.one rep (P:=fun M H r=>qf X.mg E g M ρ env σ H Q r) p (fun _ _ z=>z) (fun _ _ _ z=>z) (fun M H M' H' r e p=>?_) fun r v M1 H1 e1 rep1 is q=>?_⟩
 .cases r with
  |stuck=>exact p
  |exc c=>exact p
  |ok o=>exact fun M2 H2 e2=>p M2 H2 (e.trans e2)
 .cases z:r.d with
  |int i=>rw[z]at is;simp only[z]at q;cases is;exact⟨i,rfl,q M1 H1 (Ext.refl _ _) rep1⟩
  |_=>simp only[z]at q;exact q.elim
def g4 (r:R)(lo hi:Option Int):Res R:=match r.d with
 | .lst xs=>.ok (eR (cK xs lo hi) r.fr r.al)
 | .tup xs=>.ok (eh (.tup (cK xs lo hi)) r.fr r.al)
 |_=>.stuck
def g5 (fa:En->Res R)(fl fh:En->Res (Option Int)):En->Res R:=fun env=>(fa env).bind fun r=>(fl env).bind fun lo=>(fh env).bind fun hi=>g4 r lo hi
theorem iu {lo hi:Option Expr}{fa:En->Res R}{fl fh:En->Res (Option Int)}{p2 pos:Pos}(ha:PD X E e fa)(hl:vd X E lo fl)(hh:vd X E hi fh):PD X E (.Subscript e (.Slice lo hi none p2) pos) (g5 fa fl fh):=by
 obtain⟨ta,p1,s1⟩:=ha;obtain⟨tl,p2,s2⟩:=hl;obtain⟨th,p3,s3⟩:=hh;refine⟨_,lR (sl_list.or (sl_tup.or o7)) p1 p2 p3,fun g M ρ env σ H Q rep p=>s1.fZ rep p fun r v M1 H1 e1 rep1 is q=>?_⟩;refine s2 g M1 ρ env σ H1 _ rep1 ?_;cases z1:fl env with
 |stuck=>rw[z1]at q;exact q
 |exc c=>rw[z1]at q;exact q
 |ok lo'=>
  rw[z1]at q;intro M2 H2 e2 rep2;have q2:PostE X.mg E g M2 ρ env σ H2 Q ((fh env).bind fun hi=>g4 r lo' hi):=PostE.ext e2 q;refine s3 g M2 ρ env σ H2 _ rep2 ?_;cases z2:fh env with
  |stuck=>rw[z2]at q2;exact q2
  |exc c=>rw[z2]at q2;exact q2
  |ok hi'=>
   rw[z2]at q2;intro M3 H3 e3 rep3;have q3:PostE X.mg E g M3 ρ env σ H3 Q (g4 r lo' hi'):=PostE.ext e3 q2;have is3:=(is.ext e2).ext e3;unfold g4 at q3;cases z:r.d with
   |lst xs=>rw[z]at q3 is3;obtain⟨a,vs,rfl,h1,h2⟩:=is3.rd;exact .inl ⟨a,vs,rfl,.inl h1,fun p hp=>q3.lst rep3 hp (h2.cut lo' hi')⟩
   |tup xs=>
    rw[z]at q3 is3;have is4:=is3;obtain⟨a,vs,rfl,h1,h2⟩:=is3;by_cases hw:HT.sIx vs.length 0 lo'=0/\HT.sIx vs.length vs.length hi'=vs.length
    .have ec:cK xs lo' hi'=xs:=by unfold cK;rw[<- h2.length,hw.1,hw.2,h2.length];simp
     dsimp only at q3;rw[ec]at q3;exact .inr (.inr ⟨a,vs,rfl,SqT.of h1,hw,q3.val rep3 is4⟩)
    .exact .inr (.inl ⟨a,vs,rfl,SqT.of h1,hw,fun p hp=>q3.tup rep3 hp (h2.cut lo' hi')⟩)
   |_=>rw[z]at q3;exact q3.elim
end
noncomputable def wx (osc:Scope)(N:List Str)(scope:Scope)(tN capN:List Str)(caps:List Nat):Bool:=
 (scope.kind==.function)&&scope.names.all (fun y=>y.2 != .cell)&&scope.names.all (fun y=>y.2 != .local || scope.names.lookup y.1==some .local)&&tN.all (fun x=>scope.names.lookup x==some .local) &&
 scope.names.all (fun y=>y.2 != .free || (osc.names.lookup y.1==some .cell || osc.names.lookup y.1==some .free))&&(capN.zip caps).all (fun p=>N[p.2]?==some p.1)&&(caps.length==capN.length) &&
 capN.all (fun y=>osc.names.lookup y==some .cell || osc.names.lookup y==some .free)&&capN.all (fun y=>scope.names.lookup y==some .free)&&decide (tN++capN).Nodup
theorem bE.of (h1:X.env.scope=osc)(h2:X.N=N)(h3:wx osc N scope tN capN caps=true):bE X scope tN capN caps:=by
 unfold wx at h3;simp only[db,yb,xZ,yd,bne_iff_ne,xO,ne_eq]at h3;obtain⟨⟨⟨⟨⟨⟨⟨⟨⟨a1,a2⟩,a3⟩,a4⟩,a5⟩,a6⟩,a7⟩,a8⟩,a9⟩,a10⟩:=h3;subst h1 h2;refine⟨a1,a2,fun y hy hl=>(a3 y hy).resolve_left fun z=>z hl,a4,fun y hy hf=>(a5 y hy).resolve_left fun z=>z hf,⟨fun k y e=>?_,a8,a9,a7⟩,a10⟩;have hk:k<capN.length:=(b0.mp e).1;have hk2:k<caps.length:=by lia
 refine⟨caps[k],by simp[hk2],?_⟩;have hm:(y,caps[k])∈capN.zip caps:=by
  have:(capN.zip caps)[k]?=some (y,caps[k]):=by rw[List.getElem?_zip_eq_some];exact⟨e,by simp[hk2]⟩
  exact xA this
 exact a6 _ hm
structure Fn (K:yf) (mg:Str->Option yh) (x:Str) (st:Stmt) (ps:List Str) (f:Addr) (fd:FuncData):Prop where
 fu:sW K x x st f fd
 bi:Binds K fd ps []
 gl:mg x=some (.ref f)
def ve (F:List D->Res R):Sp:=fun vs H Q _=>vs.length=1/\∃ ds Ma r,IsAll H Ma ds vs/\F ds=.ok r/\∀ v H',Same H H'->RetOk (tS H Ma) H' v r->Q v H'
theorem fy:∀ ns:List Int,IsAll H m (ns.map D.int) (ns.map V.int)
 | []=>rfl
 |n::r=>⟨.int n,r.map V.int,rfl,rfl,fy r⟩
theorem rz (hF:∀ ns:List Int,ns.length<=63->∃ f al,F [.lst (ns.map .int)]=.ok (.val (.bl true) f al))(H:Hp)(a:Addr)(ns:List Int)(hl:ns.length<=63)(hS:∃ o,H a=some (.bF o (.lst (ns.map V.int)))) :
 ve F [.ref a] H (fun v _=>v=.bl true) fun _ _ _=>False:=by
 obtain⟨f,al,e⟩:=hF ns hl;obtain⟨o,hS⟩:=hS;exact⟨rfl,[.lst (ns.map .int)],fun b=>b=a,_,⟨_,[],rfl,⟨a,ns.map V.int,rfl,.inr ⟨o,hS,rfl⟩,fy ns⟩,rfl⟩,e,fun v H' _ h=>h⟩
section
variable {P:yg}{w:World}{K:yf}{mg:Str->Option yh}{base:Heap}
theorem bC.top (h:bC P w K mg base CX k f fd ps (jc mg 1 F)):bC P w K mg base CX k f fd ps (ve F):=h.imp fun vs H Q E ⟨hl,ds,Ma,r,is,e,q⟩=>⟨hl,ds,Ma,is,by rw[e];exact q⟩
end
section
def fA (c:Str)(fs:En->Res (List R)):En->Res Fl:=fun env=>(fs env).bind fun rs=>if rs.length<=lim then .exc c else .stuck
end
section
def mC (fa:En->Res R):En->Res R:=fun env=>(fa env).bind fun ra=>match ra.d with
 | .int i=>.ok (.val (.int (-i)) true [])
 |_=>.stuck
theorem mD (ha:PD X E a fa):PD X E (.UnaryOp .USub a pos) (mC fa):=by
 obtain⟨ta,pa,sa⟩:=ha;refine⟨_,tx qQ pa,fun g M ρ env σ H Q rep p=>sa.fZ rep p fun r v M' H' e rep' i p'=>?_⟩;cases q:r.d with
 |int b=>rw[q]at i;simp only[q]at p';cases i;exact⟨b,rfl,p' _ M' H' (Ext.refl _ _) rep' rfl⟩
 |_=>simp only[q]at p';exact p'.elim
end
end L3
namespace L2
open PySem PySem.Spec PySem.Calls PyProof.Rows
section
variable {X:Cx}{aa:List (Addr×Obj)}{σ:St}{H:Hp}{s:ye}{o:Obj}
theorem o8 (I:Inv X aa σ H s)(hN:X.N.Nodup)(hi:X.N[i]?=some n)(hk:X.env.scope.names.lookup n=some .local)
 (h:∀ s',Inv X aa (σ.set i none) H s'->Q () s'):wpAny M A (do bindName X.env n .none;unbindBehindTheSuite X.env n pos) Q E s:=by
 obtain⟨m,hn,hl⟩:=id I.loc;have hcls:(X.env.scope.kind==.class || (X.env.scope.kind==.module&&X.env.locals != X.env.globals))=false:=by rw[I.ok.kind];rfl
 have hiσ:i<σ.length:=by rw[I.len];exact(b0.mp hi).1
 have nB:=I.nB;have tracked:∀{a:Addr}{h':Heap},(∃ o,s.heap.get? a=some o/\H a=none)->Heap.SameBut a s.heap h'->HOk X.prog X.w H h':=fun{a h'} ha hs b ob e=>by
  obtain⟨_,_,hfree⟩:=ha;refine(I.bc b ob e).stay (fun c w' hc q=>(hs.2 c ?_).trans q) (fun _ q=>q) fun _ _ q=>q;rintro rfl;rcases hc with rfl|hc
  .rw[hfree]at e;cases e
  .rw[hfree]at hc;cases hc
 refine wpAny_nameGoes_keeps hk hn hcls fun h' v hn' hs=>?_;obtain⟨oL,_,_,hoL,_⟩:=id hn;refine h _ ⟨I.ok,I.os,I.bare,⟨fun b o e n hb hx=>?_,fun b o e n hb hx=>?_,I.base.free,fun b o e hx=>?_,I.base.cE,I.base.c7,I.base.dH⟩,⟨_,hn',fun j y v' e1 e2 e3=>?_⟩,fun y c e=>?_,I.free,I.bS,fun p hp=>?_,tracked ⟨oL,hoL,I.free⟩ hs,by simpa using I.len⟩
 .exact(hs.2 b (d8 (bK (bo e) I.ok.above))).trans (I.base.keep b o e n hb hx)
 .obtain⟨sl,e1⟩:=I.base.slot b o e n hb hx;exact⟨sl,(hs.2 b (d8 (bK (bo e) I.ok.above))).trans e1⟩
 .obtain⟨o',e1⟩:=I.base.there b o e hx;exact⟨o',(hs.2 b (d8 (bK (bo e) I.ok.above))).trans e1⟩
 .by_cases hj:j=i
  .subst hj;rw[b4 hiσ]at e2;cases e2
  .rw[cG (xg hj)]at e2;obtain⟨u',r',q⟩:=hl j y v' e1 e2 e3;refine⟨u',r',?_⟩;rcases q with⟨k,e⟩|⟨k,c,e,z⟩
   .refine .inl ⟨k,?_⟩;have:y≠n:=fun e=>hj (eV hN e1 (e▸hi));simp[this,e]
   .exact .inr ⟨k,c,e,z.sameBut hs (nB y c e)⟩
 .obtain⟨w',z⟩:=I.cell y c e;exact⟨w',z.sameBut hs (nB y c e)⟩
 .obtain⟨e,n,ne,nf,d⟩:=I.pin p hp;exact⟨(hs.2 p.1 ne).trans e,n,ne,nf,d⟩
end
end L2
namespace L3
open PySem PySem.Spec PyProof.Rows L2
theorem Rep.forget (r:Rep g M ρ env σ H)(h:env[i]?=some none):Rep g M ρ env (σ.set i v) H where
 same:=r.same
 cL:=r.cL
 hV:=r.hV
 fl:=r.fl
 slot:=fun j sl e=>by obtain⟨u,e1,k⟩:=r.slot j sl e;refine⟨u,?_,k⟩;rw[cG (fun z=>by subst z;rw[h]at e;cases e)];exact e1
 bg:=r.bg
 apart:=r.apart
 ow:=r.ow
 len:=by rw[xu];exact r.len
 zz:=r.zz
noncomputable abbrev vO:=Int×Int×Int
noncomputable def dd (l:List Int)(x:Int):List Int:=if x∈l then l else l++[x]
def t7 (xs:List Int):List Int:=xs.foldl dd []
def g1 (ts:List vO):List Int:=t7 (ts.map (·.1))
def g2 (ts:List vO)(x:Int):List Int:=t7 ((ts.filter fun t=>decide (t.1=x)).map (·.2.1))
end L3
namespace L2
open PySem PySem.Spec PyProof.Rows
end L2
namespace L3
open PySem PySem.Spec PyProof.Rows L2
section
def ke (a b:Str):Prop:=0<b.length/\a.length<=100000/\(Txt.split a b).length<=100000/\(Builtin.Str.partsBetween a (Builtin.Str.occurrences a b 0 a.length (a.length+1)) b.length).length<=100000
instance (a b:Str):Decidable (ke a b):=by unfold ke;infer_instance
end
noncomputable abbrev IP:=Int×Int
noncomputable def dp (l:List IP)(x:IP):List IP:=if x∈l then l else l++[x]
def h1 (ts:List vO):List IP:=(ts.map fun t=>(t.1,t.2.1)).foldl dp []
end L3
namespace L2
open PySem PySem.Spec PySem.Calls PyProof.Rows
end L2
namespace L3
open PySem PySem.Spec PyProof.Rows L2
theorem cr {K KK:yf}{mg:Str->Option yh}{x:Str}{st:Stmt}{ps:List Str}{f:Addr}{oc:yh}{od an:Option Addr}{osl:Array (Option yh)}{kV doc pm cdv ct:yh}(U:dk K KK)
 (l:K.lookup f=some ⟨oc,od,.func (PySem.W.fnOf x x (aU st) (aN st) (ar st) .none kV doc pm an cdv ct),osl⟩) (c:PySem.W.codeIn K cdv x=true) (g:mg x=some (.ref f))
 (h:∀(kV doc pm:yh)(an:Option Addr)(cdv ct:yh)(us:List yh),us.length=ps.length->bindArgs (PySem.W.fnOf x x (aU st) (aN st) (ar st) .none kV doc pm an cdv ct) ⟨us,[]⟩=pure (ps.zip us)) :
 Fn KK mg x st ps f (PySem.W.fnOf x x (aU st) (aN st) (ar st) .none kV doc pm an cdv ct):=
 have F:sW KK x x st f _:=qY (U.look _ _ l (fun _ _ z=>nomatch z)) (U.code c) (U.keep l)
 ⟨F,F.binds h,g⟩
section
theorem bN {st:Stmt}(G:bC X.prog X.w X.K X.mg X.base CX k f fd ps (jc X.mg ps.length F))(hr:bJ k X.A)(hg:Gl X x)(h:Fn X.K X.mg x st ps f fd)(hx:cn CX X E)
 (ha:lC X E (e::es) fs) (hl:∀ env rs,fs env=.ok rs->rs.length=ps.length) (hdb:autoParam (dB x) yj._auto_1) (he:autoParam (sE X e es) yp._auto_1) (hpl:autoParam (bT X pos es) yp._auto_1) :
 PD X E (.Call (.Name x p) (e::es) [] pos) (b6 F fs):=oP G hr hg h.gl h.fu.kp h.bi hx ha hl hdb he hpl
end
end L3
namespace L2
open PySem PySem.Spec PySem.Calls PyProof.Rows
abbrev xa:=St->Hp->(Hp->Prop)->XK->Prop
structure bP (K:yf) (C:Addr):Prop where
 ga:PySem.W.findIn K (.ref C) "__getattribute__"=some (some (.builtin "BaseException.__getattribute__"))
 gt:PySem.W.findIn K (.ref C) "__getattr__"=some none
 cl:PySem.W.findIn K (.ref C) "__class__"=some (some (.builtin "object.__class__"))
 sp:PySem.W.specialIn K (.builtin "object.__class__") "__get__"=some (some (.builtin "getset_descriptor.__get__"))
 tk:PySem.W.takesIn K (.builtin "object.__class__")=some true
 mo:PySem.W.mroIn K C (.type "object")=some true
 mb:PySem.W.mroIn K C (.type "BaseException")=some true
 is:(PySem.W.clsIn K C).isSome=true
def C2 (h:Heap)(e:Addr):Prop:=∃ o vs,h.get? e=some o/\o.data=.fields vs/\vs[2]?=some .none
section
variable {M:Model}{A:yi}{E:yh->ye->Prop}{s:ye}{base:Heap}{env:Env}{outer l:List Env}{L e:Addr}{cls a0:yh}{Q:Unit->ye->Prop}
theorem g7 {fl:yh}(k1:base.StaysIn s.heap)(k2:base.get? e=none)(k3:s.heap.FunFrames base l)(k4:s.heap.TracedAtW base e cls a0 fl)(c:C2 s.heap e)
 (hQ:∀ h',Heap.FlyingW base l e cls a0 h'->C2 h' e->s.heap.UpToSlots h'->Q () { s with heap:=h' }):wpAny M A (setFlight (.ref e) none) Q E s:=by
 obtain⟨oe,vs,T,oT,ts,he,hc,hd,h1,hn,hne,hT,hdT,h3⟩:=k4;have sz:3<ts.size:=(xw.mp h3).1;obtain⟨o2,v2,e2,d2,c2⟩:=c;obtain rfl:oe=o2:=jP (he.symm.trans e2);have far:∀(g:Obj->Obj) b,b≠T->(s.heap.update T g).get? b=s.heap.get? b:=fun g b hb=>kM _ _ (xg hb);have ap:∀ b o,s.heap.get? b=some o->(∀ ws,o.data≠.fields ws)->b≠T:=fun b o hb hx z=>by subst z;cases hT.symm.trans hb;exact hx _ hdT
 unfold setFlight;refine ae (xi he hd h1 ?_);rw[da (by simp)];refine x_ hT hdT sz (hQ _ ⟨fun b o hb=>(far _ b fun z=>by rw[z,hn]at hb;cases hb).trans (k1 b o hb),k2,k3.of_keeps fun b o hb hx=>⟨o,(far _ b (ap b o hb hx)).trans hb,rfl⟩,?_⟩ ⟨oe,v2,(far _ e (xg hne)).trans he,d2,c2⟩ fun b o hb hx=>⟨o.slots,(far _ b (ap b o hb hx)).trans hb⟩);exact⟨oe,vs,T,_,_,(far _ e (xg hne)).trans he,hc,hd,h1,hn,hne,xS _ hT (xT (xL hdT _)),xL hdT _,by simp[sz]⟩
theorem t8 {oe:Obj}{vs:Array yh}{head:yh}{hadNext:Bool}(hfr:A.frames=some (env::outer))(hl:s.heap.FunFrames base (env::outer))(hf:env.frame=some L)(he:s.heap.get? e=some oe)(k1:base.StaysIn s.heap)(k2:base.get? e=none)
 (hd:oe.data=.fields vs) (h0:vs[0]?=some a0) (h2:vs[2]?=some .none)
 (hQ:∀ h',Heap.HeldW base (env::outer) e oe.cls a0 L h'->C2 h' e->s.heap.UpToSlots h'->Q () { s with heap:=h' }) :
 wpAny M A (do let a <- frameOf env;let pl <- entryPlaceOf L hadNext;let b <- EntryCells.newEntry head a .none (rawInt L) .none pl;setField (.ref e) 1 b) Q E s:=by
 have sz:2<vs.size:=(xw.mp h2).1;have out:e∉(env::outer).filterMap (·.frame):=fun hm=>by obtain⟨_,o,ho,hx⟩:=hl.mem hm;cases he.symm.trans ho;exact hx vs hd
 refine ae (wpAny_frameOf_fun hfr hl hf fun h1 s1=>ae (wpAny_entryPlaceOf fun pl hpl=>?_));unfold EntryCells.newEntry newFields;refine ae (gH ?_ (hpl.sizeOk5 _ _ _ _ _));have e1:h1.get? e=some oe:=(s1.2.1 e out).trans he;have b1:base.StaysIn h1:=fun b o hb=>(s1.2.1 b fun hm=>by rw[(hl.mem hm).1]at hb;cases hb).trans (k1 b o hb);generalize hO:({ cls:=.type "traceback",dict:=none,data:=.fields ([head,.ref L,.none,rawInt L,.none]++(if pl.isEmpty then List.replicate 6 Value.none else pl)).toArray }:Obj)=O;have e2:=ba (h:=h1) O e1;refine x_ e2 hd (by lia) (hQ _ ?_ ?_ ?_)
 all_goals
  have ne:h1.objs.size≠e:=Nat.ne_of_gt (bo e1);have d3:=xL hd (·.setIfInBounds 1 (Value.ref h1.objs.size));have e3:=xS (Obj.mapFields (·.setIfInBounds 1 (Value.ref h1.objs.size))) e2 (xT d3);have T3:=(kM (h1.push O) (Obj.mapFields (·.setIfInBounds 1 (Value.ref h1.objs.size))) (xg ne)).trans (cI h1 (by rw[<- hO];rfl));have kp:∀ b o,b≠e->h1.get? b=some o->((h1.push O).update e (Obj.mapFields (·.setIfInBounds 1 (Value.ref h1.objs.size)))).get? b=some o:=fun b o hb q=>by rw[kM _ _ (xg hb)];exact ba _ q
  have ap:∀ b o,s.heap.get? b=some o->(∀ ws,o.data≠.fields ws)->b≠e:=fun b o hb hx z=>by subst z;cases he.symm.trans hb;exact hx _ hd
 .refine⟨fun b o hb=>kp b o (fun z=>by rw[z,k2]at hb;cases hb) (b1 b o hb),k2,hl.of_keeps fun b o hb hx=>?_,?_⟩
  .obtain⟨sl,q⟩:=s1.2.2 b o hb;exact⟨_,kp b _ (ap b o hb hx) q,rfl⟩
  .exact⟨_,_,h1.objs.size,_,_,e3,⟨Obj.cls_mapFields _ _,by rw[xP (by decide)];exact h0⟩,d3,by simp[show 1<vs.size by lia],b1.fresh,ne,T3,by rw[<- hO],by first|(simp;done)|(rcases hpl with rfl|⟨_,_,_,_,_,_,_,rfl⟩<;>simp)⟩
 .exact⟨_,_,e3,d3,by rw[xP (by decide)];exact h2⟩
 .intro b o hb hx;obtain⟨sl,q⟩:=s1.2.2 b o hb;exact⟨sl,kp b _ (ap b o hb hx) q⟩
theorem mE (hfr:A.frames=some (env::outer))(hf:env.frame=some L)(fly:Heap.FlyingW base (env::outer) e cls a0 s.heap)(c:C2 s.heap e)
 (hQ:∀ h',Heap.HeldW base (env::outer) e cls a0 L h'->C2 h' e->s.heap.UpToSlots h'->Q () { s with heap:=h' }):wpAny M A (noteFrame (.ref e) env) Q E s:=by
 obtain⟨k1,k2,k3,oe,vs,T,oT,ts,he,⟨hc,h0⟩,hd,h1,hn,hne,hT,hdT,h3⟩:=fly;subst hc;obtain⟨o2,v2,e2,d2,c2⟩:=c;obtain rfl:oe=o2:=jP (he.symm.trans e2);obtain rfl:vs=v2:=by injection hd.symm.trans d2
 unfold noteFrame;simp only[hf];refine ae (xi he hd h1 ?_);rw[da (by simp)];refine ae (xi hT hdT h3 ?_);rw[fR (by simp[rawInt])];refine ae (x_ hT hdT (xw.mp h3).1 ?_);have far:∀(g:Obj->Obj) b,b≠T->(s.heap.update T g).get? b=s.heap.get? b:=fun g b hb=>kM _ _ (xg hb);have ap:∀ b o,s.heap.get? b=some o->(∀ ws,o.data≠.fields ws)->b≠T:=fun b o hb hx z=>by subst z;cases hT.symm.trans hb;exact hx _ hdT
 refine t8 hfr (k3.of_keeps fun b o hb hx=>⟨o,(far _ b (ap b o hb hx)).trans hb,rfl⟩) hf ((far _ e (xg hne)).trans he) (fun b o hb=>(far _ b fun z=>by rw[z,hn]at hb;cases hb).trans (k1 b o hb)) k2 hd h0 c2
  fun h' x1 x2 x3=>hQ h' x1 x2 fun b o hb hx=>x3 b o ((far _ b (ap b o hb hx)).trans hb) hx
theorem o9 (hfr:A.frames=some (env::outer))(hf:env.frame=some L)(fly:Heap.FlyingW base (env::outer) e cls a0 s.heap)(c:C2 s.heap e)
 (hQ:∀ h',Heap.FlyingW base outer e cls a0 h'->C2 h' e->s.heap.UpToSlots h'->Q () { s with heap:=h' }):wpAny M A (leaving env (.ref e)) Q E s:=by
 unfold leaving;refine ae (mE hfr hf fly c fun h' x1 x2 x3=>?_);obtain⟨y1,y2,y3,y4⟩:=x1;refine g7 (s:={ s with heap:=h' }) y1 y2 y3 y4 x2 fun h'' z1 z2 z3=>hQ h'' ?_ z2 (x3.trans z3);obtain⟨w1,w2,⟨_,_,w3⟩,w4⟩:=z1;exact⟨w1,w2,w3,w4⟩
theorem t9 {h:Heap}{args:List yh}(hfr:A.frames=some (env::outer))(hf:env.frame=some L)(hkb:base.StaysIn h)(hl:h.FunFrames base (env::outer))(hx:Heap.MadeExcOf h s.heap e cls args)
 (hQ:∀ h' t,Heap.FlyingW base outer e cls (.ref t) h'->C2 h' e->s.heap.UpToSlots h'->Q () { s with heap:=h' }):wpAny M A (leaving env (.ref e)) Q E s:=by
 obtain⟨t,he,htn,ht⟩:=hx.there;have fresh:base.get? e=none:=by
  cases q:base.get? e with
  |none=>rfl
  |some o=>have:=hkb e o q;rw[hx.new]at this;cases this
 unfold leaving noteFrame;simp only[hf];refine ae (ae (xi he rfl (x:=.none) rfl ?_));rw[fR (by decide)];refine t8 (a0:=.ref t) hfr (hl.of_keeps fun b o hb _=>⟨o,hx.keeps b o hb,rfl⟩) hf he (fun b o hb=>hx.keeps b o (hkb b o hb)) fresh rfl rfl rfl fun h' x1 x2 x3=>?_;obtain⟨y1,y2,y3,y4⟩:=x1;refine g7 (s:={ s with heap:=h' }) y1 y2 y3 y4 x2 fun h'' z1 z2 z3=>hQ h'' t ?_ z2 (x3.trans z3);obtain⟨w1,w2,⟨_,_,w3⟩,w4⟩:=z1;exact⟨w1,w2,w3,w4⟩
end
end L2
namespace L2
open PySem PySem.Spec PyProof.Rows
def f6 (P:yg)(w:World):jb:=fun outer H s E e s'=>
 ∃(x C t:Addr)(B:Heap)(H':Hp),e=.ref x/\s'.os=s.os/\AllBare s'.gens/\Un (cM outer) [] H H' s.heap s'.heap/\HOk P w H' s'.heap/\
  Heap.FlyingW B outer x (.ref C) (.ref t) s'.heap/\(∀ b u,H' b=some u->∃ o,B.get? b=some o)/\(∀ b o,s.heap.get? b=some o->Qt H b->b∉cM outer->B.get? b=some o)/\
  (∀ b o,s.heap.get? b=some o->b∉cM outer->∃ o',B.get? b=some o')/\H' x=none/\E (.ref C) none H'/\C2 s'.heap x
section
variable {P:yg}{w:World}{K:yf}{mg:Str->Option yh}{base:Heap}{N:List Str}{qual:Str}{scope:Scope}{f:Addr}{cd:yh}{A:yi}{outer:List Env}{s₀:ye}{H₀:Hp}{E:XK}
abbrev er (P:yg)(w:World)(K:yf)(mg:Str->Option yh)(base:Heap)(N:List Str)(qual:Str)(scope:Scope)(f:Addr)(cd:yh)(A:yi)(outer:List Env)(s:ye)(H:Hp)(E:XK):Cx:=jm (f6 P w) P w K mg base N qual scope f cd A outer s H E
theorem et {aa:List (Addr×Obj)}{σ:St}{H:Hp}{s:ye}(I:Inv (er P w K mg base N qual scope f cd A outer s₀ H₀ E) aa σ H s){b:Addr}{o:Obj}(e:s₀.heap.get? b=some o)(hb:b∉cM outer) :
 b∉cM (er P w K mg base N qual scope f cd A outer s₀ H₀ E).stack:=fun z=>by
 rcases xh.mp (I.d7 b z) with q|q
 .exact absurd (bK (bo e) (nW I.ok.above (Nat.le_of_eq q.symm))) (xn _)
 .exact hb q
theorem rA {b:Addr}(hb:b∈cM outer):b∈cM (er P w K mg base N qual scope f cd A outer s₀ H₀ E).stack:=by show b∈cM (envOfC qual scope s₀.heap.objs.size f cd::outer);unfold cM;rw[xC];have:(envOfC qual scope s₀.heap.objs.size f cd).frame=some s₀.heap.objs.size:=rfl;rw[this];exact xk _ hb
theorem aO:cn (f6 P w) (er P w K mg base N qual scope f cd A outer s₀ H₀ E) E:=by
 intro aa σ H s e s' I h;obtain⟨x,C,t,B,H',rfl,os,bare,un,bc,fly,hW,unt,inB,hx,hE,hc2⟩:=h;show wpAny _ _ (leaving _ _) _ _ s';have nx:∀ b:Addr,b∉(er P w K mg base N qual scope f cd A outer s₀ H₀ E).ex:=fun b z=>absurd (show b∈([]:List Addr) from z) (by simp);refine o9 I.ok.frames rfl fly hc2 fun h' fly' cc up=>?_;have nf:∀ b,b∈cM outer->∀ o,s'.heap.get? b=some o->∀ vs,o.data≠.fields vs:=fun b hb o e=>by obtain⟨_,o',e',d⟩:=fly.2.2.1.mem (rA (P:=P) (w:=w) (K:=K) (mg:=mg) (base:=base) (N:=N) (H₀:=H₀) (E:=E) (A:=A) hb);rw[e]at e';cases e';exact d
 refine⟨x,C,t,B,H',rfl,os.trans I.os,bare,⟨fun b o e n hb _=>?_,fun b o e n hb _=>?_,fun b o e n _=>?_,fun b o e _=>?_,fun b xs q=>un.cE b xs (I.base.cE b xs q),fun b o u q=>un.c7 b o u (I.base.c7 b o u q),fun b ps q=>?_⟩,dQ bc hW fly.1 fly'.1,fly',hW,fun b o e n hb=>?_,fun b o e hb=>?_,hx,hE,cc⟩
 .exact fly'.1 b o (unt b o (I.base.keep b o e n hb (nx b)) (n.imp (fun n=>I.base.free b o e n (nx b)) fun⟨xs,q⟩=>⟨xs,I.base.cE b xs q⟩) (et I e hb))
 .obtain⟨sl,e1⟩:=I.base.slot b o e n hb (nx b);obtain⟨sl',e2⟩:=un.slot b _ e1 (I.base.free b o e n (nx b)) (rA hb) (by simp);obtain⟨sl'',e3⟩:=up b _ e2 (nf b hb _ e2);exact⟨sl'',e3⟩
 .obtain⟨o1,e1⟩:=I.base.there b o e (nx b);exact un.free b o1 e1 (I.base.free b o e n (nx b)) (by simp)
 .obtain⟨o1,e1⟩:=I.base.there b o e (nx b);by_cases hb:b∈cM outer
  .obtain⟨o2,e2⟩:=un.there b o1 e1 (by simp);obtain⟨sl,e3⟩:=up b _ e2 (nf b hb _ e2);exact⟨_,e3⟩
  .obtain⟨o',q⟩:=inB b o1 e1 (et I e hb);exact⟨o',fly'.1 b o' q⟩
 .obtain⟨m1,e1⟩:=I.base.dH b ps q;obtain⟨m2,e2⟩:=un.dH b _ e1;exact⟨m1++m2,by rw[e2,Array.append_assoc]⟩
 .exact unt b o (I.base.keep b o e n hb (nx b)) (n.imp (fun n=>I.base.free b o e n (nx b)) fun⟨xs,q⟩=>⟨xs,I.base.cE b xs q⟩) (et I e hb)
 .obtain⟨o1,e1⟩:=I.base.there b o e (nx b);exact inB b o1 e1 (et I e hb)
theorem o_ {aa:List (Addr×Obj)}{σ:St}{H:Hp}{s:ye}{h':Heap}{x C:Addr}{args:List yh}(I:Inv (er P w K mg base N qual scope f cd A outer s₀ H₀ E) aa σ H s)(hx:Heap.MadeExcOf s.heap h' x (.ref C) args)(hE:E (.ref C) none H) :
 (er P w K mg base N qual scope f cd A outer s₀ H₀ E).xe (.ref x) { s with heap:=h' }:=by
 show wpAny _ _ (leaving _ _) _ _ _;have nx:∀ b:Addr,b∉(er P w K mg base N qual scope f cd A outer s₀ H₀ E).ex:=fun b z=>absurd (show b∈([]:List Addr) from z) (by simp);have hin:∀ env∈(er P w K mg base N qual scope f cd A outer s₀ H₀ E).stack,∀ b,env.frame=some b->b∈cM (er P w K mg base N qual scope f cd A outer s₀ H₀ E).stack:=fun env he b hb=>x5.mpr ⟨env,he,hb⟩;have FF:=I.stack;refine t9 (base:=PySem.W.hideAll s.heap (cM (er P w K mg base N qual scope f cd A outer s₀ H₀ E).stack)) I.ok.frames rfl (fun b o q=>x0 _ q) (PySem.W.funFrames_hide FF hin) hx fun h'' t fly cc up=>?_;have inB:∀ b o,s.heap.get? b=some o->b∉cM (er P w K mg base N qual scope f cd A outer s₀ H₀ E).stack->(PySem.W.hideAll s.heap (cM (er P w K mg base N qual scope f cd A outer s₀ H₀ E).stack)).get? b=some o:=fun b o e hb=>PySem.W.hideAll_get _ e hb;have hW:∀ b u,H b=some u->∃ o,(PySem.W.hideAll s.heap (cM (er P w K mg base N qual scope f cd A outer s₀ H₀ E).stack)).get? b=some o:=fun b u e=>by obtain⟨o,ho⟩:=de (I.bc b u e);exact⟨o,inB b o ho fun z=>by rw[I.hU b z]at e;cases e⟩
 have st:(PySem.W.hideAll s.heap (cM (er P w K mg base N qual scope f cd A outer s₀ H₀ E).stack)).StaysIn s.heap:=fun b o q=>x0 _ q;have nf:∀ b,b∈cM outer->∀ o,s.heap.get? b=some o->∀ vs,o.data≠.fields vs:=fun b hb o e=>by obtain⟨_,o',e',d⟩:=FF.mem (rA (P:=P) (w:=w) (K:=K) (mg:=mg) (base:=base) (N:=N) (H₀:=H₀) (E:=E) (A:=A) hb);rw[e]at e';cases e';exact d
 have hxn:H x=none:=by
  cases q:H x with
  |none=>rfl
  |some u=>obtain⟨o,ho⟩:=de (I.bc x u q);rw[hx.new]at ho;cases ho
 refine⟨x,C,t,_,H,rfl,I.os,I.bare,⟨fun b o e n hb _=>?_,fun b o e n hb _=>?_,fun b o e n _=>I.base.free b o e n (nx b),fun b o e _=>?_,I.base.cE,I.base.c7,I.base.dH⟩,dQ I.bc hW st fly.1,fly,hW,fun b o e n hb=>?_,fun b o e hb=>?_,hxn,hE,cc⟩
 .exact fly.1 b o (inB b o (I.base.keep b o e n hb (nx b)) (et I e hb))
 .obtain⟨sl,e1⟩:=I.base.slot b o e n hb (nx b);obtain⟨sl',e2⟩:=up b _ (hx.keeps b _ e1) (nf b hb _ e1);exact⟨sl',e2⟩
 .obtain⟨o1,e1⟩:=I.base.there b o e (nx b);by_cases hb:b∈cM outer
  .obtain⟨sl,e2⟩:=up b _ (hx.keeps b _ e1) (nf b hb _ e1);exact⟨_,e2⟩
  .exact⟨o1,fly.1 b o1 (inB b o1 e1 (et I e hb))⟩
 .exact inB b o (I.base.keep b o e n hb (nx b)) (et I e hb)
 .obtain⟨o1,e1⟩:=I.base.there b o e (nx b);exact⟨o1,inB b o1 e1 (et I e hb)⟩
theorem vP:PassesOwn (model P w) (er P w K mg base N qual scope f cd A outer s₀ H₀ E).A (er P w K mg base N qual scope f cd A outer s₀ H₀ E).env (er P w K mg base N qual scope f cd A outer s₀ H₀ E).xe:=by
 show PassesOwn _ _ _ (fun e s'=>wpAny _ _ (leaving _ e) _ _ s')
 passes_own
end
end L2
namespace L3
open PySem PySem.Spec PyProof.Rows L2
section
variable {P:yg}{w:World}{K:yf}{mg:Str->Option yh}{base:Heap}
theorem dA {x qual:Str}{st:Stmt}{f:Addr}{fd:FuncData}{N ps:List Str}{k:Nat}{FB:En->Res Fl}(F:sW K x qual st f fd)(S:bf N ps (ar st))
 (body:∀(cdv:yh)(A:yi)(outer:List Env)(s:ye)(H:Hp)(E:XK),bJ k (A.deeper (envOfC qual (ar st) s.heap.objs.size f cdv))->ij (er P w K mg base N qual (ar st) f cdv A outer s H E) E (aN st) FB) :
 bC P w K mg base (f6 P w) (k+1) f fd ps (jc mg ps.length (eJ N FB)):=by
 obtain⟨oc,od,kV,doc,pm,an,cdv,ct,osl,rfl,lk,hcd⟩:=F.ex;refine tI lk hcd S (fun vs H Q E h=>h.1) fun A outer s H vs Q E hr hsp=>?_;obtain⟨hl,ds,Ma,is,post⟩:=hsp;obtain⟨t,p1,s1⟩:=body cdv A outer s H E hr;refine⟨t,p1,s1 (tS H Ma) _ _ (dh N ds) (L2.ci N vs) H _ (lg is) ?_⟩;unfold eJ at post;cases q:FB (dh N ds) with
 |stuck=>rw[q]at post;exact post
 |exc c=>rw[q]at post;exact post
 |ok r=>
  rw[q]at post;cases r with
  |nx env=>exact fun σ M' ρ' H' _ rep=>post .cH H' rep.same rfl
  |rt r=>exact fun v M' H' _ s ro _=>post v H' s (ro fun _ z=>z)
  |rm r env=>exact post.elim
  |bk env=>exact post.elim
  |ct env=>exact post.elim
theorem mF {X:Cx}:cn (f6 P w) X E0:=fun _ _ _ _ _ _ _ h=>by obtain⟨_,_,_,_,_,_,_,_,_,_,_,_,_,_,_,z,_⟩:=h;exact z.elim
end
theorem rB {P:yg}{w:World}{l:List Env}{H:Hp}{s s':ye}{e:yh}(h:f6 P w l H s (fun _ _ _=>False) e s'):False:=by obtain⟨_,_,_,_,_,_,_,_,_,_,_,_,_,_,_,z,_⟩:=h;exact z
section
variable {P:yg}{w:World}{K:yf}{mg:Str->Option yh}{base:Heap}{N:List Str}{qual:Str}{scope:Scope}{f:Addr}{cd:yh}{A:yi}{outer:List Env}{s₀:ye}{H₀:Hp}{E:XK}
theorem fB {c:Str}{C:Addr}{np cpos pos:Pos}{e₀:Expr}{aP:List Expr}{fs:En->Res (List R)}(hc:XC K mg c C)(hg:Gl (er P w K mg base N qual scope f cd A outer s₀ H₀ E) c)(ha:lC (er P w K mg base N qual scope f cd A outer s₀ H₀ E) E (e₀::aP) fs)
 (he:autoParam (starEach (e₀::aP) (er P w K mg base N qual scope f cd A outer s₀ H₀ E).env=(false,eval e₀ (er P w K mg base N qual scope f cd A outer s₀ H₀ E).env)::starEach aP (er P w K mg base N qual scope f cd A outer s₀ H₀ E).env) yp._auto_1)
 (hpl:autoParam ((backTo cpos (starEach aP (er P w K mg base N qual scope f cd A outer s₀ H₀ E).env)).any (·.1)=false) yp._auto_1) (hd:autoParam (dB c) yj._auto_1) :
 n4 (er P w K mg base N qual scope f cd A outer s₀ H₀ E) E (.Raise (some (.Call (.Name c np) (e₀::aP) [] cpos)) none pos) (fA c fs):=by
 obtain⟨t,p1,s1⟩:=ha;refine⟨_,lX (EW:=fun H=>E (.ref C) none H) hc hg rfl p1 (fun aa σ H s h' x args I hm hE=>o_ I hm hE) he hpl hd,fun g M ρ env σ H D rep p=>?_⟩;refine s1 g M ρ env σ H _ rep ?_;unfold fA at p;cases q:fs env with
 |stuck=>rw[q]at p;exact p
 |exc c'=>rw[q]at p;exact p
 |ok rs=>
  rw[q]at p;simp only[Res.cF]at p;intro vs M1 H1 e1 rep1 is;by_cases hl:rs.length<=lim
  .rw[da hl]at p;refine⟨by rw[is.length,eB];exact cz hl,?_⟩;exact p (.ref C) none H1 hc.gl rep1.same
  .rw[fR hl]at p;exact p.elim
end
end L3
namespace L2
open PySem PySem.Spec PySem.Calls PyProof.Rows
section
variable {prog:yg}{w:World}{A:yi}{E:yh->ye->Prop}{s:ye}
theorem gb:entryFor table "proto.unchain"=some Builtin.«proto.unchain»:=entryFor_of_tree (by kernel_rfl)
theorem rC {α:Type}{e a:Addr}{oe:Obj}{vs:Array yh}{Q:α->ye->Prop}(hh:A.handled=none\/A.handled=some (.ref a))(ne:a≠e)(c:C2 s.heap a)(he:s.heap.get? e=some oe)(hd:oe.data=.fields vs)(hz:2<vs.size)
 (h:∀ h',(∀ b o,b≠e->s.heap.get? b=some o->h'.get? b=some o)->(∃ o',h'.get? e=some o'/\o'.cls=oe.cls)->E (.ref e) { s with heap:=h' }):wpAny (model prog w) A (raiseNew (.ref e):Sem α) Q E s:=by
 obtain⟨o,ws,h1,h2,h3⟩:=c;unfold raiseNew;refine ae (wpAny_handled ?_);rcases hh with hh|hh
 .rw[hh];refine ae (bp (wpAny_throw ?_));exact h s.heap (fun b o _ z=>z) ⟨oe,he,rfl⟩
 .rw[hh];dsimp only;have:(Value.ref a != Value.ref e)=true:=by simp[ne]
  rw[da this];refine ae (xo (wpAny_runValue (codeAny_builtin gb ?_)));unfold Builtin.«proto.unchain»;refine ae (xi h1 h2 h3 ?_);rw[da (by decide)];refine bp ?_;show wpAny _ _ (setField (.ref e) 2 (Value.ref a) >>= fun _=>throw (Value.ref e)) Q E s;refine ae (x_ he hd hz (wpAny_throw (h _ (fun b o hb q=>?_) ⟨_,xS _ he (xT (xL hd _)),Obj.cls_mapFields _ _⟩)));rw[kM _ _ (xg hb)];exact q
theorem jz {it a:Addr}{x left step:Int}{Q:Option yh->ye->Prop}(hh:A.handled=none\/A.handled=some (.ref a))(c:C2 s.heap a)(hit:IsRangeIter s.heap it x left step)(hleft:left<=0)
 (hQ:∀ h',Heap.ExtBut it s.heap h'->Q none { s with heap:=h' }):wpAny (model prog w) A (pyNext (.ref it)) Q E s:=by
 have hT:s.TypeIs (.ref it) "range_iterator":=⟨_,hit,rfl⟩;have ha:a<s.heap.objs.size:=by obtain⟨o,_,h1,_⟩:=c;exact bo h1
 unfold pyNext;refine ae (wpAny_attempt (xH (name:=Str.ofString "__next__") hT F.slot_range_iterator_next
  (wpAny_call_entry F.slot_range_iterator_next hT F.entry_range_iterator_next ?_ (F.args_range_iterator_next_1 _))))
 show wpAny _ _ (field (.ref it) 0 >>= _) _ _ s;refine ae (xi hit rfl (x:=rawInt x) rfl ?_);show wpAny _ _ (field (.ref it) 1 >>= _) _ _ s;refine ae (xi hit rfl (x:=rawInt left) rfl ?_);show wpAny _ _ (field (.ref it) 2 >>= _) _ _ s;refine ae (xi hit rfl (x:=rawInt step) rfl ?_);show wpAny _ _ (if left<=0 then _ else _) _ _ s;rw[da hleft];refine ae (wpAny_rule (ae ?_));show wpAny _ _ (newExc (.type "StopIteration") [] >>= _) _ _ _;refine ae ?_;simp only[newExc,newTuple];refine ae (gH ?_ (by size_fits));refine ae (m:=firstArgMember _ _) (wpAny_of_eq (a:=Value.none) (by first|rfl|(simp only[firstArgMember];rfl)) ?_);refine gH ?_ (by size_fits);refine rC (a:=a) hh ?_ ?_ (cI _ rfl) rfl (by show 2<6;decide) fun h' kp ⟨o',e',cl⟩=>?_
 .show a≠(s.heap.push _).objs.size;have:=ba (h:=s.heap) (o:={ cls:=.type "tuple",dict:=none,data:=.seq ([]:List yh).toArray }) hit;exact d8 (Nat.lt_trans ha (bo (cI s.heap rfl)))
 .obtain⟨o,vs,h1,h2,h3⟩:=c;exact⟨o,vs,ba _ (ba _ h1),h2,h3⟩
 .refine ae (wpAny_isInstance (T:="StopIteration") (b:=true) ⟨_,e',cl⟩ isSubtype_stop ?_);refine bp (hQ _ fun b o hb q=>kp b o (d8 ?_) (ba _ (ba _ q)));exact Nat.lt_trans (bo q) (bo (cI s.heap rfl))
end
structure nG (ca:Cx->Prop) (P:yg) (w:World) (K:yf) (tg:Expr) (J:It) (fp:List Addr) (it:Addr) (tn:Nat->Heap->Prop):Prop where
 mem:it∈fp
 obj:∀ i h,tn i h->∀ b∈fp,∃ o,h.get? b=some o/\∀ v,o.data≠.cell v
 keep:∀ i h h',tn i h->(∀ b∈fp,∀ o,h.get? b=some o->h'.get? b=some o)->tn i h'
 item:∀(X:Cx),X.prog=P->X.w=w->X.K=K->ca X->∀(i:Nat)(aa:List (Addr×Obj))(s:ye)(σ:St)(H:Hp)(E:yh->ye->Prop),Inv X aa σ H s->(∀ b∈fp,bU X aa H b)->tn i s.heap->J.go i H->
  wpAny (model P w) X.A (pyNext (.ref it)) (fun r s1=>∃ u,r=some u/\
   wpAny (model P w) X.A (letOwnedTupleGo tg (.ref it) u) (fun _ s2=>∃ x H',Inv X aa σ H' s2/\RelV x u/\J.pS i H x H'/\tn (i+1) s2.heap/\∀ b∈fp,H' b=none) E s1) E s
 done:∀(X:Cx),X.prog=P->X.w=w->X.K=K->ca X->∀(i:Nat)(aa:List (Addr×Obj))(s:ye)(σ:St)(H:Hp)(E:yh->ye->Prop),Inv X aa σ H s->(∀ b∈fp,bU X aa H b)->tn i s.heap->J.stop i H->
  wpAny (model P w) X.A (pyNext (.ref it)) (fun r s1=>r=none/\Inv X aa σ H s1) E s
 self:∀(A:yi)(i:Nat)(s:ye)(Q:yh->ye->Prop)(E:yh->ye->Prop),tn i s.heap->Q (.ref it) s->wpAny (model P w) A (pyIter (.ref it)) Q E s
def vQ (ca:Cx->Prop)(X:Cx)(aa:List (Addr×Obj))(σ:St)(tg:Expr)(R:It->Hp->Prop)(itv:yh)(s2:ye):Prop:=∃(it:Addr)(fp:List Addr)(tn:Nat->Heap->Prop)(J:It)(H':Hp),itv=.ref it/\Inv X aa σ H' s2/\nG ca X.prog X.w X.K tg J fp it tn/\tn 0 s2.heap/\(∀ b∈fp,bU X aa H' b)/\R J H'
def vf (ca:Cx->Prop)(X:Cx)(tg iter:Expr)(wi:TI):Prop:=
 ∀(aa:List (Addr×Obj))(s:ye)(σ:St)(H:Hp)(R:It->Hp->Prop),Inv X aa σ H s->wi σ H R->
  wpAny (model X.prog X.w) X.A (eval iter X.env) (fun v s1=>wpAny (model X.prog X.w) X.A (pyIter v) (vQ ca X aa σ tg R) X.xe s1) X.xe s
def ExP (a C:Addr)(h:Heap):Prop:=∃ o vs,h.get? a=some o/\o.cls=.ref C/\o.data=.fields vs/\vs[2]?=some .none
theorem ExP.c2 {a C:Addr}{h:Heap}(x:ExP a C h):C2 h a:=let ⟨o,vs,h1,_,h2,h3⟩:=x;⟨o,vs,h1,h2,h3⟩
theorem Inv.exp {X:Cx}{aa:List (Addr×Obj)}{σ:St}{H:Hp}{s:ye}{a C:Addr}(I:Inv X aa σ H s)(e:H a=some (.ext (ExP a C))):ExP a C s.heap:=(show ObjOk X.prog X.w H s.heap a (.ext (ExP a C)) from I.bc a _ e).1
def pc (a:Addr)(X:Cx):Prop:=X.A.handled=none\/X.A.handled=some (.ref a)
noncomputable def vR (a C:Addr)(n:Nat):It:=⟨fun i _=>i<n,fun i H x H'=>H'=H/\x=.int i,fun i H=>n<=i/\H a=some (.ext (ExP a C))⟩
theorem iy {P:yg}{w:World}{K:yf}{tg:Expr}(it a C:Addr)(n:Nat):nG (pc a) P w K tg (vR a C n) [it] it (fun i h=>IsRangeIter h it ((i:Nat):Int) ((n:Int)-(i:Nat)) 1) where
 mem:=by simp
 obj:=fun i h st b hb=>by grind
 keep:=fun i h h' st k=>k it (by simp) _ st
 item:=by
  intro X hP hw hK hc i aa s σ H E I hf st hg;subst hP hw hK;obtain⟨f0,f1,f2,f3,f4,f5⟩:=hf it (by simp);have hg:i<n:=hg;refine wpAny_pyNext_range_item st (by lia) fun h' st' sb=>?_;have I1:Inv X aa σ H { s with heap:=h',toks:=s.toks+1 }:=I.turned (fun b o hb e=>(sb.2 b hb).trans e) f0 f1 f3 f4 f5;have st2:IsRangeIter h' it ((i+1:Nat):Int) ((n:Int)-((i+1:Nat):Int)) 1:=by
   have e1:((i+1:Nat):Int)=(i:Int)+1:=by lia
   have e2:(n:Int)-((i+1:Nat):Int)=(n:Int)-(i:Int)-1:=by lia
   rw[e2,e1];exact st'
  exact⟨_,rfl,jU (s:={ s with heap:=h',toks:=s.toks+1 }) (n:="range_iterator") st' rfl rfl (by decide) ⟨.int i,H,I1,⟨s.toks,rfl⟩,⟨rfl,rfl⟩,st2,fun b hb=>(hf b hb).1⟩⟩
 done:=by intro X hP hw hK hc i aa s σ H E I hf st hg;subst hP hw hK;obtain⟨f0,f1,f2,f3,f4,f5⟩:=hf it (by simp);exact jz hc (I.exp hg.2).c2 st (by have:n<=i:=hg.1;lia) fun h' eb=>⟨rfl,I.turned (t':=s.toks) (fun b o hb e=>eb b o hb e) f0 f1 f3 f4 f5⟩
 self:=fun _ _ _ _ _ st h=>wpAny_pyIter_rangeiter st h
section
variable {X:Cx}{tg:Expr}
theorem lh {a0 C:Addr} {n:Nat} {p pos cp:Pos} {j} (hg:Gl X "range") (hm:X.mg "range"=none) (hn:n<1000) :
 vf (pc a0) X tg (.Call (.Name "range" p) [.Constant (.int n) j cp] [] pos) (fun σ H R=>R (vR a0 C n) H):=by
 intro aa s σ H R I h;have ha:=au (X:=X) (lH (X:=X) (i:=(n:Int)) (pos:=cp) (j:=j)) aQ;refine Call_ (eY I hg hm boot_range (xr (ce (ha pos aa s σ H (fun vs H1=>vs=[.int (n:Int)]/\H1=H) I ⟨rfl,rfl⟩) fun us s1 ⟨vs,H1,I1,r1,q1⟩=>?_) rfl rfl));obtain⟨e,e2⟩:=q1;subst e e2;cases r1 with
 |cons r rr=>
  cases rr;obtain⟨t,rfl⟩:=r;refine call_range_1 ?_;refine wpAny_pyIter_range (IsRange.new ..) (small_one (by decide) (by decide) (by lia) (by lia)) ?_;have I2:Inv X aa σ H1 { s1 with heap:=s1.heap.push { cls:=.type "range",data:=.fields #[.int 0 s1.toks,.int n t,.int 1 (s1.toks+1)] },toks:=s1.toks+2 }:=I1.kept fun b u z=>ba _ z;refine⟨_,[_],_,_,H1,rfl,I2.kept (t':=s1.toks+2) fun b o e=>ba _ e,iy _ a0 C n,?_,fun b hb=>?_,h⟩
  .have e2:(n:Int)-((0:Nat):Int)=Builtin.Range.rangeSize 0 n 1:=by rw[rangeSize_one];split<;>lia
   show IsRangeIter _ _ ((0:Nat):Int) ((n:Int)-((0:Nat):Int)) 1;rw[e2];exact cI _ rfl
  .have e:=List.mem_singleton.mp hb;subst e;exact I2.nM (bD _) (I2.bc.fresh (bD _))
end
end L2
namespace L3
open PySem PySem.Spec PyProof.Rows L2
section
variable {X:Cx}{H3:Hp}{s3:ye}{scope:Scope}{tg:Expr}{tN:List Str}{capN:List Str}{cl:List (Str×Addr)}{C:Addr}{fp:List Addr}{elt iter:Expr}{pos:Pos}{ifs:List Expr}
theorem jA {ca:Cx->Prop}{J:It}{it Dl:Addr}{tn:Nat->Heap->Prop}{X':Cx}(hX:X'=aM X scope (tN++capN) cl C s3 H3 fp)(T:nG ca X.prog X.w X.K tg J fp it tn)(eC:ca X')
 {σc:St} {s4:ye} (I4:L2.Inv X' [] (List.replicate tN.length none++σc) H3 s4) (bI:X'.N.length=tN.length+σc.length) (st4:tn 0 s4.heap) (hf:∀ b∈fp,bU X' [] H3 b)
 {tt:TT} {te:TE} {gt:TG} (hg:PG X' tg gt) (ht:p_ X' ifs tt) (he:PE X' elt te)
 (W:Nat->Nat->List V->Hp->Prop) (gR:List V->Hp->Prop) (w0:∃ m,W 0 m [] H3)
 (turn:∀ i m acc H,W i m acc H->H Dl=some (.lst acc)/\((J.stop i H/\gR acc H)\/(J.go i H/\∀ xv H' o,J.pS i H xv H'->o.length=tN.length->gt xv (o++σc) H' fun σ2 H1=>(∀ j:Nat,tN.length<=j->σ2[j]?=(o++σc)[j]?)/\tt σ2 H1 fun b H2=>if b=true then
   te σ2 H2 fun y H5=>H5 Dl=some (.lst acc)/\acc.length<sizeLine/\∃ m',m'<m/\W (i+1) m' (acc++[y]) (aX H5 Dl (.lst (acc++[y]))) else ∃ m',m'<m/\W (i+1) m' acc H2)))
 (R:Result->ye->Prop) (hR:∀ σ' H' acc s',L2.Inv X' [] σ' H' s'->H' Dl=some (.lst acc)->gR acc H'->R (.ok .next) s') :
 codeAny (model X.prog X.w) X.A (.compLoop (.ListComp elt [⟨tg,iter,ifs,0⟩] scope pos) 0 (.ref it) (.ref Dl) (compEnvC scope cl C X.env)) R s4:=by
 obtain⟨m0,w0⟩:=w0;have eA:X'.A=X.A:=by rw[hX];rfl
 have eP:X'.prog=X.prog:=by rw[hX];rfl
 have eW:X'.w=X.w:=by rw[hX];rfl
 have eK:X'.K=X.K:=by rw[hX];rfl
 have eE:X'.env=compEnvC scope cl C X.env:=by rw[hX];rfl
 have eX:X'.xe=fun _ _=>False:=by rw[hX];rfl
 have stat:∀{H':Hp},(∀ b∈fp,H' b=none)->∀ b∈fp,bU X' [] H' b:=fun hn b hb=>⟨hn b hb,(hf b hb).2⟩;refine codeAny_loop rfl (fun n s=>∃ i o acc H,L2.Inv X' [] (o++σc) H s/\o.length=tN.length/\tn i s.heap/\(∀ b∈fp,H b=none)/\W i n acc H) ?_ m0 ⟨0,List.replicate tN.length none,[],H3,I4,by simp,st4,fun b hb=>(hf b hb).1,w0⟩;rintro n s5 ⟨i,o,acc,H5,I5,lo,st5,fr5,w5⟩;show wpAny _ X.A ((compTurn (.ListComp elt [⟨tg,iter,ifs,0⟩] scope pos) 0 (.ref it) (.ref Dl) (compEnvC scope cl C X.env)).onRaise (fun x=>do noteFrame x (compEnvC scope cl C X.env);theTreesLotGoes x)) _ _ s5;refine wpAny_noted ?_;rw[compTurn_list];obtain⟨hD,alt⟩:=turn i n acc H5 w5;rcases alt with⟨stop,fin⟩|⟨go,step⟩
 .refine ae (xK (ae (fO (eA▸T.done X' eP eW eK eC i [] s5 _ H5 _ I5 (stat fr5) st5 stop) (fun r s6 ⟨hr,I6⟩=>?_) fun _ _ z=>z)));subst hr;exact bp (hR _ H5 acc s6 I6 hD fin)
 .refine ae (xK (ae (fO (eA▸T.item X' eP eW eK eC i [] s5 _ H5 _ I5 (stat fr5) st5 go) (fun r s6 ⟨u,hr,h6⟩=>?_) fun _ _ z=>z)));subst hr;refine ae (fO h6 (fun _ s7 ⟨xv,H7,I7,r7,y7,st7,fr7⟩=>?_) fun _ _ z=>z);have I7':=I7.pinned (stat fr7) (T.obj _ _ st7);have hg':=hg _ s7 _ H7 xv u _ I7' r7 (step xv H7 o y7 lo);rw[eP,eW,eA,eE,eX]at hg';refine ae (fO hg' (fun _ s8 ⟨σ8,H8,I8,shp,q8⟩=>?_) fun _ _ z=>z.elim);obtain⟨o2,lo2,eσ⟩ : ∃ o2:St,o2.length=tN.length/\σ8=o2++σc:=by
   have l8:σ8.length=tN.length+σc.length:=I8.len.trans bI;refine⟨σ8.take tN.length,by rw[xB];lia,?_⟩;have ed:σ8.drop tN.length=σc:=by
    apply List.ext_getElem?
    intro j;rw[List.getElem?_drop,shp (tN.length+j) (by lia),fQ (by lia),lo,kF]
   rw[<- ed,List.take_append_drop]
  subst eσ;have ht':=ht _ s8 _ H8 _ I8 q8;rw[eP,eW,eA,eE,eX]at ht';refine ae (fO ht' (fun ok s9 ⟨H9,I9,q9⟩=>?_) fun _ _ z=>z.elim);have again:∀{s':ye}{H':Hp},L2.Inv X' ([]++dM fp s7.heap) (o2++σc) H' s'->L2.Inv X' [] (o2++σc) H' s'/\tn (i+1) s'.heap/\∀ b∈fp,H' b=none:=fun{s' H'} J'=>by refine⟨J'.c0,T.keep _ _ _ st7 fun b hb ob e=>(J'.pin (b,ob) (bX _ (bX _ (bG hb e)))).1,fun b hb=>?_⟩;obtain⟨ob,e,d⟩:=T.obj _ _ st7 b hb;exact(J'.pin (b,ob) (bX _ (bX _ (bG hb e)))).2.1
  cases ok with
  |false=>obtain⟨m',hm,w9⟩:=(show ∃ m',m'<n/\W (i+1) m' acc H9 from by simpa using q9);obtain⟨a1,a2,a3⟩:=again I9;exact bp ⟨rfl,m',hm,i+1,o2,acc,H9,a1,lo2,a2,a3,w9⟩
  |true=>
   have q9:te (o2++σc) H9 fun y H5=>H5 Dl=some (.lst acc)/\acc.length<sizeLine/\∃ m',m'<n/\W (i+1) m' (acc++[y]) (aX H5 Dl (.lst (acc++[y]))):=by simpa using q9
   have he':=he _ s9 _ H9 _ I9 q9;rw[eP,eW,eA,eE,eX]at he';refine ae (ae (fO he' (fun v s10 ⟨y,H10,I10,ry,eD,hl,m',hm,w10⟩=>?_) fun _ _ z=>z.elim));have hm':=dP (X:=X') _ s10 _ H10 (.ref Dl) [y] (.ref Dl) [v] (fun w H'=>w=.cH/\H'=aX H10 Dl (.lst (acc++[y]))) I10 rfl (.cons ry .nil) ⟨Dl,acc,y,rfl,rfl,eD,hl,rfl,rfl⟩;rw[eP,eW,eA,eX]at hm';refine ae (fO hm' (fun _ s11 ⟨w,H11,I11,_,_,eH⟩=>?_) fun _ _ z=>z.elim);subst eH;obtain⟨a1,a2,a3⟩:=again I11;exact bp (bp ⟨rfl,m',hm,i+1,o2,acc++[y],_,a1,lo2,a2,a3,w10⟩)
end
section
variable {X:Cx}{aa:List (Addr×Obj)}{σ:St}{H:Hp}{s:ye}{scope:Scope}{tg:Expr}{tN:List Str}{capN:List Str}{caps:List Nat}{elt iter:Expr}{pos:Pos}{ifs:List Expr}{wi:TI}
theorem jB {ca:Cx->Prop}{use:Option (yh->Sem Unit)}{Qv:yh->ye->Prop}{gR:Addr->List V->Hp->Prop}(hc:∀ cl C s3 H3 fp,ca (aM X scope (tN++capN) cl C s3 H3 fp))(S:bE X scope tN capN caps)(I:L2.Inv X aa σ H s)(hi:vf ca X tg iter wi)
 (h:wi σ H (bM X scope tg tN capN caps elt ifs σ gR))
 (hu:∀(Dl C:Addr)(acc:List V)(H':Hp)(s':ye),L2.Inv X aa σ H' s'->bU X aa H' C->H' Dl=some (.lst acc)->gR Dl acc H'->(∃ m,s'.heap.Ns C m)->compPost (model X.prog X.w) X.A X.xe use Qv (.ref Dl) C (.ok .next) s')
 (hs:autoParam (∀ x,foldedSetIterable iter X.env x=pure x) yn._auto_1) :
 wX X (comprehension (.ListComp elt [⟨tg,iter,ifs,0⟩] scope pos) scope X.env (firstIterPos [⟨tg,iter,ifs,0⟩] pos) (newList []) false (eval iter X.env) use) Qv X.xe s:=by
 obtain⟨cl,ecl,hcl,hhas⟩:=c_ (scope:=scope) (env:=X.env) fun y hy hf=>I.ok.has y.1 (S.free y hy hf);refine wpAny_comprehension_free rfl hs ecl S.kind S.names (ce (hi aa s σ H _ I h) fun v s1 h1=>ce h1 fun itv s2 h2=>?_);obtain⟨it,fp,tn,J,H2,rfl,I2,T,st2,f2,goal⟩:=h2;refine gH (wpAny_newFunctionEnv S.kK (by intro y hy;simp at hy) (fun h₁ hns₁ hsb₁=>?_) S.kind);dsimp only at hns₁ hsb₁ ⊢;have hD:H2 s2.heap.objs.size=none:=I2.bc.fresh (bD _);have I3:L2.Inv X aa σ (aX H2 s2.heap.objs.size (.lst [])) { s2 with heap:=s2.heap.push { cls:=.type "list",dict:=none,data:=.seq ([]:List yh).toArray } }:=I2.laid (t':=s2.toks) (fun b u e=>ba _ e) (bD _) ⟨ya _,[],0,.nil,cI _ rfl⟩;generalize hs3:({ s2 with heap:=s2.heap.push { cls:=.type "list",dict:=none,data:=.seq ([]:List yh).toArray } }:ye)=s3 at I3;have e3:s2.heap.push { cls:=.type "list",dict:=none,data:=.seq ([]:List yh).toArray }=s3.heap:=by rw[<- hs3]
 rw[e3]at hns₁ hsb₁ ⊢;have kp:∀ b o,s3.heap.get? b=some o->h₁.get? b=some o:=fun b o e=>hsb₁.extBut b o (d8 (bo e)) (ba _ e);have k23:∀ b o,s2.heap.get? b=some o->s3.heap.get? b=some o:=fun b o e=>by rw[<- e3];exact ba _ e
 have hex:∀ b∈fp,bU X aa (aX H2 s2.heap.objs.size (.lst [])) b/\b<s3.heap.objs.size:=fun b hb=>by obtain⟨o,ho,_⟩:=T.obj 0 _ st2 b hb;have hlt:b<s2.heap.objs.size:=bo ho;refine⟨⟨?_,(f2 b hb).2⟩,bo (k23 b o ho)⟩;rw[aA (d8 hlt)];exact(f2 b hb).1
 have es:({ s2 with heap:=h₁,toks:=s2.toks+([]:List (Str×yh)).length }:ye)={ s3 with heap:=h₁,toks:=s2.toks+([]:List (Str×yh)).length }:=by rw[<- hs3]
 have I4:L2.Inv (aM X scope (tN++capN) cl s3.heap.objs.size s3 (aX H2 s2.heap.objs.size (.lst [])) fp) [] (List.replicate tN.length none++cW σ caps) (aX H2 s2.heap.objs.size (.lst [])) { s3 with heap:=h₁,toks:=s2.toks+([]:List (Str×yh)).length }:=il I3 S.kind S.kK hcl hhas (bD _) hex S.cap kp hns₁;obtain⟨gt,tt,te,W,hg,ht,he,w0,turn⟩:=goal s2.heap.objs.size hD cl s3.heap.objs.size s3 fp;have st4:tn 0 h₁:=T.keep 0 _ _ st2 fun b hb o e=>kp b o (k23 b o e);have f4:∀ b∈fp,bU (aM X scope (tN++capN) cl s3.heap.objs.size s3 (aX H2 s2.heap.objs.size (.lst [])) fp) [] (aX H2 s2.heap.objs.size (.lst [])) b:=fun b hb=>by
  obtain⟨f,hlt⟩:=hex b hb;refine⟨f.1,d8 hlt,fun hfs=>?_,.inl hb,fun y c e=>f.2.2.2.2.1 y c (hcl y c e),fun p hp=>absurd (show p∈([]:List (Addr×Obj)) from hp) (by simp)⟩;rcases xh.mp (I3.d7 b hfs) with z|z
  .exact f.2.1 z
  .exact f.2.2.1 z
 have loop:codeAny (model X.prog X.w) X.A (.compLoop (.ListComp elt [⟨tg,iter,ifs,0⟩] scope pos) 0 (.ref it) (.ref s2.heap.objs.size) (compEnvC scope cl s3.heap.objs.size X.env)) (compPost (model X.prog X.w) X.A X.xe use Qv (.ref s2.heap.objs.size) s3.heap.objs.size)
  { s3 with heap:=h₁,toks:=s2.toks+([]:List (Str×yh)).length }:=by
  refine jA rfl T (hc _ _ _ _ _) I4 (by show(tN++capN).length=_;simp[cW,S.cap.len]) st4 f4 hg ht he W (gR s2.heap.objs.size) w0 turn _ fun σ' H' acc s' I' hD' fin=>?_;obtain⟨Io,fo⟩:=gn I3 rfl (bD _) hex I';obtain⟨m',hn',_⟩:=I'.loc;exact hu _ _ acc H' s' Io fo hD' fin ⟨m',hn'⟩
 rw[es];exact codeAny_compStart_list loop (T.self _ 0 _ _ _ st4 loop)
theorem mG {ca:Cx->Prop}{Q:VK}(hc:∀ cl C s3 H3 fp,ca (aM X scope (tN++capN) cl C s3 H3 fp))(S:bE X scope tN capN caps)(I:L2.Inv X aa σ H s)(hi:vf ca X tg iter wi)(h:wi σ H (bM X scope tg tN capN caps elt ifs σ fun Dl _ H'=>Q (.ref Dl) H'))
 (hs:autoParam (∀ x,foldedSetIterable iter X.env x=pure x) yn._auto_1):wX X (eval (.ListComp elt [⟨tg,iter,ifs,0⟩] scope pos) X.env) (EP X aa σ Q) X.xe s:=by
 rw[eval_ListComp];refine jB (use:=none) hc S I hi h (fun Dl C acc H' s' Io fo hD fin hn=>?_) hs;obtain⟨m,hn⟩:=hn;exact⟨m,hn,fun h' sb=>⟨.ref Dl,H',g3 Io fo sb,rfl,fin⟩⟩
end
end L3
namespace L2
open PySem PySem.Spec PySem.Calls PyProof.Rows
section
variable {X:Cx}{aa:List (Addr×Obj)}{σ:St}{H:Hp}{s:ye}{h':Heap}{a C:Addr}{o:HO}{fs ex:List Addr}{P:yg}{w:World}{h:Heap}
theorem Un.kI (k:∀ b u,h.get? b=some u->h'.get? b=some u)(hp:h.get? a=none)(hn:H a=none):Un fs ex H (aX H a o) h h' where
 keep:=fun b u q _ _ _=>k b u q
 slot:=fun b u q _ _ _=>⟨u.slots,k b u q⟩
 free:=fun b u q n _=>by rw[aA (fun z=>by rw[z,hp]at q;cases q)];exact n
 there:=fun b u q _=>⟨u,k b u q⟩
 cE:=fun b xs q=>by rw[aA (aH q hn)];exact q
 c7:=fun b u xs q=>by rw[aA (aH q hn)];exact q
 dH:=fun b ps q=>⟨#[],by rw[aA (aH q hn),q];simp⟩
theorem HOk.kI (x:HOk P w H h)(k:∀ b u,h.get? b=some u->h'.get? b=some u)(hn:H a=none)(new:ObjOk P w (aX H a o) h' a o):HOk P w (aX H a o) h':=fun b u e=>by
 by_cases hb:b=a
 .subst hb;rw[aI]at e;cases e;exact new
 .rw[aA hb]at e;exact(x b u e).stay (fun c v _ q=>k c v q) (fun c q=>by rw[aA (aH q hn)];exact q) fun c xs q=>by rw[aA (aH q hn)];exact q
theorem ExP.ok (e:ExP a C h):ObjOk P w H h a (.ext (ExP a C)):=by refine⟨e,let ⟨o,_,e,_⟩:=e;⟨o,e⟩,fun h1 h2 ⟨o,vs,x1,x2,x3,x4⟩ k=>⟨o,vs,k o x1,x2,x3,x4⟩⟩
theorem Inv.none_of (I:Inv X aa σ H s)(hp:s.heap.get? a=none):H a=none:=by
 cases q:H a with
 |none=>rfl
 |some u=>obtain⟨o,ho⟩:=de (I.bc a u q);rw[hp]at ho;cases ho
end
section
variable {X:Cx}{c:Str}{C:Addr}{np cpos:Pos}{e₀:Expr}{aP:List Expr}{t:TA}
def vS (C:Addr)(t:TA):TE:=fun σ H Q=>t σ H fun vs H'=>vs.length<=sizeLine/\∀ x,H' x=none->Q (.ref x) (aX H' x (.ext (ExP x C)))
theorem rD (hc:XC X.K X.mg c C)(hg:Gl X c)(ha:PA X (e₀::aP) t)(hd:autoParam (dB c) yj._auto_1)
 (he:autoParam (starEach (e₀::aP) X.env=(false,eval e₀ X.env)::starEach aP X.env) yp._auto_1) (hpl:autoParam (bT X cpos aP) yp._auto_1):PE X (.Call (.Name c np) (e₀::aP) [] cpos) (vS C t):=by
 intro aa s σ H Q I h;obtain⟨bm,_,N,nm,q,bs,hdct,sn,sub,ab,col,dd,k0,k1,k2,k3,k5,mN,hC,hN,hni,TL⟩:=du I.ok.mod.qw hc.ex;have fb:=PySem.F.excBase_ValueError;refine nX (cg I hg hc.gl ?_ hd);have ha':=ha cpos aa s σ H _ I h;rw[he]at ha' ⊢;unfold callWith;refine ae (xo (xV (fO ha' (fun us s2 ⟨vs,H2,I2,r,q2⟩=>ae (xK ?_)) fun _ _ y=>y)));have hC2:=I2.bk _ _ hC;have hN2:=hN.keeps I2.bk;have TL2:=TL.keeps I2.bk;have hq:=q2.2;have hl:us.length<=sizeLine:=by rw[<- r.length];exact q2.1
 clear q2 ha';obtain⟨hp,g,d,tk,os⟩:=s2;have hpl2:(backTo cpos ((false,eval e₀ X.env)::starEach aP X.env)).any (·.1)=false:=by show(false || (backTo cpos (starEach aP X.env)).any (·.1))=false;rw[hpl];rfl
 simp only[hpl2];refine ae (wpAny_keeperOf_exc hC2 ?_);refine ae (wpAny_call_exc_subU (hrest:=hl) fb (by decide +kernel) fb TL2 hC2 hN2 hni fun h' e hm=>ae (xo (wpAny_point (bp ?_))));have hx:=I2.none_of hm.new;obtain⟨t,ht,_,_⟩:=hm.there;exact⟨.ref e,_,I2.un (Un.kI hm.keeps hm.new hx) (I2.bc.kI hm.keeps hx (ExP.ok ⟨_,_,ht,rfl,rfl,rfl⟩)),rfl,hq e hx⟩
end
def t_ (K:yf):List V->Hp->VK->Prop:=fun xs H Q=>∃ x C c b,xs=[.ref x,c]/\H x=some (.ext (ExP x C))/\bP K C/\(∀ u,RelV c u->PySem.W.kitOne K (.ref C) u=some b)/\Q (.bl b) H
theorem aY {X:Cx}:CallR X (.builtin "isinstance") (t_ X.K):=by intro aa s σ H xs us Q I r h;obtain⟨x,C,c,b,rfl,hx,Z,hk,q⟩:=h;obtain⟨u,c',rfl,ru,rc⟩:=tH r;obtain rfl:u=Value.ref x:=ru;obtain⟨o,_,e,hc,_⟩:=I.exp hx;exact PySem.W.kia_one (lZ Z.ga Z.gt Z.cl Z.sp Z.tk Z.mo Z.mb Z.is) I.kD ⟨o,e,hc⟩ (hk c' rc) (fun z=>nomatch z) fun tk=>⟨.bl b,H,I.tok tk,rfl,q⟩
structure dI (a:Addr) (k:Nat) (A:yi):Prop where
 hd:A.handled=none\/A.handled=some (.ref a)
 dp:A.depth+3*k+5<recursionLimit
 un:A.units+16*k+200<cLine
theorem dI.deeper {a:Addr}{k:Nat}{A:yi}(r:dI a (k+1) A)(env:Env):dI a k (A.deeper env):=⟨r.hd,by have:=r.dp;show A.depth+1+3*k+5<_;lia,by have:=r.un;show A.units+3+16*k+200<_;lia⟩
theorem dI.depth {a:Addr}{k:Nat}{A:yi}(r:dI a k A):A.depth<recursionLimit:=by have:=r.dp;lia
theorem bJ.wn {a:Addr}{k:Nat}{A:yi}(r:bJ k A):dI a k A:=⟨.inl r.hd,r.dp,r.un⟩
structure iL (P:yg) (w:World) (K:yf) (mg:Str->Option yh) (base:Heap) (CX:jb) (k:Nat) (f:Addr) (fd:FuncData) (ps:List Str) (sp:Sp):Prop where
 len:∀ vs H Q E,sp vs H Q E->vs.length=ps.length
 run:∀(A:yi)(outer:List Env)(s:ye)(H:Hp)(args:Args)(us:List yh)(a:Addr)(Q:VK)(E:XK),dI a k A->lA P w K mg base A outer s H->BindsTo s fd args (ps.zip us)->Vals [.ref a] us->sp [.ref a] H Q E->
  codeAny (model P w) A (.call (.ref f) args) (CR CX outer P w H s Q E) s
abbrev wy (CX:jb)(P:yg)(w:World)(K:yf)(mg:Str->Option yh)(base:Heap)(N:List Str)(qual:Str)(scope:Scope)(f:Addr)(cd:yh)(A:yi)(outer:List Env)(s:ye)(H:Hp)(E:XK):Cx:={ jm CX P w K mg base N qual scope f cd A outer s H E with calm:=false }
theorem jC {CX:jb}{P:yg}{w:World}{K:yf}{mg:Str->Option yh}{base:Heap}{N ps:List Str}{qual:Str}{scope:Scope}{f:Addr}{cd:yh}{A:yi}{outer:List Env}{s s1:ye}{H:Hp}{E:XK}{us:List yh}{vs:List V}
 (S:bf N ps scope) (e0:lA P w K mg base A outer s H) (hl:vs.length=ps.length) (r:Vals vs us)
 (x:InCallC s s.heap.objs.size (bindL (envOfC qual scope s.heap.objs.size f cd).kindOf (ps.zip us) fun _=>none) (cellsFrom (s.heap.objs.size+1) scope.names []) (bindC (envOfC qual scope s.heap.objs.size f cd).kindOf (ps.zip us) fun _=>none) s1) :
 Inv (wy CX P w K mg base N qual scope f cd A outer s H E) [] (ci N vs) H s1:=by
 have I:=gk (CX:=CX) (E:=E) (A:={ A with handled:=none }) S rfl ⟨e0.frames,e0.mod,e0.bs,e0.lF,e0.dn,e0.n6,e0.bc,e0.bare,e0.kt⟩ hl r x;exact⟨⟨I.ok.mod,I.ok.kind,I.ok.glob,I.ok.blt,I.ok.above,I.ok.inj,I.ok.has,I.ok.qy,(fun z=>by cases z),I.ok.frames,I.ok.sY,I.ok.u3,I.ok.bs,I.ok.lF,I.ok.iN,I.ok.jQ,I.ok.dn,I.ok.n6,I.ok.kt⟩,I.os,I.bare,I.base,I.loc,I.cell,I.free,I.bS,I.pin,I.bc,I.len⟩
theorem rE {CX:jb}{P:yg}{w:World}{K:yf}{mg:Str->Option yh}{base:Heap}{k:Nat}{x qual:Str}{st:Stmt}{f:Addr}{fd:FuncData}{N ps:List Str}{sp:Sp}(F:sW K x qual st f fd)(S:bf N ps (ar st))
 (len:∀ vs H Q E,sp vs H Q E->vs.length=ps.length)
 (hbody:∀(cdv:yh)(A:yi)(outer:List Env)(s:ye)(H:Hp)(a:Addr)(Q:VK)(E:XK),dI a k (A.deeper (envOfC qual (ar st) s.heap.objs.size f cdv))->sp [.ref a] H Q E->
   ∃ t,lB (wy CX P w K mg base N qual (ar st) f cdv A outer s H E) (aN st) t/\t { nx:=fun _ H'=>Q .cH H',rt:=Q } (ci N [.ref a]) H) :
 iL P w K mg base CX (k+1) f fd ps sp:=by
 obtain⟨oc,od,kV,doc,pm,an,cdv,ct,osl,rfl,lk,hcd⟩:=F.ex;refine⟨len,fun A outer s H args us a Q E hr e0 hb r hsp=>?_⟩;have hl:=len _ _ _ _ hsp;have KX:K.In s.heap:=e0.mod.qw.keeps fun b o e=>(e0.bs b o e).1;have lim:s.heap.NoLimit:=e0.mod.nolimit.keeps fun b o e=>(e0.bs b o e).1;refine codeAny_call_function hr.depth (KX _ _ lk) rfl S.co S.gen rfl (PySem.W.codeRec_of KX hcd) (hb _ _ _ _ (wpAny_newFunctionEnv_cells S.kind (fun⟨n,v⟩ hy=>?_) fun env he s1 x=>?_))
 .rcases S.par n (xY hy).1 with q|q
  .exact .inl q
  .exact .inr ⟨q,xM _ _ _ (.inl q)⟩
 subst he;refine⟨lim.keeps x.toInCall.keep,codeAny_func ?_⟩;obtain⟨t,ht,hq⟩:=hbody cdv A outer s H a Q E (hr.deeper _) hsp;refine fO (ht [] s1 _ H _ (jC S e0 hl r x) hq) (fun fl s' hs=>?_) fun e s' hs=>hs;cases fl with
 |ret u=>obtain⟨v,σ',H',J,rv,q⟩:=hs;exact⟨v,H',J.os,J.bare,J.base,J.bc,rv,q⟩
 |next=>obtain⟨σ',H',J,q⟩:=hs;exact⟨.cH,H',J.os,J.bare,J.base,J.bc,rfl,q⟩
 |brk=>obtain⟨_,_,_,z⟩:=hs;exact False.elim z
 |cont=>obtain⟨_,_,_,z⟩:=hs;exact False.elim z
noncomputable def rF (R:Addr->Prop)(sp:Sp)(E:XK)(t:TE):TE:=fun σ H Q=>t σ H fun v H1=>∃ a,[v]=[V.ref a]/\R a/\sp [.ref a] H1 Q E
theorem iz {X:Cx}{CX:jb}{k:Nat}{f:Addr}{fd:FuncData}{ps:List Str}{sp:Sp}{E:XK}{x:Str}{p pos:Pos}{e:Expr}{t:TE}{R:Addr->Prop}(F:iL X.prog X.w X.K X.mg X.base CX k f fd ps sp)(hr:∀ a,R a->dI a k X.A)(hg:Gl X x)(hm:X.mg x=some (.ref f))
 (hk:PySem.W.keepIn X.K (.ref f)=true) (hb:Binds X.K fd ps []) (hx:cn CX X E) (ha:PE X e t) (hdb:autoParam (dB x) yj._auto_1) (he:autoParam (starEach [e] X.env=[(false,eval e X.env)]) yp._auto_1) :
 PE X (.Call (.Name x p) [e] [] pos) (rF R sp E t):=by
 intro aa s σ H Q I h;refine nX (cg I hg hm ?_ hdb);have pa:=au (X:=X) ha aQ he;refine x8 (h₀:=X.base) I.ok.mod.qw hk (ce (pa pos aa s σ H (fun vs H1=>∃ a,vs=[.ref a]/\R a/\sp [.ref a] H1 Q E) I ?_) fun us s1 ⟨vs,H1,I1,r,q⟩=>⟨I1.kD,?_⟩) he (by rfl)
 .exact h
 .obtain⟨a,rfl,hR,q⟩:=q;have hl:us.length=ps.length:=by rw[<- r.length];exact F.len _ _ _ _ q
  have hb':=hb s1 us I1.kD (by rwa [xm]);rw[xm]at hb';refine wpAny_call (x6 (F.run X.A X.stack s1 H1 ⟨us,[]⟩ us a Q E (hr a hR) I1.s_ hb' r q) fun r s' hq=>?_);cases r with
  |error e=>exact hx aa σ H1 s1 e s' I1 hq
  |ok fl=>
   cases fl with
   |ret u=>exact I1.after hq
   |next=>exact False.elim hq
   |brk=>exact False.elim hq
   |cont=>exact False.elim hq
theorem li {X:Cx}{scope:Scope}{tg:Expr}{tN capN:List Str}{caps:List Nat}{elt iter:Expr}{pos:Pos}{ifs:List Expr}{wi:TI}{a:Addr}(hc:pc a X)(S:L3.bE X scope tN capN caps)(hi:vf (pc a) X tg iter wi)(hs:autoParam (∀ x,foldedSetIterable iter X.env x=pure x) yn._auto_1) :
 PE X (.ListComp elt [⟨tg,iter,ifs,0⟩] scope pos) (L3.im X scope tg tN capN caps elt ifs wi):=fun aa s σ H Q I h=>L3.mG (fun _ _ _ _ _=>hc) S I hi h hs
end L2
namespace L4
open PySem PySem.Spec PyProof.Rows L2 L3
section
variable {X:Cx}{scope:Scope}{tg elt:Expr}{ifs:List Expr}{tN capN:List Str}{caps:List Nat}{σ:L2.St}{H1:Hp}{gR:Addr->List V->Hp->Prop}{J:L2.It}{n:Nat}{gt:TG}{tt:TT}{te:TE}
theorem wR (hg:∀ cl C s3 H3 fp,PG (aM X scope (tN++capN) cl C s3 H3 fp) tg gt)(ht:∀ cl C s3 H3 fp,p_ (aM X scope (tN++capN) cl C s3 H3 fp) ifs tt)(he:∀ cl C s3 H3 fp,PE (aM X scope (tN++capN) cl C s3 H3 fp) elt te)(I:Addr->Nat->List V->Hp->Prop)(p0:∀ Dl,H1 Dl=none->I Dl 0 [] (aX H1 Dl (.lst [])))(hD:∀{Dl i acc H},I Dl i acc H->H Dl=some (.lst acc))
 (hgo:∀ Dl i acc H,I Dl i acc H->i<n->J.go i H) (hst:∀ Dl acc H,I Dl n acc H->J.stop n H)
 (hb:∀ Dl i acc H x H' o,i<n->I Dl i acc H->J.pS i H x H'->o.length=tN.length->gt x (o++cW σ caps) H' fun σ2 H2=>(∀ j:Nat,tN.length<=j->σ2[j]?=(o++cW σ caps)[j]?)/\tt σ2 H2 fun b H3=>if b=true then te σ2 H3 fun y H5=>H5 Dl=some (.lst acc)/\acc.length<sizeLine/\I Dl (i+1) (acc++[y]) (aX H5 Dl (.lst (acc++[y]))) else I Dl (i+1) acc H3)
 (fin:∀ Dl acc H,H1 Dl=none->I Dl n acc H->gR Dl acc H):bM X scope tg tN capN caps elt ifs σ gR J H1:=by
 intro Dl hDl cl C s3 fp;refine⟨_,_,_,fun i m acc H'=>m=n-i/\i<=n/\I Dl i acc H',hg cl C s3 _ fp,ht cl C s3 _ fp,he cl C s3 _ fp,⟨n,by simp,ya _,p0 Dl hDl⟩,?_⟩;rintro i m acc H' ⟨rfl,hi,p⟩;refine⟨hD p,?_⟩;by_cases hlt:i<n
 .refine .inr ⟨hgo Dl i acc H' p hlt,fun xv H'' o y ho=>?_⟩;have:=hb Dl i acc H' xv H'' o hlt p y ho;have e2:∀{A:Prop},(∃ m',m'<n-i/\(m'=n-(i+1)/\i+1<=n/\A))↔A:=⟨fun⟨_,_,_,_,a⟩=>a,fun a=>⟨_,by lia,rfl,hlt,a⟩⟩;simp only[e2];exact this
 .have ei:i=n:=by lia
  subst ei;exact .inl ⟨hst Dl acc H' p,fin Dl acc H' hDl p⟩
end
theorem vT {n:Nat}(h:n<15000000):n<sizeLine:=by rw[xt];lia
structure i4 (K:yf) (c:Nat->Addr) (wc C:Addr) (j:Nat):Prop where
 z:bP K C
 k:∀ i,i<11->PySem.W.kitOne K (.ref C) (.ref (c i))=some (decide (i=j))
 w:PySem.W.kitOne K (.ref C) (.ref wc)=some true
 v:PySem.W.kitOne K (.ref C) (.type "ValueError")=some true
 l:j<11
inductive nP (K:yf) (c:Nat->Addr) (wc:Addr):Sp
 |mk {H:Hp} {a C:Addr} {j:Nat} {Q:VK} {E:XK} (hx:H a=some (.ext (ExP a C))) (kn:i4 K c wc C j) (k:∀ p H',Same H H'->H p=none->H' p=some (.lst [.int j])->Q (.ref p) H'):nP K c wc [.ref a] H Q E
section
variable {X:Cx}{K:yf}{H H':Hp}{σ:L2.St}{vs:List V}{Q:VK}{E:XK}{c:Nat->Addr}{wc:Addr}
theorem mH (h:nP K c wc vs H Q E):vs.length=1:=by cases h;rfl
def qg (K:yf)(c:V):TE:=vA (t_ K) (d9 (dc 0) (d9 (tC c) kT))
def pd (K:yf)(a b c:Addr):TE:=oo (d9 (qg K (.ref a)) (d9 (qg K (.ref b)) (d9 (qg K (.ref c)) kT)))
structure wr where
 sc:Scope
 tg:Expr
 el:Expr
 tN:List Str
 cN:List Str
 cp:List Nat
 if1:List Expr
structure w_ (X:Cx) (S:wr):Prop where
 h:S.tN.length=1
 c:S.cp=[1]
 g:∀ cl C s3 H3 fp,PG (aM X S.sc (S.tN++S.cN) cl C s3 H3 fp) S.tg (c8 0)
 t:∀ cl C s3 H3 fp,p_ (aM X S.sc (S.tN++S.cN) cl C s3 H3 fp) S.if1 (tB (lL (oz X.K) (dc 1) (dc 0)))
 e:∀ cl C s3 H3 fp,PE (aM X S.sc (S.tN++S.cN) cl C s3 H3 fp) S.el (dc 0)
def wz (X:Cx)(S:wr)(c:Nat->Addr)(wc a C:Addr):TS:=
 jf (h9 (pd X.K (c 0) (c 1) (c 2)) (c8 1)) (jf (h9 (lL lU (dc 1) (pd X.K (c 3) (c 4) (c 5))) (c8 1)) (jf (h9 (lL lU (dc 1) (pd X.K (c 6) (c 7) (c 8))) (c8 1))
  (jf (h9 (lL lU (dc 1) (oo (d9 (qg X.K (.ref (c 9))) (d9 (qg X.K (.ref (c 10))) kT)))) (c8 1)) (jf (qJ (vo (og (tB (qg X.K (.ref wc)))) (og (tB (qg X.K (.ty "ValueError"))))) (qI (oo kT)) pV)
    (qI (im X S.sc S.tg S.tN S.cN S.cp S.el S.if1 fun _ H R=>R (vR a C 11) H))))))
theorem fC {a C:Addr}{y:V}{b:Bool}(hσ:σ[0]?=some (some (.ref a)))(hx:H a=some (.ext (ExP a C)))(z:bP K C)(hk:∀ u,RelV y u->PySem.W.kitOne K (.ref C) u=some b)(q:Q (.bl b) H):qg K y σ H Q:=⟨_,hσ,a,C,y,b,rfl,hx,z,hk,q⟩
theorem jD {a C:Addr}{j:Nat}(hσ:σ[0]?=some (some (.ref a)))(hx:H a=some (.ext (ExP a C)))(kn:i4 K c wc C j)(i:Nat)(hi:i+2<11)(q:∀ p,H p=none->Q (.ref p) (aX H p (.lst [.bl (decide (i=j)),.bl (decide (i+1=j)),.bl (decide (i+2=j))]))):pd K (c i) (c (i+1)) (c (i+2)) σ H Q:=fC hσ hx kn.z (fun u e=>by cases e;exact kn.k _ (by lia)) (fC hσ hx kn.z (fun u e=>by cases e;exact kn.k _ (by lia)) (fC hσ hx kn.z (fun u e=>by cases e;exact kn.k _ (by lia)) ⟨by rw[xt];show 3<=_;lia,q⟩))
theorem mI {p:Addr}{L M:List V}{tb:TE}(hσ:σ[1]?=some (some (.ref p)))(hL:H p=some (.lst L))(ht:∀ Q':VK,(∀ p2,H p2=none->Q' (.ref p2) (aX H p2 (.lst M)))->tb σ H Q')(hl:L.length+M.length<=20)(k:∀ p' H',Same H H'->H' p'=some (.lst (L++M))->Q (.ref p') H'):lL lU (dc 1) tb σ H Q:=⟨_,hσ,ht _ fun p2 h2=>⟨p,p2,L,M,rfl,rfl,aK h2 _ _ hL,aI,by rw[xt];lia,fun p3 h3=>k p3 _ ((aK h2).trans (aK h3)) aI⟩⟩
noncomputable def eb (j:Nat):List V:=[.bl (decide (0=j)),.bl (decide (1=j)),.bl (decide (2=j)),.bl (decide (3=j)),.bl (decide (4=j)),.bl (decide (5=j)),.bl (decide (6=j)),.bl (decide (7=j)),.bl (decide (8=j)),.bl (decide (9=j)),.bl (decide (10=j))]
theorem rG {i j:Nat}(h:i<11):(eb j)[i]?=some (.bl (decide (i=j))):=by
 have:i=0\/i=1\/i=2\/i=3\/i=4\/i=5\/i=6\/i=7\/i=8\/i=9\/i=10:=by lia
 rcases this with rfl|rfl|rfl|rfl|rfl|rfl|rfl|rfl|rfl|rfl|rfl<;>rfl
theorem pf {S:wr}(C0:w_ X S){a C:Addr}{j:Nat}(hx:H a=some (.ext (ExP a C)))(kn:i4 X.K c wc C j)(k:∀ p H',Same H H'->H p=none->H' p=some (.lst [.int j])->Q (.ref p) H') :
 wz X S c wc a C { nx:=fun _ H'=>Q .cH H',rt:=Q } (ci (nS 2) [.ref a]) H:=by
 delta wz jf h9
 refine jD (c:=c) (σ:=[some (.ref a),none]) rfl hx kn 0 (by lia) fun p1 h1=>?_;have s1:=aK (o:=.lst [.bl (decide (0=j)),.bl (decide (0+1=j)),.bl (decide (0+2=j))]) h1;have c1:aX H p1 (.lst [.bl (decide (0=j)),.bl (decide (0+1=j)),.bl (decide (0+2=j))]) p1=_:=aI;generalize aX H p1 _=H1 at s1 c1;refine mI (σ:=[some (.ref a),some (.ref p1)]) rfl c1 (fun Q' q=>jD (σ:=[some (.ref a),some (.ref p1)]) rfl (s1 _ _ hx) kn 3 (by lia) q) (by show 3+3<=20;lia) fun p2 H2 s2 c2=>?_;have s2:=s1.trans s2;refine mI (σ:=[some (.ref a),some (.ref p2)]) rfl c2 (fun Q' q=>jD (σ:=[some (.ref a),some (.ref p2)]) rfl (s2 _ _ hx) kn 6 (by lia) q) (by show 6+3<=20;lia) fun p3 H3 s3 c3=>?_;have s3:=s2.trans s3;refine mI (σ:=[some (.ref a),some (.ref p3)]) (M:=[.bl (decide (9=j)),.bl (decide (10=j))]) rfl c3 (fun Q' q=>fC (σ:=[some (.ref a),some (.ref p3)]) rfl (s3 _ _ hx) kn.z (fun u e=>by cases e;exact kn.k _ (by lia)) (fC (σ:=[some (.ref a),some (.ref p3)]) rfl (s3 _ _ hx) kn.z (fun u e=>by cases e;exact kn.k _ (by lia)) ⟨by rw[xt];show 2<=_;lia,q⟩)) (by show 9+2<=20;lia) fun p4 H4 s4 c4=>?_;have s4:=s3.trans s4;have c4:H4 p4=some (.lst (eb j)):=c4;have hx4:=s4 _ _ hx
 delta qJ vo og tB
 refine fC (y:=.ref wc) (b:=true) (σ:=[some (.ref a),some (.ref p4)]) rfl hx4 kn.z (fun u e=>by cases e;exact kn.w) ⟨true,rfl,jq ?_⟩;refine fC (y:=.ty "ValueError") (b:=true) (σ:=[some (.ref a),some (.ref p4)]) rfl hx4 kn.z (fun u e=>by cases e;exact kn.v) ⟨true,rfl,jq ?_⟩;refine wR (n:=11) C0.g C0.t C0.e (fun Dl i acc H'=>Same H4 H'/\H' Dl=some (.lst acc)/\acc=(if j<i then [.int j] else [])/\H4 Dl=none) (fun Dl hD=>⟨aK hD,aI,by simp,hD⟩) (fun h=>h.2.1) (fun Dl i acc H' _ hi=>hi) (fun Dl acc H' ⟨sm,_⟩=>⟨bD _,sm _ _ hx4⟩) (fun Dl i acc H' xv H'' ol hi ⟨sm,hD,ea,nD⟩ y hol=>?_) fun Dl acc H' nD ⟨sm,hD,ea,_⟩=>?_
 .obtain⟨rfl,rfl⟩:=y;rw[C0.h]at hol;obtain⟨u0,rfl⟩:=List.length_eq_one_iff.mp hol;rw[C0.c];refine⟨fun i hi=>?_,_,rfl,_,rfl,p4,_,i,.bl (decide (i=j)),rfl,rfl,SqL.of (sm _ _ c4),?_,_,rfl,?_⟩
  .rw[C0.h]at hi;obtain⟨i,rfl⟩:=Nat.exists_eq_add_of_le' hi;rfl
  .exact oy (rG hi)
  .by_cases e:i=j
   .subst e;rw[gJ rfl];refine lV ⟨_,rfl,hD,vT (by rw[ea];split<;>simp),fun b o e=>by rw[aA (aH e nD)];exact sm _ _ e,aI,?_,nD⟩;rw[ea,fR (xn _),da (Nat.lt_succ_self _)];rfl
   .rw[xl e];refine jq ⟨sm,hD,?_,nD⟩;rw[ea];by_cases h:j<i
    .rw[da h,da (by lia)]
    .rw[fR h,fR (by lia)]
 .rw[da kn.l]at ea;subst ea;have:H Dl=none:=by
   cases q:H Dl with
   |none=>rfl
   |some o=>rw[s4 _ _ q]at nD;cases nD
  exact k Dl H' (s4.trans sm) this hD
end
end L4
namespace L2
open PySem PySem.Spec PySem.Calls PyProof.Rows
section
variable {X:Cx}{aa:List (Addr×Obj)}{σ:St}{H:Hp}{s:ye}{x C:Addr}
theorem Inv.u6 (I:Inv X aa σ H s)(e:ExP x C s.heap)(n:H x=none)(new:X.s₀.heap.get? x=none)(nl:x≠X.env.locals)(np:∀ p∈X.pn++aa,p.1≠x)(nc:∀ y c,X.env.cells.lookup y=some c->c≠x):Inv X aa σ (aX H x (.ext (ExP x C))) s:=
 ⟨I.ok,I.os,I.bare,⟨I.base.keep,I.base.slot,fun b o q z hx=>by rw[aA (fun z=>by rw[z,new]at q;cases q)];exact I.base.free b o q z hx,I.base.there,fun b xs q=>by have:=I.base.cE b xs q;rw[aA (aH this n)];exact this,
   fun b o u q=>by have:=I.base.c7 b o u q;rw[aA (aH this n)];exact this,fun b ps q=>by obtain⟨m,this⟩:=I.base.dH b ps q;exact⟨m,by rw[aA (aH this n)];exact this⟩⟩,
   I.loc,I.cell,by rw[aA (xg nl)];exact I.free,fun y c q=>by rw[aA (nc y c q)];exact I.bS y c q,fun p hp=>by obtain⟨a1,a2,a3⟩:=I.pin p hp;exact⟨a1,by rw[aA (np p hp)];exact a2,a3⟩,I.bc.kI (fun _ _ z=>z) n (ExP.ok e),I.len⟩
end
def ua (X:Cx)(e:Expr)(t:TX):Prop:=∀(aa:List (Addr×Obj))(s:ye)(σ:St)(H:Hp)(Q:VK)(EX:XK),Inv X aa σ H s->t σ H Q EX->
 wpAny (model X.prog X.w) X.A (eval e X.env) (EP X aa σ Q) (fun ev s'=>∃ H1 s1,Inv X aa σ H1 s1/\f6 X.prog X.w X.stack H1 s1 EX ev s') s
section
variable {X:Cx}{k:Nat}{f:Addr}{fd:FuncData}{ps:List Str}{sp:Sp}{dvs:List V}{ds:List yh}{x:Str}{p pos:Pos}{e:Expr}{es:List Expr}{t:TA}
theorem lj (F:bC X.prog X.w X.K X.mg X.base (f6 X.prog X.w) k f fd ps sp)(hr:bJ k X.A)(hg:Gl X x)(hm:X.mg x=some (.ref f))(hk:PySem.W.keepIn X.K (.ref f)=true)(hb:Binds X.K fd ps ds)(hd:Vals dvs ds)(ha:PA X.wF (e::es) t)
 (hdb:autoParam (dB x) yj._auto_1) (he:autoParam (sE X e es) yp._auto_1) (hpl:autoParam (bT X pos es) yp._auto_1) :
 ua X (.Call (.Name x p) (e::es) [] pos) (fun σ H Q EX=>t σ H fun vs H1=>sp (vs++dvs) H1 Q EX):=by
 intro aa s σ H Q EX I h;refine nX (cg I hg hm ?_ hdb);refine x8 (h₀:=X.base) I.ok.mod.qw hk (fO (ha pos aa s σ H _ (I.hI _) h) (fun us s1 ⟨vs,H1,I1,r,q⟩=>⟨I1.kD,?_⟩) fun _ _ z=>False.elim z) he hpl;have J:Inv X aa σ H1 s1:=I1.jO;have r2:Vals (vs++dvs) (us++ds):=r.append hd;have hl:(us++ds).length=ps.length:=by rw[<- r2.length];exact F.len _ _ _ _ q
 refine wpAny_call (x6 (F.run X.A X.stack s1 H1 ⟨us,[]⟩ (us++ds) (vs++dvs) Q EX hr J.s_ (hb s1 us J.kD hl) r2 q) fun r s' hq=>?_);cases r with
 |error ev=>exact⟨H1,s1,J,hq⟩
 |ok fl=>
  cases fl with
  |ret u=>exact J.after hq
  |next=>exact False.elim hq
  |brk=>exact False.elim hq
  |cont=>exact False.elim hq
end
def mJ (X:Cx) (Ch:Addr) (i:Nat) (ts:Addr->Addr->TS) (D:Ends) (σ:St):XK:=fun cls _ H1=>∃ C,cls=.ref C/\PySem.W.excIn X.K C cO "ValueError.__new__"=true/\(f9 X.K C).contains (.ref Ch)=true/\
 ∀ x,H1 x=none->ts C x { nx:=fun σ' H'=>D.nx (σ'.set i none) H',rt:=fun _ _=>False,bk:=fun _ _=>False,ct:=fun _ _=>False } (σ.set i (some (.ref x))) (aX H1 x (.ext (ExP x C)))
section
variable {X:Cx}{hc:Str}{Ch:Addr}{np hpos pos epos:Pos}{b₀:Stmt}{suite:List Stmt}{ts:Addr->Addr->TS}{te:TX}{e:Expr}{i:Nat}{n:Str}
theorem ub {aa:List (Addr×Obj)}{σ:St}{D:Ends}{ev:yh}{s':ye}(hN:X.N.Nodup)(hi:X.N[i]?=some n)(hk:X.env.scope.names.lookup n=some .local)(hst:X.stack=X.env::X.outer)(hf:X.env.frame=some X.env.locals)(hx:XC X.K X.mg hc Ch)(hg:Gl X hc)(hex0:X.ex=[])
 (hs:∀ C x,lB (X.caught x) (b₀::suite) (ts C x))
 (h:∃ H1 s1,Inv X aa σ H1 s1/\f6 X.prog X.w X.stack H1 s1 (mJ X Ch i ts D σ) ev s') (hdb:autoParam (dB hc) yj._auto_1) :
 wX X (noteFrame ev X.env) (fun _ s2=>wX X (setFlight ev none) (fun _ s3=>wX X (handleBy ev X.env [.ExceptHandler (some (.Name hc np)) (some n) (b₀::suite) hpos]) (SP X aa D) X.xe s3) X.xe s2) X.xe s':=by
 obtain⟨H1,s1,I1,x,C,t,B,H',rfl,os,bare,un,bc,fly,hW,unt,inB,hxn,⟨C0,ec,hex,hmr,q⟩,c2⟩:=h;cases ec;have fly':Heap.FlyingW B (X.env::X.outer) x (.ref C) (.ref t) s'.heap:=hst▸fly;have fr:X.A.frames=some (X.env::X.outer):=hst▸I1.ok.frames;refine mE fr hf fly' c2 fun h4 held c4 up4=>?_;obtain⟨y1,y2,y3,y4⟩:=held;refine g7 (s:={ s' with heap:=h4 }) y1 y2 y3 y4 c4 fun h5 fly5 c5 up5=>?_;have up45:=up4.trans up5;have I5:Inv X aa σ H' { s' with heap:=h5 }:=I1.landed (l:=[]) (g6:=#[]) os bare un bc fly hW unt inB fly5.1 up45;obtain⟨bm,em,hC⟩:=du I5.kD hex;obtain⟨bm',em',hC'⟩:=du I5.kD hx.ex;obtain⟨oe,he,hcls⟩:=fly5.there;refine wpAny_handleBy_cons (codeAny_handlers_test (cg (X:=X.caught x) (I5.caught x) hg hx.gl ?_ hdb)) (by intro z;cases z);refine f_ hC hC' he hcls ?_;rw[em]at hmr;rw[hmr];refine codeAny_handlers_suite_as ?_;obtain⟨z1,z2,z3,z4⟩:=fly5;refine g7 (s:={ s' with heap:=h5 }) z1 z2 z3 z4.at c5 fun h6 fly6 c6 up6=>?_;have I6:Inv X aa σ H' { s' with heap:=h6 }:=I1.landed (l:=[]) (g6:=#[]) os bare un bc fly hW unt inB fly6.1 (up45.trans up6);obtain⟨oe6,vs6,T6,oT6,ts6,he6,⟨hcl6,_⟩,hd6,_⟩:=fly6.2.2.2;obtain⟨oc,vc,e1,e2,e3⟩:=c6;obtain rfl:oe6=oc:=jP (he6.symm.trans e1);have nfr:x∉(X.env::X.outer).filterMap (·.frame):=fun hm=>by obtain⟨_,o,ho,hnf⟩:=fly6.2.2.1.mem hm;rw[he6]at ho;cases ho;exact hnf vs6 hd6
 have nl:x≠X.env.locals:=fun z=>nfr (x5.mpr ⟨X.env,xD ..,by rw[hf,z]⟩);have n1:s1.heap.get? x=none:=by
  cases q1:s1.heap.get? x with
  |none=>rfl
  |some o=>obtain⟨o',e'⟩:=inB x o q1 (by rw[hst];exact nfr);rw[fly.2.1]at e';cases e'
 have n0:X.s₀.heap.get? x=none:=by
  cases q1:X.s₀.heap.get? x with
  |none=>rfl
  |some o=>obtain⟨o',e'⟩:=I1.base.there x o q1 (by rw[hex0];simp);rw[n1]at e';cases e'
 have I7:Inv (X.caught x) aa σ (aX H' x (.ext (ExP x C))) { s' with heap:=h6 }:=(I6.caught x).u6 ⟨oe6,vc,he6,hcl6,e2,e3⟩ hxn n0 nl (fun p hp z=>by
  have:=(I1.pin p hp).1;rw[z,n1]at this;cases this) fun y c e z=>by
   obtain⟨v,hc⟩:=I1.cell y c e;have:=bo he6;rw[z]at hc;obtain⟨o,ho⟩ : ∃ o,s1.heap.get? x=some o:=by obtain⟨o,h1,_⟩:=hc;exact⟨_,h1⟩
   rw[n1]at ho;cases ho
 refine dt (X:=X.caught x) (v:=.ref x) I7 hN hi (.inl hk) rfl (fun s8 I8=>?_) (.inr hk);refine fO (hs C x aa _ _ _ _ I8 (q x hxn)) (fun f s7 h7=>?_) fun _ _ z=>False.elim z;cases f with
 |next=>obtain⟨σ',H2,J,q2⟩:=h7;exact o8 (J.uncaught I6.ok) hN hi hk fun s9 J9=>⟨_,H2,J9,q2⟩
 |brk=>obtain⟨_,_,_,z⟩:=h7;exact z.elim
 |cont=>obtain⟨_,_,_,z⟩:=h7;exact z.elim
 |ret u=>obtain⟨_,_,_,_,_,z⟩:=h7;exact z.elim
theorem ph {j:Nat}{y:Str}{py:Pos}(hN:X.N.Nodup)(hj:X.N[j]?=some y)(hy:n_ X.env.scope y)(hi:X.N[i]?=some n)(hk:X.env.scope.names.lookup n=some .local)(hst:X.stack=X.env::X.outer)(hf:X.env.frame=some X.env.locals)(hx:XC X.K X.mg hc Ch)(hg:Gl X hc)(hex0:X.ex=[])(he:ua X e te)
 (hs:∀ C x,lB (X.caught x) (b₀::suite) (ts C x))
 (hsw:autoParam (swapsWith e (some (.Name y py)) epos.line X.env=pure false) yp._auto_1) (hdb:autoParam (dB hc) yj._auto_1) (hfn:autoParam (X.fn y=true\/X.env.scope.names.lookup y=some .local) yk._auto_1) :
 PS X (.Try [.Assign [.Name y py] e epos] [.ExceptHandler (some (.Name hc np)) (some n) (b₀::suite) hpos] [] [] pos) (fun D σ H=>te σ H (fun v H1=>D.nx (σ.set j (some v)) H1) (mJ X Ch i ts D σ)):=by
 intro aa s σ H D I h;refine wpAny_Try_except ?_;refine wpAny_execs_cons (wpAny_Assign_Name (fO (he aa s σ H _ _ I h) (fun v s1 ⟨z,H1,I1,r1,q1⟩=>?_) fun ev s' z=>?_) hsw)
 .exact dt I1 hN hj hy r1 (fun s2 I2=>xE (xE ⟨_,H1,I2,q1⟩)) hfn
 .exact ub hN hi hk hst hf hx hg hex0 hs z hdb
end
end L2
namespace L4
open PySem PySem.Spec PyProof.Rows L2 L3
def kf (K:yf)(mg:Str->Option yh)(cc:Nat->Addr)(wc:Addr)(c:Str)(C:Addr)(j:Nat):Prop:=XC K mg c C/\i4 K cc wc C j
theorem i4.of {K:yf} {cs:List Addr} {wc C:Addr} {j:Nat} {bs:List (Option Bool)} (z:bP K C) (h:cs.map (fun c=>PySem.W.kitOne K (.ref C) (.ref c))=bs) (hw:PySem.W.kitOne K (.ref C) (.ref wc)=some true) (hv:PySem.W.kitOne K (.ref C) (.type "ValueError")=some true)
 (hb:j<11/\bs=(List.range 11).map fun i=>some (decide (i=j))):i4 K (fun i=>cs.getD i 0) wc C j:=by
 obtain⟨hj,rfl⟩:=hb;refine⟨z,fun i hi=>?_,hw,hv,hj⟩;have l:cs.length=11:=by have:=congrArg List.length h;simpa using this
 have e:=congrArg (·[i]?) h;rw[xf,xf,List.getElem?_range hi,List.getElem?_eq_getElem (by lia)]at e;have g:cs.getD i 0=cs[i]'(by lia):=by rw[List.getD_eq_getElem?_getD,List.getElem?_eq_getElem (by lia)];rfl
 rw[g];exact jP e
theorem wA {H:Hp}{M:Addr->Prop}{j:Int}:IsAll H M [.int j] [.int j]:=⟨_,_,rfl,rfl,rfl⟩
section
variable {X:Cx}{E:XK}{CX:jb}{cc:Nat->Addr}{wc C:Addr}{j k2:Nat}{f2:Addr}{fd2:FuncData}{x2 c:Str}{ps2:List Str}{a b d p2 p4:Pos}{u:Str}{m:Nat}
theorem bh (U:iL X.prog X.w X.K X.mg X.base CX k2 f2 fd2 ps2 (nP X.K cc wc))(hr:bJ k2 X.A)(hg:Gl X x2)(hm:X.mg x2=some (.ref f2))(hk:PySem.W.keepIn X.K (.ref f2)=true)(hb:Binds X.K fd2 ps2 [])(hx:cn CX X E)(kn:kf X.K X.mg cc wc c C j)(hgc:Gl X c)
 (hd:autoParam (dB c) yj._auto_1) (hdb:autoParam (dB x2) yj._auto_1) :
 PD X E (.Call (.Name x2 p2) [.Call (.Name c a) [.Constant (.str u) m b] [] d] [] p4) (fun _=>.ok (.new [.int j] true)):=by
 refine⟨_,iz (R:=fun _=>True) (E:=E) U (fun _ _=>hr.wn) hg hm hk hb hx (rD kn.1 hgc (au lI aQ) hd) hdb,fun g M ρ env σ H Q rep p=>?_⟩;refine⟨by rw[xt];show 1<=_;lia,fun x hx=>⟨x,rfl,trivial,.mk aI kn.2 fun q H' s n h=>?_⟩⟩;have s0:Same H H':=(aK hx).trans s;have n0:H q=none:=by
  cases z:H q with
  |none=>rfl
  |some o=>rw[aK hx _ _ z]at n;cases n
 obtain⟨h0,hm,ho⟩:=rep.free n0;exact p (.ref q) M H' ⟨fun _ z=>z,s0,fun _ z=>.inl z⟩ (rep.grow s0) ⟨q,_,rfl,h,hm,n0,ho,wA⟩
end
def gq (j i m jj:Nat)(cs:List Str)(rs:List R)(env:En):Res R->Res Fl
 | .ok r=>if j<env.length then .ok (.nx (put env j (c9 rs r))) else .stuck
 | .exc c=>if cs.contains c then (match env[i]? with|some none=>(if m<env.length then .ok (.nx (put env m (.new [.int jj] true))) else .stuck)|_=>.stuck) else .stuck
 | .stuck=>.stuck
def kg (j i m jj:Nat)(F:List D->Res R)(fs:En->Res (List R))(cs:List Str):En->Res Fl:=fun env=>(fs env).vh.bind fun rs=>gq j i m jj cs rs env (F (rs.map R.d))
section
variable {X:Cx}{E:XK}{cc:Nat->Addr}{wc:Addr}{j i m jj k k2:Nat}{f f2:Addr}{fd fd2:FuncData}{x x2 y n z hc:Str}{ps ps2:List Str}{Ch:Addr}{cs:List Str}{F:List D->Res R}{fs:En->Res (List R)}{e:Expr}{es:List Expr}
 {py pz np hpos pos epos p cpos p2 p3 p4 p5:Pos}
theorem mK (hN:X.N.Nodup)(hj:X.N[j]?=some y)(hy:n_ X.env.scope y)(hi:X.N[i]?=some n)(hk:X.env.scope.names.lookup n=some .local)(hm':X.N[m]?=some z)(hz:n_ X.env.scope z)(hne:m≠i)
 (hst:X.stack=X.env::X.outer) (hf:X.env.frame=some X.env.locals) (hx:XC X.K X.mg hc Ch) (hgh:Gl X hc) (hex0:X.ex=[]) (kn:∀ c∈cs,∃ C,kf X.K X.mg cc wc c C jj/\(f9 X.K C).contains (.ref Ch)=true)
 (G:bC X.prog X.w X.K X.mg X.base (f6 X.prog X.w) k f fd ps (jc X.mg ps.length F)) (hr:bJ k X.A) (hg:Gl X x) (hm:X.mg x=some (.ref f)) (hkf:PySem.W.keepIn X.K (.ref f)=true) (hb:Binds X.K fd ps [])
 (U:iL X.prog X.w X.K X.mg X.base (f6 X.prog X.w) k2 f2 fd2 ps2 (nP X.K cc wc)) (hr2:bJ k2 X.A) (hg2:Gl X x2) (hm2:X.mg x2=some (.ref f2)) (hk2:PySem.W.keepIn X.K (.ref f2)=true) (hb2:Binds X.K fd2 ps2 [])
 (ha:lC X.wF E0 (e::es) fs) (hl:∀ env rs,fs env=.ok rs->rs.length=ps.length)
 (hsw:autoParam (swapsWith (.Call (.Name x p) (e::es) [] cpos) (some (.Name y py)) epos.line X.env=pure false) yp._auto_1) (hsw2:autoParam (swapsWith (.Call (.Name x2 p2) [.Name n p3] [] p4) (some (.Name z pz)) p5.line X.env=pure false) yp._auto_1)
 (hdb:autoParam (dB hc) yj._auto_1) (hdn:autoParam (dB n) yj._auto_1) (hcn:autoParam ((n==("__classdict__" : Str))=false) yj._auto_1)
 (hdb2:autoParam (dB x) yj._auto_1) (hdb3:autoParam (dB x2) yj._auto_1) (he:autoParam (sE X e es) yp._auto_1) (hpl:autoParam (bT X cpos es) yp._auto_1)
 (hfn:autoParam (X.fn y=true\/X.env.scope.names.lookup y=some .local) yk._auto_1) (hfz:autoParam (X.fn z=true\/X.env.scope.names.lookup z=some .local) yk._auto_1) :
 n4 X E (.Try [.Assign [.Name y py] (.Call (.Name x p) (e::es) [] cpos) epos] [.ExceptHandler (some (.Name hc np)) (some n) [.Assign [.Name z pz] (.Call (.Name x2 p2) [.Name n p3] [] p4) p5] hpos] [] [] pos) (kg j i m jj F fs cs):=by
 obtain⟨ta,q1,sn1⟩:=ha;refine⟨_,ph hN hj hy hi hk hst hf hx hgh hex0 (lj (dvs:=[]) (ds:=[]) G hr hg hm hkf hb .nil q1 hdb2 he hpl) (fun C x=>eQ (dL (X:=X.caught x) hN hm' hz (iz (X:=X.caught x) (E:=E0) (R:=fun a=>a=x) U (fun a e=>by subst e;exact⟨.inr rfl,hr2.dp,hr2.un⟩) hg2 hm2 hk2 hb2 mF (lG hi (.inl hk) hdn hcn) hdb3) hsw2 hfz)) hsw hdb hfn,fun g M ρ env σ H D rep p=>?_⟩;refine sn1 g M ρ env σ H _ rep ?_;unfold kg at p;cases q:fs env with
 |stuck=>rw[q]at p;exact p.elim
 |exc c'=>rw[q]at p;exact p.elim
 |ok rs=>
  rw[q]at p;have p:PostS X.mg E g M H D (gq j i m jj cs rs env (F (rs.map R.d))):=p;intro vs M1 H1 e1 rep1 is;rw[xm];refine⟨by rw[is.length,eB];exact hl env rs q,rs.map R.d,_,is,?_⟩;cases qF:F (rs.map R.d) with
  |stuck=>rw[qF]at p;exact p
  |ok r=>
   rw[qF]at p;unfold gq at p;dsimp only at p;intro v H2 s2 ro;by_cases hil:j<env.length
   .rw[da hil]at p;obtain⟨M3,e3,rep3,ro3⟩:=RetOk.caller rs rep1 s2 ro;obtain⟨M4,ρ4,f4,rep4⟩:=rep3.store rep1.same hil ro3;exact p _ M4 ρ4 H2 ((e1.bF.trans e3.bF).trans f4) rep4
   .rw[fR hil]at p;exact p.elim
  |exc c=>
   rw[qF]at p;unfold gq at p;dsimp only at p;intro cls dx H' hmc s;by_cases hcs:cs.contains c=true
   .rw[da hcs]at p;obtain⟨C,⟨hX,kc⟩,hmr⟩:=kn c (List.contains_iff_mem.mp hcs);have ee:=hX.gl;rw[hmc]at ee;cases ee;split at p
    .rename_i hei;split at p
     .rename_i hil;refine⟨C,rfl,hX.ex,hmr,fun xx hxn=>⟨.ref xx,?_,xx,rfl,rfl,.mk aI kc fun q H2 s2 nq hq=>?_⟩⟩
      .rw[b4];rw[<- rep1.len];exact(b0.mp hei).1
      .have sA:Same H1 H2:=(s.trans (aK hxn)).trans s2;have n0:H1 q=none:=by
        cases zz:H1 q with
        |none=>rfl
        |some o=>rw[(s.trans (aK hxn)) _ _ zz]at nq;cases nq
       obtain⟨h0,hm3,ho⟩:=rep1.free n0;have r2:=(rep1.grow sA).forget (v:=some (.ref xx)) hei;obtain⟨M4,ρ4,f4,rep4⟩:=r2.store (i:=m) (r:=.new [.int jj] true) (v:=.ref q) rep1.same hil ⟨q,_,rfl,hq,hm3,n0,ho,wA⟩;refine p _ M4 ρ4 _ ((e1.bF.trans ⟨fun _ z=>z,fun a o e _=>sA a o e⟩).trans f4) (rep4.forget ?_);show(List.set env m _)[i]?=_;rw[cG hne];exact hei
     .exact p.elim
    .exact p.elim
   .rw[fR hcs]at p;exact p.elim
end
end L4
namespace L3
open PySem L2
section
variable {env bR:En}{i j:Nat}{d:D}{ds:List D}{f g:Bool}{al bl:List Nat}{x y:Int}
noncomputable def kS (k:En->Res Fl):Fl->Res Fl
 | .nx bR=>k bR
 |r=>.ok r
theorem uc (f k:En->Res Fl)(env:En):bW f k env=(f env).bind (kS k):=by rfl
theorem vU (k:En->Res Fl)(e:En):kS k (.nx e)=k e:=(rfl)
theorem vV (k:En->Res Fl)(r:R):kS k (.rt r)=.ok (.rt r):=(rfl)
noncomputable def vW (a b:En->Res Fl)(env:En)(k:Bool):Res Fl:=if k then a env else b env
theorem vX (c:En->Res Bool)(a b:En->Res Fl)(env:En):rn c a b env=(c env).bind (vW a b env):=(rfl)
theorem ud (a b:En->Res Fl)(env:En):vW a b env true=a env:=(rfl)
theorem ue (a b:En->Res Fl)(env:En):vW a b env false=b env:=(rfl)
theorem uf (env:En):jx env=.ok (.nx env):=(rfl)
def ug (r:R):Res Fl:=.ok (.rt r)
theorem uh (a:En->Res R)(env:En):dy a env=(a env).bind ug:=(rfl)
theorem rH (r:R):ug r=.ok (.rt r):=(rfl)
def ui (i:Nat)(env:En)(r:R):Res Fl:=if i<env.length then .ok (.nx (put env i r)) else .stuck
theorem uj (i:Nat)(a:En->Res R)(env:En):cJ i a env=(a env).bind (ui i env):=(rfl)
theorem rJ (r:R)(h:i<env.length):ui i env r=.ok (.nx (put env i r)):=da h
theorem rK:put env i (.val d f [])=env.set i (some (.val d f)):=(rfl)
theorem rL:put env i (.new ds f)=env.set i (some (.own ds f)):=(rfl)
theorem rM:put env i (.gF d)=env.set i (some (.gG d)):=(rfl)
def uk (i:Nat):Option (Option Sl)->Res R
 |some (some (.val d fr))=>.ok (eh d fr [])
 |some (some (.own ds fr))=>.ok (.val (.lst ds) fr [i])
 |some (some (.gG d))=>.ok (.val d true [i])
 |_=>.stuck
theorem ul (i:Nat)(env:En):aL i env=uk i env[i]?:=by unfold aL uk;rfl
theorem um:uk i (some (some (.val d f)))=.ok (eh d f []):=(rfl)
theorem uq:uk i (some (some (.own ds f)))=.ok (.val (.lst ds) f [i]):=(rfl)
theorem ur:uk i (some (some (.gG d)))=.ok (.val d true [i]):=(rfl)
theorem wU (d:D)(env:En):vC d env=.ok (.val d true []):=(rfl)
theorem rN (h:d.flat=true):eh d f al=.val d true []:=by unfold eh;rw[da h]
theorem rO (h:d.flat=false):eh d f al=.val d f al:=by unfold eh;rw[fR (by rw[h];simp)]
theorem jE (h:D.bO ds=true):eR ds f al=.new ds true:=by unfold eR;rw[da h]
theorem pj:eR ds true []=.new ds true:=by unfold eR;split<;>rfl
def wB (op:R->R->Res R)(fb:En->Res R)(env:En)(ra:R):Res R:=(fb env).bind (op ra)
theorem vY (op:R->R->Res R)(fa fb:En->Res R)(env:En):v2 op fa fb env=(fa env).bind (wB op fb env):=(rfl)
theorem ut (op:R->R->Res R)(fb:En->Res R)(env:En)(ra:R):wB op fb env ra=(fb env).bind (op ra):=(rfl)
theorem uu:fg (.val (.int x) f al) (.val (.int y) g bl)=.ok (.val (.int (x+y)) true []):=(rfl)
theorem uv:oH (.val (.int x) f al) (.val (.int y) g bl)=.ok (.val (.int (x-y)) true []):=(rfl)
theorem rP (h1:-18446744073709551616<y)(h2:y<18446744073709551616):oJ (.val (.int x) f al) (.val (.int y) g bl)=.ok (.val (.int (x*y)) true []):=by
 have:ma x y=true:=by unfold ma;rw[xZ,db,db];exact .inr ⟨gJ (by lia),gJ (by lia)⟩
 show(if ma x y=true then _ else _)=_;rw[da this]
theorem uw (h:0<y):ie (.val (.int x) f al) (.val (.int y) g bl)=.ok (.val (.int (x % y)) true []):=by show(if decide (0<y)=true then _ else _)=_;rw[da (gJ h)]
theorem ux (h:0<y)(h2:y<1073741824):re (.val (.int x) f al) (.val (.int y) g bl)=.ok (.val (.int (x / y)) true []):=by show(if (decide (0<y)&&decide (y<1073741824))=true then _ else _)=_;rw[da (by rw[gJ h,gJ h2];rfl)]
theorem vZ:va (.val (.int x) f al) (.val (.int y) g bl)=.ok (.val (.bl (decide (x<y))) true []):=(rfl)
theorem v0:vJ (.val (.int x) f al) (.val (.int y) g bl)=.ok (.val (.bl (decide (y<=x))) true []):=(rfl)
theorem v1 (h:a.d.dep<=50)(h2:b.d.dep<=50):lD a b=.ok (.val (.bl (dq a.d b.d)) true []):=by unfold lD;rw[da ⟨h,h2⟩]
theorem v3 (h:a.d.dep<=50)(h2:b.d.dep<=50):rg a b=.ok (.val (.bl (!dq a.d b.d)) true []):=by unfold rg;rw[da ⟨h,h2⟩]
def qh (fs:En->Res (List R))(env:En)(r:R):Res (List R):=(fs env).bind (fun rs=>.ok (r::rs))
def mL (r:R)(rs:List R):Res (List R):=.ok (r::rs)
theorem rQ (env:En):aV env=.ok []:=(rfl)
theorem pk (a:En->Res R)(fs:En->Res (List R))(env:En):ay a fs env=(a env).bind (qh fs env):=(rfl)
theorem po (fs:En->Res (List R))(env:En)(r:R):qh fs env r=(fs env).bind (mL r):=(rfl)
theorem mM (r:R)(rs:List R):mL r rs=.ok (r::rs):=(rfl)
def uy (rs:List R):Res R:=if rs.length<=lim then .ok (eh (.tup (rs.map R.d)) (aW rs) (bu rs)) else .stuck
theorem uz (fs:En->Res (List R))(env:En):gW fs env=(fs env).bind uy:=(rfl)
theorem rR (rs:List R)(h:rs.length<=1000000):uy rs=.ok (eh (.tup (rs.map R.d)) (aW rs) (bu rs)):=da h
def uA (rs:List R):Res R:=if rs.length<=lim then .ok (eR (rs.map R.d) (aW rs) (bu rs)) else .stuck
theorem uB (fs:En->Res (List R))(env:En):dU fs env=(fs env).bind uA:=(rfl)
theorem rS (rs:List R)(h:rs.length<=1000000):uA rs=.ok (eR (rs.map R.d) (aW rs) (bu rs)):=da h
theorem mO:aW []=true:=(rfl)
theorem ll (r:R)(rs:List R):aW (r::rs)=(r.fr&&aW rs):=(rfl)
theorem mP:bu []=[]:=(rfl)
theorem lm (r:R)(rs:List R):bu (r::rs)=r.al++bu rs:=(rfl)
def qi (F:List D->Res R)(rs:List R):Res R:=(F (rs.map R.d)).bind (fun r=>.ok (c9 rs r))
def mQ (rs:List R)(r:R):Res R:=.ok (c9 rs r)
theorem rT (F:List D->Res R)(fs:En->Res (List R))(env:En):b6 F fs env=(fs env).bind (qi F):=(rfl)
theorem pp (F:List D->Res R)(rs:List R):qi F rs=(F (rs.map R.d)).bind (mQ rs):=(rfl)
theorem mR (rs:List R)(r:R):mQ rs r=.ok (c9 rs r):=(rfl)
theorem mS (rs:List R)(h:d.flat=true):c9 rs (.val d f al)=.val d true []:=da h
theorem mT (rs:List R)(h:d.flat=false):c9 rs (.val d true al)=.gF d:=by show tf d true rs=_;unfold tf;rw[fR (by rw[h];simp),da rfl]
theorem v4 (k:List R->Res R)(fs:En->Res (List R))(env:En):oQ k fs env=(fs env).bind k:=(rfl)
def rV:D->Res R
 | .lst ds=>.ok (.val (.int ds.length) true [])
 | .tup ds=>.ok (.val (.int ds.length) true [])
 | .str z=>if z.length<=lim then .ok (.val (.int z.length) true []) else .stuck
 |_=>.stuck
theorem uC (r:R):ju [r]=rV r.d:=by unfold ju rV;rfl
theorem rW:rV (.lst ds)=.ok (.val (.int ds.length) true []):=(rfl)
def mU (f:Bool)(al:List Nat):D->Res R
 | .lst ds=>.ok (eR ds f al)
 | .tup ds=>.ok (eR ds f al)
 |_=>.stuck
theorem rX (r:R):fj [r]=mU r.fr r.al r.d:=by unfold fj mU;rfl
theorem pq:mU f al (.lst ds)=.ok (eR ds f al):=(rfl)
def kB (ra:R):Res Bool:=match ra.d with
 | .bl b=>.ok b
 |_=>.stuck
theorem v5 (a:En->Res R)(env:En):vB a env=(a env).bind kB:=(rfl)
theorem v6 (b:Bool):kB (.val (.bl b) f al)=.ok b:=(rfl)
def uD (ra:R):Res Bool:=p8 ra.d
theorem rY (a:En->Res R)(env:En):oM a env=(a env).bind uD:=(rfl)
theorem rZ (b:Bool):uD (.val (.bl b) f al)=.ok b:=(rfl)
noncomputable def qj (b:Bool):Res Bool:=.ok (!b)
theorem r_ (a:En->Res Bool)(env:En):oN a env=(a env).bind qj:=(rfl)
theorem pr (b:Bool):qj b=.ok (!b):=(rfl)
noncomputable def sd (b:En->Res Bool)(env:En)(k:Bool):Res Bool:=if k then .ok true else b env
theorem uE (a b:En->Res Bool)(env:En):vM a b env=(a env).bind (sd b env):=(rfl)
theorem uF (b:En->Res Bool)(env:En):sd b env true=.ok true:=(rfl)
theorem uG (b:En->Res Bool)(env:En):sd b env false=b env:=(rfl)
def qk (b:En->Res R)(env:En)(ra:R):Res R:=match ra.d with
 | .bl true=>b env
 | .bl false=>.ok (.val (.bl false) true [])
 |_=>.stuck
theorem sf (a b:En->Res R)(env:En):oK a b env=(a env).bind (qk b env):=(rfl)
theorem pw (b:En->Res R)(env:En):qk b env (.val (.bl true) f al)=b env:=(rfl)
def ql (f:Bool)(al:List Nat):Option D->Res R
 |some d=>.ok (eh d f al)
 |none=>.stuck
def px (a b:D)(f:Bool)(al:List Nat):Res R:=match a,b with
 | .lst xs,.int i=>ql f al (cq xs i)
 | .tup xs,.int i=>ql f al (cq xs i)
 | .str z,.int i=>if z.length<=lim then (match cq z.cps.toList i with
  |some c=>.ok (.val (.str ⟨#[c]⟩) true [])
  |none=>.stuck) else .stuck
 |_,_=>.stuck
theorem v7 (a b:R):n3 a b=px a.d b.d a.fr a.al:=by unfold n3 px ql;rfl
theorem uH:px (.lst ds) (.int k) f al=ql f al (cq ds k):=(rfl)
theorem uI:px (.tup ds) (.int k) f al=ql f al (cq ds k):=(rfl)
theorem uJ:ql f al (some d)=.ok (eh d f al):=(rfl)
def pA (ds:List D)(fr:Bool)(rb:R):Res R:=match rb.d with
 | .int k=>match cq ds k with
  |some d=>.ok (eh d fr [])
  |none=>.stuck
 |_=>.stuck
def pB (i:Nat)(fb:En->Res R)(env:En):Option (Option Sl)->Res R
 |some (some (.own ds fr))=>(fb env).bind (pA ds fr)
 |_=>v2 n3 (aL i) fb env
theorem uK (i:Nat)(fb:En->Res R)(env:En):cA i fb env=pB i fb env env[i]?:=by unfold cA pB;rfl
theorem sh (fb:En->Res R):pB i fb env (some (some (.own ds f)))=(fb env).bind (pA ds f):=(rfl)
theorem sj (fb:En->Res R):pB i fb env (some (some (.val d f)))=v2 n3 (aL i) fb env:=(rfl)
theorem sk:pA ds f (.val (.int k) g al)=ql f [] (cq ds k):=by unfold pA ql;rfl
theorem wv {α:Type}(a:α)(l:List α):cq (a::l) 0=some a:=by unfold cq lS;rw[da (by lia),da (by simp)];rfl
theorem wV {α:Type}(a b:α)(l:List α):cq (a::b::l) 1=some b:=by unfold cq lS;rw[da (by lia),da (by simp;lia)];rfl
theorem wW {α:Type}(a b c:α)(l:List α):cq (a::b::c::l) 2=some c:=by unfold cq lS;rw[da (by lia),da (by simp;lia)];rfl
def uL (fl fh:En->Res (Option Int))(env:En)(r:R):Res R:=(fl env).bind fun lo=>(fh env).bind fun hi=>g4 r lo hi
def uM (fh:En->Res (Option Int))(env:En)(r:R)(lo:Option Int):Res R:=(fh env).bind fun hi=>g4 r lo hi
theorem pC (fa:En->Res R)(fl fh:En->Res (Option Int))(env:En):g5 fa fl fh env=(fa env).bind (uL fl fh env):=(rfl)
theorem so (fl fh:En->Res (Option Int))(env:En)(r:R):uL fl fh env r=(fl env).bind (uM fh env r):=(rfl)
theorem sq (fh:En->Res (Option Int))(env:En)(r:R)(lo:Option Int):uM fh env r lo=(fh env).bind (g4 r lo):=(rfl)
def kO (r:R):Res (Option Int):=match r.d with
 | .int i=>.ok (some i)
 |_=>.stuck
theorem pD (env:En):kb env=.ok none:=(rfl)
theorem pE (a:En->Res R)(env:En):kd a env=(a env).bind kO:=(rfl)
theorem v8:kO (.val (.int x) f al)=.ok (some x):=(rfl)
def sr (f:Bool)(al:List Nat)(lo hi:Option Int):D->Res R
 | .lst xs=>.ok (eR (cK xs lo hi) f al)
 | .tup xs=>.ok (eh (.tup (cK xs lo hi)) f al)
 |_=>.stuck
theorem uN (r:R)(lo hi:Option Int):g4 r lo hi=sr r.fr r.al lo hi r.d:=by unfold g4 sr;rfl
theorem ss (lo hi:Option Int):sr f al lo hi (.lst ds)=.ok (eR (cK ds lo hi) f al):=(rfl)
def uO (asg:D->Bool->En->Option En)(body:En->Res Fl)(env:En)(s:Src):Res Fl:=cU asg s.fr body s.xs (bF env s.al)
theorem uP (src:En->Res Src)(asg:D->Bool->En->Option En)(body:En->Res Fl)(env:En):oW src asg body env=(src env).bind (uO asg body env):=(rfl)
theorem su (asg:D->Bool->En->Option En)(body:En->Res Fl)(env:En)(xs:List D):uO asg body env ⟨xs,f,al⟩=cU asg f body xs (bF env al):=(rfl)
def sv (r:R):Res Src:=match r.d with
 | .lst ds=>.ok ⟨ds,r.fr,r.al⟩
 | .tup ds=>.ok ⟨ds,r.fr,r.al⟩
 |_=>.stuck
theorem sw (a:En->Res R)(env:En):oV a env=(a env).bind sv:=(rfl)
theorem mV:sv (.val (.lst ds) f al)=.ok ⟨ds,f,al⟩:=(rfl)
theorem pF:sv (.new ds f)=.ok ⟨ds,f,[]⟩:=(rfl)
def wC (rs:List R):Res Src:=match rs.map R.d with
 | [.int j]=>if cR j then .ok ⟨cT 0 j.toNat,true,[]⟩ else .stuck
 |_=>.stuck
theorem uQ (fs:En->Res (List R))(env:En):vb fs env=(fs env).bind wC:=(rfl)
theorem uR (h1:-4611686018427387904<=x)(h2:x<4611686018427387904):cR x=true:=by unfold cR;rw[db];exact⟨gJ (by lia),gJ (by lia)⟩
theorem uS (h1:-4611686018427387904<=x)(h2:x<4611686018427387904):wC [.val (.int x) f al]=.ok ⟨cT 0 x.toNat,true,[]⟩:=da (uR h1 h2)
theorem sx:bF env []=env:=(rfl)
def iA (n:Nat)(caps:List Nat)(asg:D->Bool->En->Option En)(test:En->Res Bool)(elt:En->Res R)(env:En)(s:Src):Res R:=if s.xs.length<=lim then
 (cv (fun d=>asg d s.fr (dg env n caps)) test elt s.xs).vh.bind fun rs=>.ok (eR (rs.map R.d) (aW rs) (s.al++caps.filter (cj env))) else .stuck
theorem sy (n:Nat)(caps:List Nat)(src:En->Res Src)(asg:D->Bool->En->Option En)(test:En->Res Bool)(elt:En->Res R)(env:En) :
 en n caps src asg test elt env=(src env).bind (iA n caps asg test elt env):=(rfl)
theorem kh (hl:xs.length<=1000000)
 (h:cv (fun d=>asg d f (dg env n caps)) test elt xs=.ok rs):iA n caps asg test elt env ⟨xs,f,al⟩=.ok (eR (rs.map R.d) (aW rs) (al++caps.filter (cj env))):=by
 unfold iA;dsimp only;rw[da (show xs.length<=lim from hl),h];rfl
theorem dX {α:Type}{mk:D->Option En}{test:En->Res Bool}{elt:En->Res R}(g:α->D)(k:α->R):∀(xs:List α),(∀ a∈xs,∃ e,mk (g a)=some e/\test e=.ok true/\elt e=.ok (k a))->cv mk test elt (xs.map g)=.ok (xs.map k)
 | [],_=>rfl
 |a::r,h=>by obtain⟨e,h1,h2,h3⟩:=h a (by simp);rw[xI,xI];unfold cv;rw[h1];dsimp only;rw[h2];dsimp only[Res.bind];rw[da rfl,h3,dX g k r fun b hb=>h b (by simp[hb])]
def sB (i:Nat)(env:En)(ds:List D)(fr:Bool)(r:R):Res Fl:=if ds.length<lim/\¬ i∈r.al then .ok (.nx ((bF env r.al).set i (some (.own (ds++[r.d]) (fr&&r.fr))))) else .stuck
def mW (i:Nat)(a:En->Res R)(env:En):Option (Option Sl)->Res Fl
 |some (some (.own ds fr))=>(a env).bind (sB i env ds fr)
 |some (some (.gG (.lst ds)))=>(a env).bind (sB i env ds true)
 |_=>.stuck
theorem uT (a:En->Res R)(env:En):mr i a env=mW i a env env[i]?:=by
 unfold mr fq mW;cases env[i]? with
 |none=>rfl
 |some o=>cases o with
  |none=>rfl
  |some s=>cases s with
   |gG d=>cases d<;>rfl
   |_=>rfl
theorem sC (a:En->Res R):mW i a env (some (some (.own ds f)))=(a env).bind (sB i env ds f):=(rfl)
end
theorem dC (x:Int):(D.int x).flat=true:=(rfl)
theorem pG (x:Bool):(D.bl x).flat=true:=(rfl)
theorem mX (ds:List D):(D.tup ds).flat=D.bO ds:=(rfl)
theorem mY (ds:List D):(D.lst ds).flat=false:=(rfl)
theorem lq:D.bO []=true:=(rfl)
theorem fD (d:D)(ds:List D):D.bO (d::ds)=(d.flat&&D.bO ds):=(rfl)
theorem ki (x:Int):(D.int x).dep=0:=(rfl)
theorem kj (ds:List D):(D.tup ds).dep=D.dj ds+1:=(rfl)
theorem g8 (ds:List D):(D.lst ds).dep=D.dj ds+1:=(rfl)
theorem fE:D.dj []=0:=(rfl)
theorem dY (d:D)(ds:List D):D.dj (d::ds)=max d.dep (D.dj ds):=(rfl)
theorem sD (r:R):mB (.ok (.rt r))=.ok r:=(rfl)
theorem eU (d:D)(f:Bool)(al:List Nat):(R.val d f al).d=d:=(rfl)
theorem pH (ds:List D)(f:Bool):(R.new ds f).d=.lst ds:=(rfl)
theorem pI (d:D):(R.gF d).d=d:=(rfl)
theorem mZ (d:D)(f:Bool)(al:List Nat):(R.val d f al).fr=f:=(rfl)
theorem m5 (ds:List D)(f:Bool):(R.new ds f).fr=f:=(rfl)
theorem m6 (d:D):(R.gF d).fr=true:=(rfl)
theorem m7 (d:D)(f:Bool)(al:List Nat):(R.val d f al).al=al:=(rfl)
theorem m8 (ds:List D)(f:Bool):(R.new ds f).al=[]:=(rfl)
theorem m9 (d:D):(R.gF d).al=[]:=(rfl)
theorem uU {α β:Type}(a:α)(k:α->Res β):(Res.ok a).bind k=k a:=(rfl)
def qm (asg:D->Bool->En->Option En)(fr:Bool)(body:En->Res Fl)(xs:List D):Fl->Res Fl
 | .nx e=>cU asg fr body xs e
 | .ct e=>cU asg fr body xs e
 | .bk e=>.ok (.nx e)
 | .rt r=>.ok (.rt r)
 | .rm r e=>.ok (.rm r e)
theorem sF (h:asg x fr env=some jN):cU asg fr body (x::xs) env=(body jN).bind (qm asg fr body xs):=by unfold cU;rw[h];rfl
theorem sG (asg:D->Bool->En->Option En)(fr:Bool)(body:En->Res Fl)(env:En):cU asg fr body [] env=.ok (.nx env):=by unfold cU;rfl
theorem wY:((0:Nat):Int)=0:=(rfl)
theorem uV {α β:Type}(c:Str)(k:α->Res β):(Res.exc c:Res α).bind k=.exc c:=(rfl)
theorem pJ (c:Str):mB (.exc c)=.exc c:=(rfl)
def m_ (c:Str)(rs:List R):Res Fl:=if rs.length<=lim then .exc c else .stuck
theorem pK (c:Str)(fs:En->Res (List R))(env:En):fA c fs env=(fs env).bind (m_ c):=(rfl)
theorem ng (h:rs.length<=1000000):m_ c rs=.exc c:=da h
noncomputable def v9:D->Res R
 | .int i=>.ok (.val (.int (-i)) true [])
 |_=>.stuck
def uW (r:R):Res R:=v9 r.d
theorem uX (fa:En->Res R)(env:En):mC fa env=(fa env).bind uW:=by unfold mC;congr 1
theorem sH:uW (.val (.int x) f al)=.ok (.val (.int (-x)) true []):=(rfl)
end L3
local macro_rules|`(tactic| simp_arith[$as,*] $[$l:location]?)=>do
 let ls←("L3.eJ L3.dh decide_true decide_false List.map_cons List.map_nil List.length_cons List.length_nil List.replicate List.cons_append List.nil_append List.append_nil Nat.reduceAdd Nat.max_self Nat.zero_max Nat.max_zero Nat.zero_add Nat.reduceSub L3.uc L3.uj L3.vY L3.ut L3.ul L3.um L3.uq L3.ur L3.rN L3.rO L3.dC L3.pG L3.mX L3.mY L3.lq L3.fD L3.ki L3.kj L3.g8 L3.fE L3.dY L3.wU L3.uU List.getElem?_cons_zero List.getElem?_cons_succ L3.uw L3.ux L3.uu L3.uv L3.rP Int.reduceLT Int.reduceLE Int.reduceNeg L3.rJ L3.rK L3.rL L3.rM L3.vU L3.vV List.set_cons_zero List.set_cons_succ Nat.reduceLT Nat.reduceLeDiff L3.vX L3.ud L3.ue L3.uf L3.uh L3.rH L3.vZ L3.v0 L3.rQ L3.pk L3.po L3.mM L3.uz L3.rR L3.uB L3.rS L3.mO L3.ll L3.mP L3.lm L3.rT L3.pp L3.mR L3.mS L3.mT L3.v4 L3.uC L3.rW L3.rX L3.pq L3.v5 L3.v6 L3.rY L3.rZ L3.r_ L3.pr L3.uE L3.uF L3.uG L3.sf L3.pw L3.v7 L3.uH L3.uI L3.uJ L3.uK L3.sh L3.sj L3.sk L3.wv L3.wV L3.wW L3.pC L3.so L3.sq L3.pD L3.pE L3.v8 L3.uN L3.ss L3.uP L3.su L3.sw L3.mV L3.pF L3.uQ L3.sx L3.uV L3.pJ L3.pK L3.ng L3.uX L3.sH L3.wY Int.reduceBEq Bool.not_not Nat.reduceEqDiff L3.sy L3.uT L3.sC L3.eU L3.pH L3.pI L3.mZ L3.m5 L3.m6 L3.m7 L3.m8 L3.m9 Bool.and_true Bool.true_and Bool.and_false Bool.false_and Bool.and_self Bool.not_true Bool.not_false L3.sD L3.jE L3.pj".splitOn " ").toArray.mapM fun s=>`(Lean.Parser.Tactic.simpLemma| $(Lean.mkIdent s.toName):ident)
 `(tactic| simp only[$[$ls:simpLemma],*,$as,*] $[$l]?)
local macro_rules|`(tactic| simp_arith $[$l:location]?)=>`(tactic| simp_arith[L3.uU] $[$l]?)
namespace L3
open PySem L2
theorem nh {α β:Type}(g:α->β)(xs:List α)(lo hi:Option Int):cK (xs.map g) lo hi=(cK xs lo hi).map g:=by unfold cK;rw[eB,List.map_take,List.map_drop]
theorem ni {α:Type}(xs:List α)(lo hi:Option Int):(cK xs lo hi).length<=xs.length:=by unfold cK;rw[xB,List.length_drop];lia
theorem nk:(∀ d∈ds,d.flat=true)->D.bO ds=true:=by
 induction ds with
 |nil=>intro _;rfl
 |cons d r ih=>intro h;rw[fD,h d (by simp),ih fun x hx=>h x (by simp[hx])];rfl
theorem dZ {α:Type}(g:α->D)(xs:List α)(h:∀ a,(g a).flat=true):D.bO (xs.map g)=true:=nk fun d hd=>by obtain⟨a,_,rfl⟩:=List.mem_map.mp hd;exact h a
theorem b7 (xs:List Int):D.bO (xs.map D.int)=true:=dZ _ _ dC
theorem pL:(∀ d∈ds,d.dep<=n)->D.dj ds<=n:=by
 induction ds with
 |nil=>intro _;rw[fE];lia
 |cons d r ih=>intro h;have h1:=h d (by simp);have h2:=ih fun x hx=>h x (by simp[hx]);rw[dY];lia
theorem nn {α:Type}{g:α->D}{xs:List α}{n:Nat}(h:∀ a,(g a).dep<=n):D.dj (xs.map g)<=n:=pL fun d hd=>by obtain⟨a,_,rfl⟩:=List.mem_map.mp hd;exact h a
theorem gr (xs:List Int):D.dj (xs.map D.int)<=0:=nn fun _=>bD 0
theorem iB {α:Type}(g:α->D)(xs:List α):aW (xs.map fun a=>.val (g a) true [])=true:=by unfold aW;rw[yb];intro r h;obtain⟨a,_,rfl⟩:=List.mem_map.mp h;rfl
theorem qo {α:Type}(g:α->D)(fr:Bool)(al:List Nat)(xs:List α):(xs.map fun a=>R.val (g a) fr al).map R.d=xs.map g:=by rw[List.map_map];rfl
theorem pM (n:Nat):cT 0 n=(List.range n).map fun k=>.int (k:Nat):=by unfold cT;congr 1;funext k;simp
theorem pN {α β:Type}(g:α->β)(xs:List α)(k:Int):cq (xs.map g) k=(cq xs k).map g:=by
 unfold cq;rw[eB];cases lS xs.length k with
 |none=>rfl
 |some j=>simp
theorem sI {α:Type}{xs:List α}{k:Int}(h0:0<=k)(h:k<xs.length):∃ a,cq xs k=some a/\xs[k.toNat]?=some a:=by
 unfold cq lS;rw[da h0,da h];have:k.toNat<xs.length:=by lia
 exact⟨xs[k.toNat],by simp[this],by simp[this]⟩
structure Rl where
 room:Int
 sign:Int
 to:Int
 put:List Int
def Rl.d (r:Rl):D:=.tup [.int r.room,.int r.sign,.int r.to,.tup (r.put.map .int)]
end L3
namespace W
open PySem PySem.Spec PyProof.Rows L2 L3 L4
noncomputable def top (i:Nat):Stmt:=PySem.Challenge.pw_callwalk_k05_refusals_stand_apart.main.body.getD i (.Pass ⟨0,0,0,0⟩)
abbrev bd:Stmt:=top 23
noncomputable abbrev dD:List Str:=["_law_error", "_law_found"]
noncomputable abbrev bz:List Str:=["_law_error"]
theorem sc__law_kinds:bf dD bz (ar bd):=⟨rfl,rfl,rfl,by decide +kernel,rfl,by decide +kernel,by decide +kernel⟩
abbrev be:Stmt:=top 24
noncomputable abbrev cC:List Str:=["_law_rows"]
noncomputable abbrev bA:List Str:=[]
theorem sc__law_apart:bf cC bA (ar be):=⟨rfl,rfl,rfl,by decide +kernel,rfl,by decide +kernel,by decide +kernel⟩
theorem d4:((["_law_k"]:List Str)++([]:List Str)).Nodup:=by decide +kernel
def fF:En->Res R:=fun env=>(dU (ay (aL 0) aV)) env
def g9:En->Res Fl:=
 (bW (cJ 0 (dU (ay (fun _=>.ok (.new [.int 0] true)) (ay (fun _=>.ok (.new [.int 1] true)) (ay (fun _=>.ok (.new [.int 2] true)) (ay (fun _=>.ok (.new [.int 3] true)) aV))))))
 (bW (cJ 0 (v2 fg (aL 0) (dU (ay (fun _=>.ok (.new [.int 4] true)) (ay (fun _=>.ok (.new [.int 5] true)) (ay (fun _=>.ok (.new [.int 6] true)) aV))))))
 (bW (cJ 0 (v2 fg (aL 0) (dU (ay (fun _=>.ok (.new [.int 7] true)) (ay (fun _=>.ok (.new [.int 8] true)) (ay (fun _=>.ok (.new [.int 9] true)) aV))))))
 (bW (cJ 0 (v2 fg (aL 0) (dU (ay (fun _=>.ok (.new [.int 10] true)) aV))))
 (dy (v2 lD (aL 0) (en 1 [] (vb (ay (vC (.int 11)) aV)) (gN 0) (fun _=>.ok true) fF)))))))
def cD:List D->Res R:=eJ cC g9
abbrev aZ:Stmt:=top 22
noncomputable abbrev cX:List Str:=["_law_script", "_law_k"]
noncomputable abbrev bj:List Str:=["_law_script", "_law_k"]
theorem eL:bf cX bj (ar aZ):=⟨rfl,rfl,rfl,by decide +kernel,rfl,by decide +kernel,by decide +kernel⟩
def b8:En->Res Fl:=
 (bW (rn (vB (v2 va (aL 1) (oQ ju (ay (aL 0) aV)))) (dy (v2 ie (v2 oJ (v2 fg (v2 fg (v2 ie (cA 0 (aL 1)) (vC (.int 2147483647))) (vC (.int 11))) (v2 oJ (aL 1) (aL 1))) (vC (.int 48271))) (vC (.int 2147483647)))) jx)
 (dy (vC (.int 0))))
def aJ:List D->Res R:=eJ cX b8
abbrev bY:Stmt:=top 16
noncomputable abbrev gs:List Str:=["rule", "standing"]
noncomputable abbrev cw:List Str:=["rule", "standing"]
theorem jF:bf gs cw (ar bY):=⟨rfl,rfl,rfl,by decide +kernel,rfl,by decide +kernel,by decide +kernel⟩
def lr:En->Res Fl:=(dy (gW (ay (cA 0 (vC (.int 2))) (ay (v2 fg (oQ fj (ay (cA 0 (vC (.int 3))) aV)) (g5 (cA 1 (vC (.int 1))) (kd (vC (.int 1))) kb)) aV))))
def gu:List D->Res R:=eJ gs lr
abbrev bZ:Stmt:=top 14
noncomputable abbrev gv:List Str:=["rule"]
noncomputable abbrev cx:List Str:=["rule"]
theorem jG:bf gv cx (ar bZ):=⟨rfl,rfl,rfl,by decide +kernel,rfl,by decide +kernel,by decide +kernel⟩
def lu:En->Res Fl:=(dy (gW (ay (cA 0 (vC (.int 0))) (ay (cA 0 (vC (.int 1))) aV))))
def gw:List D->Res R:=eJ gv lu
abbrev d5:Stmt:=top 15
noncomputable abbrev nr:List Str:=["rule", "standing", "stack"]
noncomputable abbrev fG:List Str:=["rule", "standing"]
theorem sc_fits:bf nr fG (ar d5):=⟨rfl,rfl,rfl,by decide +kernel,rfl,by decide +kernel,by decide +kernel⟩
def sJ:En->Res Fl:=
 (bW (cJ 2 (cA 1 (vC (.int 1))))
 (dy (oK (v2 ww (oQ ju (ay (aL 2) aV)) (vC (.int 0))) (v2 lD (b6 gw (ay (aL 0) aV)) (gW (ay (cA 1 (vC (.int 0))) (ay (cA 2 (vC (.int 0))) aV)))))))
def nt:List D->Res R:=eJ nr sJ
abbrev bH:Stmt:=top 18
noncomputable abbrev fH:List Str:=["house", "standing", "number", "rules"]
noncomputable abbrev b9:List Str:=["house", "standing", "number"]
theorem sc_rule_for:bf fH b9 (ar bH):=⟨rfl,rfl,rfl,by decide +kernel,rfl,by decide +kernel,by decide +kernel⟩
def di:En->Res Fl:=
 (bW (cJ 3 (cA 0 (vC (.int 2))))
 (bW (rn (vM (vB (v2 va (aL 2) (vC (.int 0)))) (vB (v2 vJ (aL 2) (oQ ju (ay (aL 3) aV))))) (fA "NoStep" (ay (vC (.str "no rule has this number")) aV)) jx)
 (bW (rn (oN (oM (b6 nt (ay (cA 3 (aL 2)) (ay (aL 1) aV))))) (fA "NoStep" (ay (vC (.str "the rule does not fit the standing")) aV)) jx)
 (dy (cA 3 (aL 2))))))
def b_:List D->Res R:=eJ fH di
abbrev a_:Stmt:=top 19
noncomputable abbrev cY:List Str:=["house", "standing", "numbers", "row", "number", "here"]
noncomputable abbrev bn:List Str:=["house", "standing", "numbers"]
theorem sc_standings_on:bf cY bn (ar a_):=⟨rfl,rfl,rfl,by decide +kernel,rfl,by decide +kernel,by decide +kernel⟩
def cy:En->Res Fl:=fun env=>
 (bW (cJ 5 (cA 3 (mC (vC (.int 1)))))
 (mr 3 (b6 gu (ay (b6 b_ (ay (aL 0) (ay (aL 5) (ay (aL 4) aV)))) (ay (aL 5) aV))))) env
def cb:En->Res Fl:=
 (bW (cJ 3 (dU (ay (gW (ay (cA 1 (vC (.int 0))) (ay (oQ fj (ay (cA 1 (vC (.int 1))) aV)) aV))) aV)))
 (bW (oW (oV (aL 2)) (gN 4) cy)
 (dy (aL 3))))
def bB:List D->Res R:=eJ cY cb
abbrev gx:Stmt:=top 20
noncomputable abbrev qp:List Str:=["house", "standing", "numbers"]
noncomputable abbrev iC:List Str:=["house", "standing", "numbers"]
theorem sK:bf qp iC (ar gx):=⟨rfl,rfl,rfl,by decide +kernel,rfl,by decide +kernel,by decide +kernel⟩
def nu:En->Res Fl:=(dy (v2 n3 (b6 bB (ay (aL 0) (ay (aL 1) (ay (aL 2) aV)))) (mC (vC (.int 1)))))
def gy:List D->Res R:=eJ qp nu
abbrev ez:Stmt:=top 25
noncomputable abbrev ko:List Str:=["_law_script", "_law_rooms", "_law_stack", "_law_numbers", "_law_room", "_law_kinds_here", "_law_found", "e"]
noncomputable abbrev iD:List Str:=["_law_script"]
theorem sc_law:bf ko iD (ar ez):=⟨rfl,rfl,rfl,by decide +kernel,rfl,by decide +kernel,by decide +kernel⟩
theorem lv:((["_law_k"]:List Str)++(["_law_script"]:List Str)).Nodup:=by decide +kernel
theorem lw:((["_law_cell"]:List Str)++([]:List Str)).Nodup:=by decide +kernel
def dE:En->Res R:=fun env=>(v2 ie (v2 re (b6 aJ (ay (aL 1) (ay (vC (.int 1)) aV))) (v2 fg (aL 0) (vC (.int 1)))) (vC (.int 3))) env
def dF:En->Res R:=fun env=>(v2 oH (v2 ie (aL 0) (vC (.int 13))) (vC (.int 6))) env
def iE:En->Res Fl:=fun env=>(dy (oK (v2 lD (aL 5) (dU aV)) (v2 lD (aL 6) (gW (ay (aL 4) (ay (aL 2) aV)))))) env
def g_:En->Res Fl:=fun env=>
 (bW (rn (vB (v2 rg (aL 3) (dU aV))) (dy (v2 lD (aL 5) (dU (ay (vC (.int 0)) aV)))) jx)
 iE) env
def kq:En->Res Fl:=fun env=>
 (bW (kg 6 7 5 0 gy (ay (gW (ay (aL 1) (ay (vC (.int 3)) (ay (dU aV) aV)))) (ay (gW (ay (aL 4) (ay (oQ fj (ay (aL 2) aV)) aV))) (ay (aL 3) aV))) ["NoStep"])
 g_) env
def kr:En->Res Fl:=fun env=>
 (bW (cJ 6 (vC .cH))
 kq) env
def ku:En->Res Fl:=fun env=>
 (bW (cJ 5 (dU aV))
 kr) env
def kx:En->Res Fl:=fun env=>
 (bW (cJ 4 (v2 oH (aL 1) (vC (.int 1))))
 ku) env
def ky:En->Res Fl:=fun env=>
 (bW (cJ 3 (en 1 [] (oV (g5 (aL 0) kb (kd (vC (.int 60))))) (gN 0) (fun _=>.ok true) dF))
 kx) env
def kz:En->Res Fl:=fun env=>
 (bW (cJ 2 (en 1 [0] (vb (ay (v2 ie (b6 aJ (ay (aL 0) (ay (vC (.int 1)) aV))) (vC (.int 5))) aV)) (gN 0) (fun _=>.ok true) dE))
 ky) env
def kA:En->Res Fl:=fun env=>
 (bW (cJ 1 (v2 fg (vC (.int 1)) (v2 ie (b6 aJ (ay (aL 0) (ay (vC (.int 0)) aV))) (vC (.int 3)))))
 kz) env
def qq:En->Res Fl:=
 (bW (rn (oN (oM (b6 cD aV))) (dy (vC (.bl false))) jx)
 kA)
def iF:List D->Res R:=eJ ko qq
set_option genInjectivity false in
structure Tx (K:yf) (mg:Str->Option yh) where
 f_a:Addr
 fd_a:FuncData
 h_a:Fn K mg "_law_kinds" bd bz f_a fd_a
 f_b:Addr
 fd_b:FuncData
 h_b:Fn K mg "_law_apart" be bA f_b fd_b
 f_c:Addr
 fd_c:FuncData
 h_c:Fn K mg "_law_cell_at" aZ bj f_c fd_c
 f_d:Addr
 fd_d:FuncData
 h_d:Fn K mg "stepped" bY cw f_d fd_d
 f_e:Addr
 fd_e:FuncData
 h_e:Fn K mg "head_of" bZ cx f_e fd_e
 f_f:Addr
 fd_f:FuncData
 h_f:Fn K mg "fits" d5 fG f_f fd_f
 f_g:Addr
 fd_g:FuncData
 h_g:Fn K mg "rule_for" bH b9 f_g fd_g
 f_h:Addr
 fd_h:FuncData
 h_h:Fn K mg "standings_on" a_ bn f_h fd_h
 f_i:Addr
 fd_i:FuncData
 h_i:Fn K mg "ran" gx iC f_i fd_i
 f_j:Addr
 fd_j:FuncData
 h_j:Fn K mg "law" ez iD f_j fd_j
 gd:mg "ValueError"=none
 aD:mg "isinstance"=none
 jR:mg "len"=none
 hG:mg "list"=none
 fS:mg "range"=none
 ac:Addr
 eG:XC K mg "WalkError" ac
 am:Addr
 dG:XC K mg "NoStep" am
 ag:Addr
 fN:XC K mg "NotPlain" ag
 aw:Addr
 kJ:XC K mg "NoWay" aw
 ah:Addr
 gB:XC K mg "TooLong" ah
 ak:Addr
 gI:XC K mg "Endless" ak
 ao:Addr
 iQ:XC K mg "NoText" ao
 ax:Addr
 kG:XC K mg "Twice" ax
 aq:Addr
 iO:XC K mg "NoName" aq
 aj:Addr
 gA:XC K mg "NoValue" aj
 av:Addr
 kE:XC K mg "NoRow" av
 ai:Addr
 gD:XC K mg "Reached" ai
 fI:bP K am
 nJ:([am,ag,aw,ah,ak,ao,ax,aq,aj,av,ai]:List Addr).map (fun c=>PySem.W.kitOne K (.ref am) (.ref c))=[some true,some false,some false,some false,some false,some false,some false,some false,some false,some false,some false]
 ja:PySem.W.kitOne K (.ref am) (.ref ac)=some true
 iI:PySem.W.kitOne K (.ref am) (.type "ValueError")=some true
 fM:bP K ag
 nC:([am,ag,aw,ah,ak,ao,ax,aq,aj,av,ai]:List Addr).map (fun c=>PySem.W.kitOne K (.ref ag) (.ref c))=[some false,some true,some false,some false,some false,some false,some false,some false,some false,some false,some false]
 iT:PySem.W.kitOne K (.ref ag) (.ref ac)=some true
 iX:PySem.W.kitOne K (.ref ag) (.type "ValueError")=some true
 fW:bP K aw
 nH:([am,ag,aw,ah,ak,ao,ax,aq,aj,av,ai]:List Addr).map (fun c=>PySem.W.kitOne K (.ref aw) (.ref c))=[some false,some false,some true,some false,some false,some false,some false,some false,some false,some false,some false]
 iZ:PySem.W.kitOne K (.ref aw) (.ref ac)=some true
 i8:PySem.W.kitOne K (.ref aw) (.type "ValueError")=some true
 fJ:bP K ah
 nL:([am,ag,aw,ah,ak,ao,ax,aq,aj,av,ai]:List Addr).map (fun c=>PySem.W.kitOne K (.ref ah) (.ref c))=[some false,some false,some false,some true,some false,some false,some false,some false,some false,some false,some false]
 iS:PySem.W.kitOne K (.ref ah) (.ref ac)=some true
 iV:PySem.W.kitOne K (.ref ah) (.type "ValueError")=some true
 fY:bP K ak
 nY:([am,ag,aw,ah,ak,ao,ax,aq,aj,av,ai]:List Addr).map (fun c=>PySem.W.kitOne K (.ref ak) (.ref c))=[some false,some false,some false,some false,some true,some false,some false,some false,some false,some false,some false]
 i7:PySem.W.kitOne K (.ref ak) (.ref ac)=some true
 iR:PySem.W.kitOne K (.ref ak) (.type "ValueError")=some true
 fV:bP K ao
 nK:([am,ag,aw,ah,ak,ao,ax,aq,aj,av,ai]:List Addr).map (fun c=>PySem.W.kitOne K (.ref ao) (.ref c))=[some false,some false,some false,some false,some false,some true,some false,some false,some false,some false,some false]
 iW:PySem.W.kitOne K (.ref ao) (.ref ac)=some true
 i6:PySem.W.kitOne K (.ref ao) (.type "ValueError")=some true
 fP:bP K ax
 nN:([am,ag,aw,ah,ak,ao,ax,aq,aj,av,ai]:List Addr).map (fun c=>PySem.W.kitOne K (.ref ax) (.ref c))=[some false,some false,some false,some false,some false,some false,some true,some false,some false,some false,some false]
 i3:PySem.W.kitOne K (.ref ax) (.ref ac)=some true
 i0:PySem.W.kitOne K (.ref ax) (.type "ValueError")=some true
 fU:bP K aq
 nU:([am,ag,aw,ah,ak,ao,ax,aq,aj,av,ai]:List Addr).map (fun c=>PySem.W.kitOne K (.ref aq) (.ref c))=[some false,some false,some false,some false,some false,some false,some false,some true,some false,some false,some false]
 iP:PySem.W.kitOne K (.ref aq) (.ref ac)=some true
 iY:PySem.W.kitOne K (.ref aq) (.type "ValueError")=some true
 fK:bP K aj
 nT:([am,ag,aw,ah,ak,ao,ax,aq,aj,av,ai]:List Addr).map (fun c=>PySem.W.kitOne K (.ref aj) (.ref c))=[some false,some false,some false,some false,some false,some false,some false,some false,some true,some false,some false]
 iJ:PySem.W.kitOne K (.ref aj) (.ref ac)=some true
 iM:PySem.W.kitOne K (.ref aj) (.type "ValueError")=some true
 fX:bP K av
 nF:([am,ag,aw,ah,ak,ao,ax,aq,aj,av,ai]:List Addr).map (fun c=>PySem.W.kitOne K (.ref av) (.ref c))=[some false,some false,some false,some false,some false,some false,some false,some false,some false,some true,some false]
 i9:PySem.W.kitOne K (.ref av) (.ref ac)=some true
 i_:PySem.W.kitOne K (.ref av) (.type "ValueError")=some true
 dJ:bP K ai
 iU:([am,ag,aw,ah,ak,ao,ax,aq,aj,av,ai]:List Addr).map (fun c=>PySem.W.kitOne K (.ref ai) (.ref c))=[some false,some false,some false,some false,some false,some false,some false,some false,some false,some false,some true]
 fL:PySem.W.kitOne K (.ref ai) (.ref ac)=some true
 fT:PySem.W.kitOne K (.ref ai) (.type "ValueError")=some true
 nE:(f9 K am).contains (.ref ac)=true
section
variable {P:yg}{w:World}{K:yf}{mg:Str->Option yh}{base:Heap}
noncomputable def kC (t:Tx K mg):Nat->Addr:=fun i=>([t.am,t.ag,t.aw,t.ah,t.ak,t.ao,t.ax,t.aq,t.aj,t.av,t.ai]:List Addr).getD i 0
theorem gz (t:Tx K mg):kf K mg (kC t) t.ac "NoStep" t.am 0:=⟨t.dG,i4.of t.fI t.nJ t.ja t.iI (by decide)⟩
theorem iG (t:Tx K mg):kf K mg (kC t) t.ac "NotPlain" t.ag 1:=⟨t.fN,i4.of t.fM t.nC t.iT t.iX (by decide)⟩
theorem nv (t:Tx K mg):kf K mg (kC t) t.ac "NoWay" t.aw 2:=⟨t.kJ,i4.of t.fW t.nH t.iZ t.i8 (by decide)⟩
theorem jH (t:Tx K mg):kf K mg (kC t) t.ac "TooLong" t.ah 3:=⟨t.gB,i4.of t.fJ t.nL t.iS t.iV (by decide)⟩
theorem jI (t:Tx K mg):kf K mg (kC t) t.ac "Endless" t.ak 4:=⟨t.gI,i4.of t.fY t.nY t.i7 t.iR (by decide)⟩
theorem lx (t:Tx K mg):kf K mg (kC t) t.ac "NoText" t.ao 5:=⟨t.iQ,i4.of t.fV t.nK t.iW t.i6 (by decide)⟩
theorem nw (t:Tx K mg):kf K mg (kC t) t.ac "Twice" t.ax 6:=⟨t.kG,i4.of t.fP t.nN t.i3 t.i0 (by decide)⟩
theorem ly (t:Tx K mg):kf K mg (kC t) t.ac "NoName" t.aq 7:=⟨t.iO,i4.of t.fU t.nU t.iP t.iY (by decide)⟩
theorem jJ (t:Tx K mg):kf K mg (kC t) t.ac "NoValue" t.aj 8:=⟨t.gA,i4.of t.fK t.nT t.iJ t.iM (by decide)⟩
theorem ny (t:Tx K mg):kf K mg (kC t) t.ac "NoRow" t.av 9:=⟨t.kE,i4.of t.fX t.nF t.i9 t.i_ (by decide)⟩
theorem jK (t:Tx K mg):kf K mg (kC t) t.ac "Reached" t.ai 10:=⟨t.gD,i4.of t.dJ t.iU t.fL t.fT (by decide)⟩
theorem wZ (t:Tx K mg):∀ c∈(["NoStep"]:List Str),∃ C,kf K mg (kC t) t.ac c C 0/\(f9 K C).contains (.ref t.ac)=true:=by intro c hc;obtain rfl:=List.mem_singleton.mp hc;exact⟨_,gz t,t.nE⟩
theorem sL:((["_law_k"]:List Str)++(["_law_found"]:List Str)).Nodup:=by decide +kernel
theorem aG (t:Tx K mg):iL P w K mg base (f6 P w) 1 t.f_a t.fd_a bz (nP K (kC t) t.ac):=
 rE t.h_a.fu sc__law_kinds (fun _ _ _ _ h=>mH h) fun cdv A outer s H a Q E hr h=>by
  obtain @⟨H,a,C,j,Q,E,hx,kn,k⟩:=h;exact⟨_,(cu (dL (i:=1) sc__law_kinds.nd rfl (Or.inr rfl) (dO (au (aT aY (by rfl) t.aD (by decide +kernel) (au (pv 0) (au (bq (by rfl) t.dG.gl (v:=.ref t.am) rfl) aQ))) (au (aT aY (by rfl) t.aD (by decide +kernel) (au (pv 0) (au (bq (by rfl) t.fN.gl (v:=.ref t.ag) rfl) aQ))) (au (aT aY (by rfl) t.aD (by decide +kernel) (au (pv 0) (au (bq (by rfl) t.kJ.gl (v:=.ref t.aw) rfl) aQ))) aQ)))))
   (cu (dL (i:=1) sc__law_kinds.nd rfl (Or.inr rfl) (jV jp (pv 1) (dO (au (aT aY (by rfl) t.aD (by decide +kernel) (au (pv 0) (au (bq (by rfl) t.gB.gl (v:=.ref t.ah) rfl) aQ))) (au (aT aY (by rfl) t.aD (by decide +kernel) (au (pv 0) (au (bq (by rfl) t.gI.gl (v:=.ref t.ak) rfl) aQ))) (au (aT aY (by rfl) t.aD (by decide +kernel) (au (pv 0) (au (bq (by rfl) t.iQ.gl (v:=.ref t.ao) rfl) aQ))) aQ))))))
   (cu (dL (i:=1) sc__law_kinds.nd rfl (Or.inr rfl) (jV jp (pv 1) (dO (au (aT aY (by rfl) t.aD (by decide +kernel) (au (pv 0) (au (bq (by rfl) t.kG.gl (v:=.ref t.ax) rfl) aQ))) (au (aT aY (by rfl) t.aD (by decide +kernel) (au (pv 0) (au (bq (by rfl) t.iO.gl (v:=.ref t.aq) rfl) aQ))) (au (aT aY (by rfl) t.aD (by decide +kernel) (au (pv 0) (au (bq (by rfl) t.gA.gl (v:=.ref t.aj) rfl) aQ))) aQ))))))
   (cu (dL (i:=1) sc__law_kinds.nd rfl (Or.inr rfl) (jV jp (pv 1) (dO (au (aT aY (by rfl) t.aD (by decide +kernel) (au (pv 0) (au (bq (by rfl) t.kE.gl (v:=.ref t.av) rfl) aQ))) (au (aT aY (by rfl) t.aD (by decide +kernel) (au (pv 0) (au (bq (by rfl) t.gD.gl (v:=.ref t.ai) rfl) aQ))) aQ)))))
   (cu (pW (PW.pt (pU (je (jd (aT aY (by rfl) t.aD (by decide +kernel) (au (pv 0) (au (bq (by rfl) t.eG.gl (v:=.ref t.ac) rfl) aQ))))) (lJ (je (jd (aT aY (by rfl) t.aD (by decide +kernel) (au (pv 0) (au (oa (by rfl) t.gd (by decide +kernel) (v:=.ty "ValueError") rfl (by decide)) aQ)))))))) (eQ (jg (dO aQ))) jS)
   (eQ (jg (li (tN:=["_law_k"]) (capN:=["_law_found"]) (caps:=[1]) (a:=a) hr.hd (bE.of (osc:=ar bd) (N:=dD) rfl rfl (by decide +kernel)) (lh (a0:=a) (C:=C) (n:=11) rfl t.fS (by decide)))))))))),pf (c:=kC t) (wc:=t.ac) (S:=⟨_,_,_,_,_,_,_⟩) ⟨rfl,rfl,fun _ _ _ _ _=>jT (i:=0) sL rfl (Or.inl rfl),fun _ _ _ _ _=>o0 (jd (lT ix_list (pv 1) (pv 0) (fun _ _=>rfl))),fun _ _ _ _ _=>pv 0⟩ hx kn k⟩
theorem gc (t:Tx K mg):bC P w K mg base (f6 P w) 2 t.f_b t.fd_b bA (jc mg 0 cD):=
 dA t.h_b.fu sc__law_apart fun cdv A outer s H E hr=>
  have hu:=hr.units
  (aC (bt sc__law_apart.nd rfl (.inl rfl) (b5 (af (bh (aG t) (hr.mono (by decide)) (by rfl) t.h_a.gl t.h_a.fu.kp t.h_a.bi aO (gz t) (by rfl)) (af (bh (aG t) (hr.mono (by decide)) (by rfl) t.h_a.gl t.h_a.fu.kp t.h_a.bi aO (iG t) (by rfl)) (af (bh (aG t) (hr.mono (by decide)) (by rfl) t.h_a.gl t.h_a.fu.kp t.h_a.bi aO (nv t) (by rfl)) (af (bh (aG t) (hr.mono (by decide)) (by rfl) t.h_a.gl t.h_a.fu.kp t.h_a.bi aO (jH t) (by rfl)) az))))))
    (aC (bt sc__law_apart.nd rfl (.inl rfl) (bw cQ (aB (pv 0)) (b5 (af (bh (aG t) (hr.mono (by decide)) (by rfl) t.h_a.gl t.h_a.fu.kp t.h_a.bi aO (jI t) (by rfl)) (af (bh (aG t) (hr.mono (by decide)) (by rfl) t.h_a.gl t.h_a.fu.kp t.h_a.bi aO (lx t) (by rfl)) (af (bh (aG t) (hr.mono (by decide)) (by rfl) t.h_a.gl t.h_a.fu.kp t.h_a.bi aO (nw t) (by rfl)) az))))))
    (aC (bt sc__law_apart.nd rfl (.inl rfl) (bw cQ (aB (pv 0)) (b5 (af (bh (aG t) (hr.mono (by decide)) (by rfl) t.h_a.gl t.h_a.fu.kp t.h_a.bi aO (ly t) (by rfl)) (af (bh (aG t) (hr.mono (by decide)) (by rfl) t.h_a.gl t.h_a.fu.kp t.h_a.bi aO (jJ t) (by rfl)) (af (bh (aG t) (hr.mono (by decide)) (by rfl) t.h_a.gl t.h_a.fu.kp t.h_a.bi aO (ny t) (by rfl)) az))))))
    (aC (bt sc__law_apart.nd rfl (.inl rfl) (bw cQ (aB (pv 0)) (b5 (af (bh (aG t) (hr.mono (by decide)) (by rfl) t.h_a.gl t.h_a.fu.kp t.h_a.bi aO (jK t) (by rfl)) az))))
    (aR (br (dR (ig hu) (aB (pv 0)) (o6 rfl (bE.of (osc:=ar be) (N:=cC) (tN:=["_law_k"]) (capN:=[]) (caps:=[]) rfl rfl (by decide +kernel)) (fv (by rfl) t.fS (af aE az)) (by decide) (fun cl C s3 H3 fp=>(dz d4 rfl (.inl rfl))) (fun cl C s3 H3 fp=>fw) (fun cl C s3 H3 fp=>(b5 (af (aB (pv 0)) az)))) (cm _))))))))
theorem bQ (t:Tx K mg):bC P w K mg base (f6 P w) 1 t.f_c t.fd_c bj (jc mg 2 aJ):=
 dA t.h_c.fu eL fun cdv A outer s H E hr=>
  have hu:=hr.units
  (aC (fm (eS (p7) (aB (pv 1)) (fi jv (by rfl) t.jR (by decide +kernel) (af (aB (pv 0)) az)) (cm _)) (aR (br (bw dS (bw me (bw cQ (bw cQ (bw dS (bv (pv 0) (aB (pv 1)) (fun _ _=>rfl)) aE) aE) (bw me (aB (pv 1)) (aB (pv 1)))) aE) aE))) cS)
    (aR (br aE)))
theorem jL (t:Tx K mg):bC P w K mg base (f6 P w) 1 t.f_d t.fd_d cw (jc mg 2 gu):=
 dA t.h_d.fu jF fun cdv A outer s H E hr=>
  have hu:=hr.units
  (aR (br (df (af (bv (pv 0) aE (fun _ _=>rfl)) (af (bw cQ (dW gX (by rfl) t.hG (by decide +kernel) (af (bv (pv 0) aE (fun _ _=>rfl)) az)) (iu (bv (pv 1) aE (fun _ _=>rfl)) (ir aE) iq)) az)))))
theorem jM (t:Tx K mg):bC P w K mg base (f6 P w) 1 t.f_e t.fd_e cx (jc mg 1 gw):=
 dA t.h_e.fu jG fun cdv A outer s H E hr=>
  have hu:=hr.units
  (aR (br (df (af (bv (pv 0) aE (fun _ _=>rfl)) (af (bv (pv 0) aE (fun _ _=>rfl)) az)))))
theorem pO (t:Tx K mg):bC P w K mg base (f6 P w) 2 t.f_f t.fd_f fG (jc mg 2 nt):=
 dA t.h_f.fu sc_fits fun cdv A outer s H E hr=>
  have hu:=hr.units
  (aC (bt sc_fits.nd rfl (.inl rfl) (bv (pv 1) aE (fun _ _=>rfl)))
    (aR (br (mh (dR (tU) (fi jv (by rfl) t.jR (by decide +kernel) (af (aB (pv 2)) az)) aE (cm _)) (mf (dR (ig hu) (bN (jM t) (hr.mono (by decide)) (by rfl) t.h_e aO (af (aB (pv 0)) az) (aF bx)) (df (af (bv (pv 1) aE (fun _ _=>rfl)) (af (bv (pv 2) aE (fun _ _=>rfl)) az))) (cm _)))))))
theorem iH (t:Tx K mg):bC P w K mg base (f6 P w) 3 t.f_g t.fd_g b9 (jc mg 3 b_):=
 dA t.h_g.fu sc_rule_for fun cdv A outer s H E hr=>
  have hu:=hr.units
  (aC (bt sc_rule_for.nd rfl (.inl rfl) (bv (pv 0) aE (fun _ _=>rfl)))
    (aC (fm (PWD.pt (rj (eS (p7) (aB (pv 2)) aE (cm _)) (oO (eS (tV) (aB (pv 2)) (fi jv (by rfl) t.jR (by decide +kernel) (af (aB (pv 3)) az)) (cm _))))) (aR (fB t.dG (by rfl) (af l_ az))) cS)
    (aC (fm (j7 (mj (bN (pO t) (hr.mono (by decide)) (by rfl) t.h_f aO (af (bv (pv 3) (aB (pv 2)) (fun _ _=>rfl)) (af (aB (pv 1)) az)) (aF (aF bx))))) (aR (fB t.dG (by rfl) (af l_ az))) cS)
    (aR (br (bv (pv 3) (aB (pv 2)) (fun _ _=>rfl)))))))
theorem eM (t:Tx K mg):bC P w K mg base (f6 P w) 4 t.f_h t.fd_h bn (jc mg 3 bB):=
 dA t.h_h.fu sc_standings_on fun cdv A outer s H E hr=>
  have hu:=hr.units
  (aC (bt sc_standings_on.nd rfl (.inl rfl) (b5 (af (df (af (bv (pv 1) aE (fun _ _=>rfl)) (af (dW gX (by rfl) t.hG (by decide +kernel) (af (bv (pv 1) aE (fun _ _=>rfl)) az)) az))) az)))
    (aC (oX vP rfl (ka (aB (pv 2))) (dz sc_standings_on.nd rfl (.inl rfl)) (aC (bt sc_standings_on.nd rfl (.inl rfl) (bv (pv 3) (mD aE) (fun _ _=>rfl)))
    (aR (oU (pv 3) (bN (jL t) (hr.mono (by decide)) (by rfl) t.h_d aO (af (bN (iH t) (hr.mono (by decide)) (by rfl) t.h_g aO (af (aB (pv 0)) (af (aB (pv 5)) (af (aB (pv 4)) az))) (aF (aF (aF bx)))) (af (aB (pv 5)) az)) (aF (aF bx)))))))
    (aR (br (aB (pv 3))))))
theorem sM (t:Tx K mg):bC P w K mg base (f6 P w) 5 t.f_i t.fd_i iC (jc mg 3 gy):=
 dA t.h_i.fu sK fun cdv A outer s H E hr=>
  have hu:=hr.units
  (aR (br (tY (bN (eM t) (hr.mono (by decide)) (by rfl) t.h_h aO (af (aB (pv 0)) (af (aB (pv 1)) (af (aB (pv 2)) az))) (aF (aF (aF bx)))) (mD aE) (fun _ _=>rfl))))
theorem sN (t:Tx K mg):bC P w K mg base (f6 P w) 6 t.f_j t.fd_j iD (jc mg 1 iF):=
 dA t.h_j.fu sc_law fun cdv A outer s H E hr=>
  have hu:=hr.units
  (aC (fm (j7 (mj (mn (gc t) (hr.mono (by decide)) (by rfl) t.h_b.gl t.h_b.fu.kp t.h_b.bi aO))) (aR (br tT)) cS)
    (aC (bt sc_law.nd rfl (.inl rfl) (bw cQ aE (bw dS (bN (bQ t) (hr.mono (by decide)) (by rfl) t.h_c aO (af (aB (pv 0)) (af aE az)) (aF (aF bx))) aE)))
    (aC (ip rfl (bE.of (osc:=ar ez) (N:=ko) (tN:=["_law_k"]) (capN:=["_law_script"]) (caps:=[0]) rfl rfl (by decide +kernel)) sc_law.nd rfl rfl (fv (by rfl) t.fS (af (bw dS (bN (bQ t) (hr.mono (by decide)) (by rfl) t.h_c aO (af (aB (pv 0)) (af aE az)) (aF (aF bx))) aE) az)) (by decide) (fun cl C s3 H3 fp=>(dz lv rfl (.inl rfl))) (fun cl C s3 H3 fp=>fw) (fun cl C s3 H3 fp=>(bw dS (bw rf (bN (bQ t) (hr.mono (by decide)) (by rfl) t.h_c mF (af (aB (pv 1)) (af aE az)) (aF (aF bx))) (bw cQ (aB (pv 0)) aE)) aE)))
    (aC (ip rfl (bE.of (osc:=ar ez) (N:=ko) (tN:=["_law_cell"]) (capN:=[]) (caps:=[]) rfl rfl (by decide +kernel)) sc_law.nd rfl rfl (ka (iu (aB (pv 0)) iq (ir aE))) (by decide) (fun cl C s3 H3 fp=>(dz lw rfl (.inl rfl))) (fun cl C s3 H3 fp=>fw) (fun cl C s3 H3 fp=>(bw md (bw dS (aB (pv 0)) aE) aE)))
    (aC (bt sc_law.nd rfl (.inl rfl) (bw md (aB (pv 1)) aE))
    (aC (bt sc_law.nd rfl (.inl rfl) (b5 az))
    (aC (bt sc_law.nd rfl (.inl rfl) q_)
    (aC (mK sc_law.nd rfl (.inl rfl) rfl rfl rfl (.inl rfl) (by decide) rfl rfl t.eG (by rfl) rfl (wZ t) (sM t) (hr.mono (by decide)) (by rfl) t.h_i.gl t.h_i.fu.kp t.h_i.bi (aG t) (hr.mono (by decide)) (by rfl) t.h_a.gl t.h_a.fu.kp t.h_a.bi (af (df (af (aB (pv 1)) (af aE (af (b5 az) az)))) (af (df (af (aB (pv 4)) (af (dW gX (by rfl) t.hG (by decide +kernel) (af (aB (pv 2)) az)) az))) (af (aB (pv 3)) az))) (aF (aF (aF bx))))
    (aC (fm (eS (tX hu) (aB (pv 3)) (b5 az) (cm _)) (aR (br (dR (ig hu) (aB (pv 5)) (b5 (af aE az)) (cm _)))) cS)
    (aR (br (mh (dR (ig hu) (aB (pv 5)) (b5 az) (cm _)) (mf (dR (ig hu) (aB (pv 6)) (df (af (aB (pv 4)) (af (aB (pv 2)) az))) (cm _)))))))))))))))
end
theorem uY {Q:List yh->Prop}{us:List yh}(hl:us.length=0)(h:Q []):Q us:=by
 cases us with
 |nil=>exact h
 |cons a r=>cases hl
theorem sO {Q:List yh->Prop}{us:List yh}{n:Nat}(hl:us.length=n+1)(h:∀(a:yh)(r:List yh),r.length=n->Q (a::r)):Q us:=by
 cases us with
 |nil=>cases hl
 |cons a r=>exact h a r (Nat.succ.inj hl)
theorem pP {Q:List yh->Prop}{us:List yh}(hl:us.length=1)(h:∀ a0:yh,Q [a0]):Q us:=sO hl fun a r q=>uY (Q:=fun r=>Q (a::r)) q (h a)
theorem pQ {Q:List yh->Prop}{us:List yh}(hl:us.length=2)(h:∀ a0 a1:yh,Q [a0,a1]):Q us:=sO hl fun a r q=>pP (Q:=fun r=>Q (a::r)) q (h a)
theorem sP {Q:List yh->Prop}{us:List yh}(hl:us.length=3)(h:∀ a0 a1 a2:yh,Q [a0,a1,a2]):Q us:=sO hl fun a r q=>pQ (Q:=fun r=>Q (a::r)) q (h a)
theorem uZ {K KK:yf}{mg:Str->Option yh}{h:Heap}(X:K.In h)(G:h.Ns mainGlobals mg)(U:dk K KK)
 {f_a:Addr} {od_a an_a:Option Addr} {sl_a:Array (Option yh)} {oc_a kV_a dc_a pm_a cd_a ct_a:yh}
 (a_a:PySem.W.nsIn K mainGlobals "_law_kinds"=some (some (.ref f_a))) (l_a:K.lookup f_a=some ⟨oc_a,od_a,.func (PySem.W.fnOf "_law_kinds" "_law_kinds" (aU bd) (aN bd) (ar bd) .none kV_a dc_a pm_a an_a cd_a ct_a),sl_a⟩) (c_a:PySem.W.codeIn K cd_a "_law_kinds"=true)
 {f_b:Addr} {od_b an_b:Option Addr} {sl_b:Array (Option yh)} {oc_b kV_b dc_b pm_b cd_b ct_b:yh}
 (a_b:PySem.W.nsIn K mainGlobals "_law_apart"=some (some (.ref f_b))) (l_b:K.lookup f_b=some ⟨oc_b,od_b,.func (PySem.W.fnOf "_law_apart" "_law_apart" (aU be) (aN be) (ar be) .none kV_b dc_b pm_b an_b cd_b ct_b),sl_b⟩) (c_b:PySem.W.codeIn K cd_b "_law_apart"=true)
 {f_c:Addr} {od_c an_c:Option Addr} {sl_c:Array (Option yh)} {oc_c kV_c dc_c pm_c cd_c ct_c:yh}
 (a_c:PySem.W.nsIn K mainGlobals "_law_cell_at"=some (some (.ref f_c))) (l_c:K.lookup f_c=some ⟨oc_c,od_c,.func (PySem.W.fnOf "_law_cell_at" "_law_cell_at" (aU aZ) (aN aZ) (ar aZ) .none kV_c dc_c pm_c an_c cd_c ct_c),sl_c⟩) (c_c:PySem.W.codeIn K cd_c "_law_cell_at"=true)
 {f_d:Addr} {od_d an_d:Option Addr} {sl_d:Array (Option yh)} {oc_d kV_d dc_d pm_d cd_d ct_d:yh}
 (a_d:PySem.W.nsIn K mainGlobals "stepped"=some (some (.ref f_d))) (l_d:K.lookup f_d=some ⟨oc_d,od_d,.func (PySem.W.fnOf "stepped" "stepped" (aU bY) (aN bY) (ar bY) .none kV_d dc_d pm_d an_d cd_d ct_d),sl_d⟩) (c_d:PySem.W.codeIn K cd_d "stepped"=true)
 {f_e:Addr} {od_e an_e:Option Addr} {sl_e:Array (Option yh)} {oc_e kV_e dc_e pm_e cd_e ct_e:yh}
 (a_e:PySem.W.nsIn K mainGlobals "head_of"=some (some (.ref f_e))) (l_e:K.lookup f_e=some ⟨oc_e,od_e,.func (PySem.W.fnOf "head_of" "head_of" (aU bZ) (aN bZ) (ar bZ) .none kV_e dc_e pm_e an_e cd_e ct_e),sl_e⟩) (c_e:PySem.W.codeIn K cd_e "head_of"=true)
 {f_f:Addr} {od_f an_f:Option Addr} {sl_f:Array (Option yh)} {oc_f kV_f dc_f pm_f cd_f ct_f:yh}
 (a_f:PySem.W.nsIn K mainGlobals "fits"=some (some (.ref f_f))) (l_f:K.lookup f_f=some ⟨oc_f,od_f,.func (PySem.W.fnOf "fits" "fits" (aU d5) (aN d5) (ar d5) .none kV_f dc_f pm_f an_f cd_f ct_f),sl_f⟩) (c_f:PySem.W.codeIn K cd_f "fits"=true)
 {f_g:Addr} {od_g an_g:Option Addr} {sl_g:Array (Option yh)} {oc_g kV_g dc_g pm_g cd_g ct_g:yh}
 (a_g:PySem.W.nsIn K mainGlobals "rule_for"=some (some (.ref f_g))) (l_g:K.lookup f_g=some ⟨oc_g,od_g,.func (PySem.W.fnOf "rule_for" "rule_for" (aU bH) (aN bH) (ar bH) .none kV_g dc_g pm_g an_g cd_g ct_g),sl_g⟩) (c_g:PySem.W.codeIn K cd_g "rule_for"=true)
 {f_h:Addr} {od_h an_h:Option Addr} {sl_h:Array (Option yh)} {oc_h kV_h dc_h pm_h cd_h ct_h:yh}
 (a_h:PySem.W.nsIn K mainGlobals "standings_on"=some (some (.ref f_h))) (l_h:K.lookup f_h=some ⟨oc_h,od_h,.func (PySem.W.fnOf "standings_on" "standings_on" (aU a_) (aN a_) (ar a_) .none kV_h dc_h pm_h an_h cd_h ct_h),sl_h⟩) (c_h:PySem.W.codeIn K cd_h "standings_on"=true)
 {f_i:Addr} {od_i an_i:Option Addr} {sl_i:Array (Option yh)} {oc_i kV_i dc_i pm_i cd_i ct_i:yh}
 (a_i:PySem.W.nsIn K mainGlobals "ran"=some (some (.ref f_i))) (l_i:K.lookup f_i=some ⟨oc_i,od_i,.func (PySem.W.fnOf "ran" "ran" (aU gx) (aN gx) (ar gx) .none kV_i dc_i pm_i an_i cd_i ct_i),sl_i⟩) (c_i:PySem.W.codeIn K cd_i "ran"=true)
 {f_j:Addr} {od_j an_j:Option Addr} {sl_j:Array (Option yh)} {oc_j kV_j dc_j pm_j cd_j ct_j:yh}
 (a_j:PySem.W.nsIn K mainGlobals "law"=some (some (.ref f_j))) (l_j:K.lookup f_j=some ⟨oc_j,od_j,.func (PySem.W.fnOf "law" "law" (aU ez) (aN ez) (ar ez) .none kV_j dc_j pm_j an_j cd_j ct_j),sl_j⟩) (c_j:PySem.W.codeIn K cd_j "law"=true)
 (z_ValueError:PySem.W.nsIn K mainGlobals "ValueError"=some none)
 (z_isinstance:PySem.W.nsIn K mainGlobals "isinstance"=some none)
 (z_len:PySem.W.nsIn K mainGlobals "len"=some none)
 (z_list:PySem.W.nsIn K mainGlobals "list"=some none)
 (z_range:PySem.W.nsIn K mainGlobals "range"=some none)
 {ac:Addr} (b_WalkError:PySem.W.nsIn K mainGlobals "WalkError"=some (some (.ref ac))) (e_WalkError:PySem.W.excIn K ac cO "ValueError.__new__"=true)
 {am:Addr} (b_NoStep:PySem.W.nsIn K mainGlobals "NoStep"=some (some (.ref am))) (e_NoStep:PySem.W.excIn K am cO "ValueError.__new__"=true)
 {ag:Addr} (b_NotPlain:PySem.W.nsIn K mainGlobals "NotPlain"=some (some (.ref ag))) (e_NotPlain:PySem.W.excIn K ag cO "ValueError.__new__"=true)
 {aw:Addr} (b_NoWay:PySem.W.nsIn K mainGlobals "NoWay"=some (some (.ref aw))) (e_NoWay:PySem.W.excIn K aw cO "ValueError.__new__"=true)
 {ah:Addr} (b_TooLong:PySem.W.nsIn K mainGlobals "TooLong"=some (some (.ref ah))) (e_TooLong:PySem.W.excIn K ah cO "ValueError.__new__"=true)
 {ak:Addr} (b_Endless:PySem.W.nsIn K mainGlobals "Endless"=some (some (.ref ak))) (e_Endless:PySem.W.excIn K ak cO "ValueError.__new__"=true)
 {ao:Addr} (b_NoText:PySem.W.nsIn K mainGlobals "NoText"=some (some (.ref ao))) (e_NoText:PySem.W.excIn K ao cO "ValueError.__new__"=true)
 {ax:Addr} (b_Twice:PySem.W.nsIn K mainGlobals "Twice"=some (some (.ref ax))) (e_Twice:PySem.W.excIn K ax cO "ValueError.__new__"=true)
 {aq:Addr} (b_NoName:PySem.W.nsIn K mainGlobals "NoName"=some (some (.ref aq))) (e_NoName:PySem.W.excIn K aq cO "ValueError.__new__"=true)
 {aj:Addr} (b_NoValue:PySem.W.nsIn K mainGlobals "NoValue"=some (some (.ref aj))) (e_NoValue:PySem.W.excIn K aj cO "ValueError.__new__"=true)
 {av:Addr} (b_NoRow:PySem.W.nsIn K mainGlobals "NoRow"=some (some (.ref av))) (e_NoRow:PySem.W.excIn K av cO "ValueError.__new__"=true)
 {ai:Addr} (b_Reached:PySem.W.nsIn K mainGlobals "Reached"=some (some (.ref ai))) (e_Reached:PySem.W.excIn K ai cO "ValueError.__new__"=true)
 (fI:bP KK am)
 (nJ:([am,ag,aw,ah,ak,ao,ax,aq,aj,av,ai]:List Addr).map (fun c=>PySem.W.kitOne KK (.ref am) (.ref c))=[some true,some false,some false,some false,some false,some false,some false,some false,some false,some false,some false])
 (ja:PySem.W.kitOne KK (.ref am) (.ref ac)=some true)
 (iI:PySem.W.kitOne KK (.ref am) (.type "ValueError")=some true)
 (fM:bP KK ag)
 (nC:([am,ag,aw,ah,ak,ao,ax,aq,aj,av,ai]:List Addr).map (fun c=>PySem.W.kitOne KK (.ref ag) (.ref c))=[some false,some true,some false,some false,some false,some false,some false,some false,some false,some false,some false])
 (iT:PySem.W.kitOne KK (.ref ag) (.ref ac)=some true)
 (iX:PySem.W.kitOne KK (.ref ag) (.type "ValueError")=some true)
 (fW:bP KK aw)
 (nH:([am,ag,aw,ah,ak,ao,ax,aq,aj,av,ai]:List Addr).map (fun c=>PySem.W.kitOne KK (.ref aw) (.ref c))=[some false,some false,some true,some false,some false,some false,some false,some false,some false,some false,some false])
 (iZ:PySem.W.kitOne KK (.ref aw) (.ref ac)=some true)
 (i8:PySem.W.kitOne KK (.ref aw) (.type "ValueError")=some true)
 (fJ:bP KK ah)
 (nL:([am,ag,aw,ah,ak,ao,ax,aq,aj,av,ai]:List Addr).map (fun c=>PySem.W.kitOne KK (.ref ah) (.ref c))=[some false,some false,some false,some true,some false,some false,some false,some false,some false,some false,some false])
 (iS:PySem.W.kitOne KK (.ref ah) (.ref ac)=some true)
 (iV:PySem.W.kitOne KK (.ref ah) (.type "ValueError")=some true)
 (fY:bP KK ak)
 (nY:([am,ag,aw,ah,ak,ao,ax,aq,aj,av,ai]:List Addr).map (fun c=>PySem.W.kitOne KK (.ref ak) (.ref c))=[some false,some false,some false,some false,some true,some false,some false,some false,some false,some false,some false])
 (i7:PySem.W.kitOne KK (.ref ak) (.ref ac)=some true)
 (iR:PySem.W.kitOne KK (.ref ak) (.type "ValueError")=some true)
 (fV:bP KK ao)
 (nK:([am,ag,aw,ah,ak,ao,ax,aq,aj,av,ai]:List Addr).map (fun c=>PySem.W.kitOne KK (.ref ao) (.ref c))=[some false,some false,some false,some false,some false,some true,some false,some false,some false,some false,some false])
 (iW:PySem.W.kitOne KK (.ref ao) (.ref ac)=some true)
 (i6:PySem.W.kitOne KK (.ref ao) (.type "ValueError")=some true)
 (fP:bP KK ax)
 (nN:([am,ag,aw,ah,ak,ao,ax,aq,aj,av,ai]:List Addr).map (fun c=>PySem.W.kitOne KK (.ref ax) (.ref c))=[some false,some false,some false,some false,some false,some false,some true,some false,some false,some false,some false])
 (i3:PySem.W.kitOne KK (.ref ax) (.ref ac)=some true)
 (i0:PySem.W.kitOne KK (.ref ax) (.type "ValueError")=some true)
 (fU:bP KK aq)
 (nU:([am,ag,aw,ah,ak,ao,ax,aq,aj,av,ai]:List Addr).map (fun c=>PySem.W.kitOne KK (.ref aq) (.ref c))=[some false,some false,some false,some false,some false,some false,some false,some true,some false,some false,some false])
 (iP:PySem.W.kitOne KK (.ref aq) (.ref ac)=some true)
 (iY:PySem.W.kitOne KK (.ref aq) (.type "ValueError")=some true)
 (fK:bP KK aj)
 (nT:([am,ag,aw,ah,ak,ao,ax,aq,aj,av,ai]:List Addr).map (fun c=>PySem.W.kitOne KK (.ref aj) (.ref c))=[some false,some false,some false,some false,some false,some false,some false,some false,some true,some false,some false])
 (iJ:PySem.W.kitOne KK (.ref aj) (.ref ac)=some true)
 (iM:PySem.W.kitOne KK (.ref aj) (.type "ValueError")=some true)
 (fX:bP KK av)
 (nF:([am,ag,aw,ah,ak,ao,ax,aq,aj,av,ai]:List Addr).map (fun c=>PySem.W.kitOne KK (.ref av) (.ref c))=[some false,some false,some false,some false,some false,some false,some false,some false,some false,some true,some false])
 (i9:PySem.W.kitOne KK (.ref av) (.ref ac)=some true)
 (i_:PySem.W.kitOne KK (.ref av) (.type "ValueError")=some true)
 (dJ:bP KK ai)
 (iU:([am,ag,aw,ah,ak,ao,ax,aq,aj,av,ai]:List Addr).map (fun c=>PySem.W.kitOne KK (.ref ai) (.ref c))=[some false,some false,some false,some false,some false,some false,some false,some false,some false,some false,some true])
 (fL:PySem.W.kitOne KK (.ref ai) (.ref ac)=some true)
 (fT:PySem.W.kitOne KK (.ref ai) (.type "ValueError")=some true)
 (nE:(f9 KK am).contains (.ref ac)=true)
 : ∃ t:Tx KK mg,t.f_j=f_j:=
 ⟨⟨f_a,_,cr (st:=bd) (ps:=bz) U l_a c_a (cZ X G a_a) fun _ _ _ _ _ _ us hl=>pP (Q:=fun us=>bindArgs _ ⟨us,[]⟩=pure (List.zip bz us)) hl fun _=>rfl,
   f_b,_,cr (st:=be) (ps:=bA) U l_b c_b (cZ X G a_b) fun _ _ _ _ _ _ us hl=>uY (Q:=fun us=>bindArgs _ ⟨us,[]⟩=pure (List.zip bA us)) hl rfl,
   f_c,_,cr (st:=aZ) (ps:=bj) U l_c c_c (cZ X G a_c) fun _ _ _ _ _ _ us hl=>pQ (Q:=fun us=>bindArgs _ ⟨us,[]⟩=pure (List.zip bj us)) hl fun _ _=>rfl,
   f_d,_,cr (st:=bY) (ps:=cw) U l_d c_d (cZ X G a_d) fun _ _ _ _ _ _ us hl=>pQ (Q:=fun us=>bindArgs _ ⟨us,[]⟩=pure (List.zip cw us)) hl fun _ _=>rfl,
   f_e,_,cr (st:=bZ) (ps:=cx) U l_e c_e (cZ X G a_e) fun _ _ _ _ _ _ us hl=>pP (Q:=fun us=>bindArgs _ ⟨us,[]⟩=pure (List.zip cx us)) hl fun _=>rfl,
   f_f,_,cr (st:=d5) (ps:=fG) U l_f c_f (cZ X G a_f) fun _ _ _ _ _ _ us hl=>pQ (Q:=fun us=>bindArgs _ ⟨us,[]⟩=pure (List.zip fG us)) hl fun _ _=>rfl,
   f_g,_,cr (st:=bH) (ps:=b9) U l_g c_g (cZ X G a_g) fun _ _ _ _ _ _ us hl=>sP (Q:=fun us=>bindArgs _ ⟨us,[]⟩=pure (List.zip b9 us)) hl fun _ _ _=>rfl,
   f_h,_,cr (st:=a_) (ps:=bn) U l_h c_h (cZ X G a_h) fun _ _ _ _ _ _ us hl=>sP (Q:=fun us=>bindArgs _ ⟨us,[]⟩=pure (List.zip bn us)) hl fun _ _ _=>rfl,
   f_i,_,cr (st:=gx) (ps:=iC) U l_i c_i (cZ X G a_i) fun _ _ _ _ _ _ us hl=>sP (Q:=fun us=>bindArgs _ ⟨us,[]⟩=pure (List.zip iC us)) hl fun _ _ _=>rfl,
   f_j,_,cr (st:=ez) (ps:=iD) U l_j c_j (cZ X G a_j) fun _ _ _ _ _ _ us hl=>pP (Q:=fun us=>bindArgs _ ⟨us,[]⟩=pure (List.zip iD us)) hl fun _=>rfl,
   xq X G z_ValueError,
   xq X G z_isinstance,
   xq X G z_len,
   xq X G z_list,
   xq X G z_range,
   ac,⟨cZ X G b_WalkError,(U.exc e_WalkError).1⟩,
   am,⟨cZ X G b_NoStep,(U.exc e_NoStep).1⟩,
   ag,⟨cZ X G b_NotPlain,(U.exc e_NotPlain).1⟩,
   aw,⟨cZ X G b_NoWay,(U.exc e_NoWay).1⟩,
   ah,⟨cZ X G b_TooLong,(U.exc e_TooLong).1⟩,
   ak,⟨cZ X G b_Endless,(U.exc e_Endless).1⟩,
   ao,⟨cZ X G b_NoText,(U.exc e_NoText).1⟩,
   ax,⟨cZ X G b_Twice,(U.exc e_Twice).1⟩,
   aq,⟨cZ X G b_NoName,(U.exc e_NoName).1⟩,
   aj,⟨cZ X G b_NoValue,(U.exc e_NoValue).1⟩,
   av,⟨cZ X G b_NoRow,(U.exc e_NoRow).1⟩,
   ai,⟨cZ X G b_Reached,(U.exc e_Reached).1⟩,
   fI,
   nJ,
   ja,
   iI,
   fM,
   nC,
   iT,
   iX,
   fW,
   nH,
   iZ,
   i8,
   fJ,
   nL,
   iS,
   iV,
   fY,
   nY,
   i7,
   iR,
   fV,
   nK,
   iW,
   i6,
   fP,
   nN,
   i3,
   i0,
   fU,
   nU,
   iP,
   iY,
   fK,
   nT,
   iJ,
   iM,
   fX,
   nF,
   i9,
   i_,
   dJ,
   iU,
   fL,
   fT,
   nE⟩,rfl⟩
theorem sQ {l:PySem.W.OpenLaw} {w:World} {K:yf} {mg:Str->Option yh} {fa:Addr} (hfa:mg "law"=some (.ref fa)) (T:∃ t:Tx K mg,True) :
 ∃ fd:FuncData,(∀(s:ye)(v:yh),BindsTo s fd ⟨[v],[]⟩ [("_law_script",v)])/\∀ base:Heap,bC l.prog w K mg base (f6 l.prog w) 6 fa fd ["_law_script"] (ve iF):=by
 obtain⟨t,_⟩:=T;have e:=hfa.symm.trans t.h_j.gl;cases e;obtain⟨oc,od,kV,doc,pm,an,cdv,ct,osl,efd,lk,hcd⟩:=t.h_j.fu.ex;exact⟨t.fd_j,fun s v=>by rw[efd];exact .of_eq rfl,fun base=>bC.top (sN t)⟩
end W
namespace W
open PySem L2 L3 L4
def lE (ns:List Int)(k:Int):Int:=if k<ns.length then ((cq ns k).getD 0 % 2147483647+11+k*k)*48271 % 2147483647 else 0
theorem qs (ns:List Int)(k:Int)(h0:0<=k)(h1:k<100):aJ [.lst (ns.map .int),.int k]=.ok (.val (.int (lE ns k)) true []):=by
 have g1:-18446744073709551616<k:=by lia
 have g2:k<18446744073709551616:=by lia
 by_cases h:k<ns.length
 .have hd:decide (k<(ns.length:Int))=true:=gJ h;obtain⟨a,ea,_⟩:=sI h0 h;have ha:cq (ns.map D.int) k=some (.int a):=by rw[pN,ea];rfl
  simp_arith[aJ,b8,eB,hd,ha,g1,g2];unfold lE;rw[da h,ea];rfl
 .have hd:decide (k<(ns.length:Int))=false:=xl h;simp_arith[aJ,b8,eB,hd];unfold lE;rw[fR h]
theorem sR (ns:List Int):aJ [.lst (ns.map .int),.int 0]=.ok (.val (.int (lE ns 0)) true []):=qs ns 0 (by decide) (by decide)
theorem nz (ns:List Int):aJ [.lst (ns.map .int),.int 1]=.ok (.val (.int (lE ns 1)) true []):=qs ns 1 (by decide) (by decide)
theorem sS:cD []=.ok (.val (.bl true) true []):=rfl
theorem sT {e1 e2 e3 e4 e5 e6 e7:Option Sl}{ns:List Int}{g fr:Bool}(xs:List Nat)(hl:xs.length<=1000000)(hx:∀ x∈xs,x<100) :
 ∃ st:List Int,iA 1 [0] (gN 0) (fun _=>.ok true) dE [some (.val (.lst (ns.map .int)) g),e1,e2,e3,e4,e5,e6,e7] ⟨xs.map fun i=>.int (i:Nat),fr,[]⟩=.ok (.new (st.map .int) true)/\st.length=xs.length:=by
 have h:=dX (mk:=fun d=>gN 0 d fr (dg [some (.val (.lst (ns.map .int)) g),e1,e2,e3,e4,e5,e6,e7] 1 [0])) (test:=fun _=>.ok true) (elt:=dE) (fun i:Nat=>D.int i) (fun c=>.val (.int (lE ns 1 / ((c:Int)+1) % 3)) true []) xs fun c hc=>⟨_,rfl,rfl,by
  show dE [some (.val (.int c) fr),some (.val (.lst (ns.map .int)) g)]=_;have h1:(0:Int)<(c:Int)+1:=by lia
  have h2:(c:Int)+1<1073741824:=by have:=hx c hc;lia
  simp_arith[dE,nz,h1,h2]
  trace_state⟩
 refine⟨xs.map fun(k:Nat)=>lE ns 1 / ((k:Int)+1) % 3,?_,by simp⟩;rw[kh (by rw[eB];exact hl) h,qo,iB,List.map_map,jE (dZ _ _ fun c=>dC _)];rfl
theorem u1 {e:En}{fr:Bool}{al:List Nat}(xs:List Int)(hl:xs.length<=1000000) :
 iA 1 [] (gN 0) (fun _=>.ok true) dF e ⟨xs.map .int,fr,al⟩=.ok (.new ((xs.map fun c=>c % 13-6).map .int) true):=by
 have h:=dX (mk:=fun d=>gN 0 d fr (dg e 1 [])) (test:=fun _=>.ok true) (elt:=dF) D.int (fun c=>.val (.int (c % 13-6)) true []) xs fun c hc=>⟨_,rfl,rfl,by show dF [some (.val (.int c) fr)]=_;simp_arith[dF]⟩;rw[kh (by rw[eB];exact hl) h,qo,iB,List.map_map,jE (dZ _ _ fun c=>dC _)];rfl
theorem u2 (a x:Int) (s:D):b_ [.tup [.int a,.int 3,.lst []],s,.int x]=.exc "NoStep":=by
 by_cases h:x<0
 .have h1:decide (x<0)=true:=gJ h;simp_arith[b_,di,h1]
 .have h1:decide (x<0)=false:=xl h;have h2:decide (0<=x)=true:=gJ (by lia);simp_arith[b_,di,h1,h2]
theorem wD (d:D):cq [d] (-1)=some d:=(rfl)
theorem pR (a b:Int)(st:List Int):gy [.tup [.int a,.int 3,.lst []],.tup [.int b,.lst (st.map .int)],.lst []]=.ok (.val (.tup [.int b,.lst (st.map .int)]) true []):=by simp_arith[gy,nu,bB,cb,b7,sG,wD]
theorem nA (a b x:Int) (st r:List Int):gy [.tup [.int a,.int 3,.lst []],.tup [.int b,.lst (st.map .int)],.lst (.int x::r.map .int)]=.exc "NoStep":=by have e:∀(body:En->Res Fl)(x:D)(xs:List D)(e0 e1 e2 e3 e4 e5:Option Sl),cU (gN 4) false body (x::xs) [e0,e1,e2,e3,e4,e5]=(body [e0,e1,e2,e3,some (.val x false),e5]).bind (qm (gN 4) false body xs):=fun _ _ _ _ _ _ _ _ _=>sF rfl;simp_arith[gy,nu,bB,cb,b7,e,cy,u2,wD]
theorem v_ {f g:Bool}{al:List Nat}:rg (.val (.lst []) f al) (.new [] g)=.ok (.val (.bl false) true []):=(rfl)
theorem wa {f g:Bool}{al:List Nat}:lD (.val (.lst []) f al) (.new [] g)=.ok (.val (.bl true) true []):=(rfl)
theorem wb {f g:Bool}{al:List Nat}:lD (.val (.lst [.int 0]) f al) (.new [.int 0] g)=.ok (.val (.bl true) true []):=(rfl)
theorem wd {f g:Bool}{al:List Nat}{x:Int}{r:List Int}:rg (.val (.lst (.int x::r.map .int)) f al) (.new [] g)=.ok (.val (.bl true) true []):=by have h:=gr (x::r);rw[xI]at h;rw[v3 (a:=.val (.lst (.int x::r.map .int)) f al) (b:=.new [] g) (by show(D.lst (.int x::r.map .int)).dep<=50;rw[g8];lia) (by show 1<=50;decide)];rfl
theorem we {f g:Bool}{al bl:List Nat}{x:Int}{st:List Int}:lD (.val (.tup [.int x,.lst (st.map .int)]) f al) (.val (.tup [.int x,.lst (st.map .int)]) g bl)=.ok (.val (.bl true) true []):=by
 have h:=gr st;have hd:(D.tup [.int x,.lst (st.map .int)]).dep<=50:=by simp only[kj,g8,dY,ki,fE];lia
 rw[v1 (a:=.val (.tup [.int x,.lst (st.map .int)]) f al) (b:=.val (.tup [.int x,.lst (st.map .int)]) g bl) hd hd,eU,eU,dw]
theorem w6 {rs:List R}{f:List R->Res Fl}:(Res.ok rs).vh.bind f=f rs:=(rfl)
theorem w8 {a b c:R}:List.map R.d [a,b,c]=[a.d,b.d,c.d]:=(rfl)
theorem sU (ns:List Int)(hl:ns.length<=63):iF [.lst (ns.map .int)]=.ok (.val (.bl true) true []):=by
 have b1:-4611686018427387904<=lE ns 1 % 5:=by lia
 have b2:lE ns 1 % 5<4611686018427387904:=by lia
 obtain⟨st,hst,ls⟩:=sT (e1:=some (.val (.int (1+lE ns 0 % 3)) true)) (e2:=none) (e3:=none) (e4:=none) (e5:=none) (e6:=none) (e7:=none) (ns:=ns) (g:=false) (fr:=true) (List.range (lE ns 1 % 5).toNat) (by rw[List.length_range];lia) (fun x hx=>by rw[List.mem_range]at hx;lia);rw[<- pM]at hst;have hk:=uS (f:=true) (al:=[]) b1 b2;have hc:cK (ns.map D.int) none (some 60)=(cK ns none (some 60)).map D.int:=nh _ _ _ _;have ln:(cK ns none (some 60)).length<=1000000:=nW (ni _ _ _) (by lia);have h5:=fun e fr al=>u1 (e:=e) (fr:=fr) (al:=al) _ ln;generalize (cK ns none (some 60)).map (fun c=>c % 13-6)=ms at h5;simp_arith[iF,qq,kA,sS,sR,kz,nz,hk,hst,ky,hc,b7,h5,kx,ku,kr,kq,kg,w6,w8,eU];generalize 1+lE ns 0 % 3=q;cases ms with
 |nil=>rw[List.map_nil,pR];simp_arith[gq,x9,b7,g_,iE,v_,wa,we]
 |cons x r=>
  have hcn:(["NoStep"]:List Str).contains "NoStep"=true:=by decide
  rw[xI,nA];simp_arith[gq,x9,hcn,b7,g_,wd,wb]
end W
open PySem PySem.W PyProof.Rows
set_option maxRecDepth 100000 in
set_option maxHeartbeats 0 in
theorem PySem.Challenge.cw_callwalk_k05_refusals_stand_apart_holds : PySem.Challenge.rw_callwalk_k05_refusals_stand_apart.Holds := by
 w_on;o_law;k_head;(case hw=>w_witness2)
 k_fill
 refine L2.l5 (l:=PySem.Challenge.rw_callwalk_k05_refusals_stand_apart) (n:=63) (k:=6) (x:="_law_script") (CX:=fun w=>L2.f6 PySem.Challenge.pw_callwalk_k05_refusals_stand_apart w) (sp:=fun _=>L3.ve W.iF) rfl (by decide) rfl ⟨rfl,by decide,by decide⟩ (fun w h Y=>PySem.W.kIn_of Y) ?kL ?F ?S ?C
 case kL=>exact fun w=>⟨by rfl,by rfl⟩
 case F=>
  intro w mg fa h KX G hmg
  refine' Exists.imp (fun _ z=>⟨z.1,fun base _ _=>z.2 base⟩) (W.sQ hmg ?_)
  refine' Exists.imp (fun _ _=>True.intro) (W.uZ KX G L2.k7 ?a_a ?l_a ?c_a ?a_b ?l_b ?c_b ?a_c ?l_c ?c_c ?a_d ?l_d ?c_d ?a_e ?l_e ?c_e ?a_f ?l_f ?c_f ?a_g ?l_g ?c_g ?a_h ?l_h ?c_h ?a_i ?l_i ?c_i ?a_j ?l_j ?c_j ?z_ValueError ?z_isinstance ?z_len ?z_list ?z_range ?b_WalkError ?e_WalkError ?b_NoStep ?e_NoStep ?b_NotPlain ?e_NotPlain ?b_NoWay ?e_NoWay ?b_TooLong ?e_TooLong ?b_Endless ?e_Endless ?b_NoText ?e_NoText ?b_Twice ?e_Twice ?b_NoName ?e_NoName ?b_NoValue ?e_NoValue ?b_NoRow ?e_NoRow ?b_Reached ?e_Reached ?fI ?nJ ?ja ?iI ?fM ?nC ?iT ?iX ?fW ?nH ?iZ ?i8 ?fJ ?nL ?iS ?iV ?fY ?nY ?i7 ?iR ?fV ?nK ?iW ?i6 ?fP ?nN ?i3 ?i0 ?fU ?nU ?iP ?iY ?fK ?nT ?iJ ?iM ?fX ?nF ?i9 ?i_ ?dJ ?iU ?fL ?fT ?nE)
  (case a_a=>k_is)
  (case l_a=>k_is)
  (case c_a=>k_is)
  (case a_b=>k_is)
  (case l_b=>k_is)
  (case c_b=>k_is)
  (case a_c=>k_is)
  (case l_c=>k_is)
  (case c_c=>k_is)
  (case a_d=>k_is)
  (case l_d=>k_is)
  (case c_d=>k_is)
  (case a_e=>k_is)
  (case l_e=>k_is)
  (case c_e=>k_is)
  (case a_f=>k_is)
  (case l_f=>k_is)
  (case c_f=>k_is)
  (case a_g=>k_is)
  (case l_g=>k_is)
  (case c_g=>k_is)
  (case a_h=>k_is)
  (case l_h=>k_is)
  (case c_h=>k_is)
  (case a_i=>k_is)
  (case l_i=>k_is)
  (case c_i=>k_is)
  (case a_j=>k_is)
  (case l_j=>k_is)
  (case c_j=>k_is)
  (case z_ValueError=>k_is)
  (case z_isinstance=>k_is)
  (case z_len=>k_is)
  (case z_list=>k_is)
  (case z_range=>k_is)
  (case b_WalkError=>k_is)
  (case e_WalkError=>k_exc)
  (case b_NoStep=>k_is)
  (case e_NoStep=>k_exc)
  (case b_NotPlain=>k_is)
  (case e_NotPlain=>k_exc)
  (case b_NoWay=>k_is)
  (case e_NoWay=>k_exc)
  (case b_TooLong=>k_is)
  (case e_TooLong=>k_exc)
  (case b_Endless=>k_is)
  (case e_Endless=>k_exc)
  (case b_NoText=>k_is)
  (case e_NoText=>k_exc)
  (case b_Twice=>k_is)
  (case e_Twice=>k_exc)
  (case b_NoName=>k_is)
  (case e_NoName=>k_exc)
  (case b_NoValue=>k_is)
  (case e_NoValue=>k_exc)
  (case b_NoRow=>k_is)
  (case e_NoRow=>k_exc)
  (case b_Reached=>k_is)
  (case e_Reached=>k_exc)
  (case fI=>exact⟨by k_is,by k_is,by k_is,by k_is,by k_is,by k_is,by k_is,by rfl⟩)
  (case nJ=>rfl)
  (case ja=>rfl)
  (case iI=>rfl)
  (case fM=>exact⟨by k_is,by k_is,by k_is,by k_is,by k_is,by k_is,by k_is,by rfl⟩)
  (case nC=>rfl)
  (case iT=>rfl)
  (case iX=>rfl)
  (case fW=>exact⟨by k_is,by k_is,by k_is,by k_is,by k_is,by k_is,by k_is,by rfl⟩)
  (case nH=>rfl)
  (case iZ=>rfl)
  (case i8=>rfl)
  (case fJ=>exact⟨by k_is,by k_is,by k_is,by k_is,by k_is,by k_is,by k_is,by rfl⟩)
  (case nL=>rfl)
  (case iS=>rfl)
  (case iV=>rfl)
  (case fY=>exact⟨by k_is,by k_is,by k_is,by k_is,by k_is,by k_is,by k_is,by rfl⟩)
  (case nY=>rfl)
  (case i7=>rfl)
  (case iR=>rfl)
  (case fV=>exact⟨by k_is,by k_is,by k_is,by k_is,by k_is,by k_is,by k_is,by rfl⟩)
  (case nK=>rfl)
  (case iW=>rfl)
  (case i6=>rfl)
  (case fP=>exact⟨by k_is,by k_is,by k_is,by k_is,by k_is,by k_is,by k_is,by rfl⟩)
  (case nN=>rfl)
  (case i3=>rfl)
  (case i0=>rfl)
  (case fU=>exact⟨by k_is,by k_is,by k_is,by k_is,by k_is,by k_is,by k_is,by rfl⟩)
  (case nU=>rfl)
  (case iP=>rfl)
  (case iY=>rfl)
  (case fK=>exact⟨by k_is,by k_is,by k_is,by k_is,by k_is,by k_is,by k_is,by rfl⟩)
  (case nT=>rfl)
  (case iJ=>rfl)
  (case iM=>rfl)
  (case fX=>exact⟨by k_is,by k_is,by k_is,by k_is,by k_is,by k_is,by k_is,by rfl⟩)
  (case nF=>rfl)
  (case i9=>rfl)
  (case i_=>rfl)
  (case dJ=>exact⟨by k_is,by k_is,by k_is,by k_is,by k_is,by k_is,by k_is,by rfl⟩)
  (case iU=>rfl)
  (case fL=>rfl)
  (case fT=>rfl)
  (case nE=>rfl)
 case S=>exact fun w H a ns hl hS=>L3.rz (fun ns hn=>⟨_,_,W.sU ns hn⟩) H a ns hl hS
 case C=>exact fun _ _ _ _ _ z=>L3.rB z
