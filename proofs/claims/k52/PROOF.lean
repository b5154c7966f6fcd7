import PyProof.Rows.All
import Wide.All
import OpenK.AllK
import Wide.FinOn
import Lean
import PyProof.EqAt
import PyProof.EqKinds
import PyProof.TupleCall
import PyProof.ZipIter
import PyProof.AttrMissHeap
import PyProof.Walks
import PyProof.WalksS
import PySem.SetTable
import KE.KSortTup
import KE.KRevIter
import PyProof.Rows.SetFrom
import PyProof.CollectWalk
import PyProof.DictWalks
import PyProof.DictItems
import KE.KDictList
import PyProof.ListRange
import PyProof.EqAt
import PyProof.WalkInts
import PyProof.StrBlockG
import PyProof.SumWalk
import PyProof.Rows.TupIter
import PyProof.StrLawsIdx
import PyProof.CallStr
import PyProof.StrCalls2
import PyProof.StrWalks
import KE.KIntText
import PyProof.SetRoads
import PyProof.StrLawsTight
import PyProof.Rows.FStr
import PyProof.Draws
import PyProof.EnumMake
import PyProof.ConsumeWalk
import PySem.Challenge.RW_callwalk_k52_shown_read_again
set_option Elab.async false
set_option linter.all false
set_option genSizeOf false
set_option genSizeOfSpec false
set_option compiler.extract_closed false
set_option maxRecDepth 100000
set_option maxHeartbeats 4000000
set_option bootstrap.genMatcherCode false
theorem autoR (h : True := by rfl) : True := h
theorem autoD (h : True := by decide) : True := h
theorem autoI (h : ∀ u : Unit, u = u := by intro _; rfl) : True := True.intro
theorem autoF (h : True := by first|exact .inl rfl|exact .inr rfl|assumption) : True := h
theorem autoG (h : True := by first|exact Or.inl rfl|exact Or.inr (Or.inl rfl)|exact Or.inr (Or.inr rfl)) : True := h
theorem autoJ (h : True := by intro _ _; rfl) : True := h

namespace L2
open PySem PySem.Spec PyProof.Rows
noncomputable abbrev Key:=Sum Int Str
noncomputable def ky:Key->Value->Bool
 | .inl k,v=>Value.isInt k v
 | .inr x,v=>Value.isStrOf x v
noncomputable def Cz (w:World):Key->Int
 | .inl k=>hashInt k
 | .inr x=>hashStr w x
theorem bb:∀{k:Key}{v:Value},ky k v=true->(∃ i t,k=Sum.inl i/\v=Value.int i t)\/(∃ x t,k=Sum.inr x/\v=Value.str x t)
 | .inl i,v,h=>by
  obtain⟨t,e⟩:=Value.isInt_shape (k:=i) (v:=v) h
  exact .inl ⟨i,t,rfl,e⟩
 | .inr x,v,h=>by
  obtain⟨t,e⟩:=Value.isStrOf_shape (x:=x) (v:=v) h
  exact .inr ⟨x,t,rfl,e⟩
theorem pH (i:Int)(t:Tok):ky (.inl i) (.int i t)=true:=by simp[ky,Value.isInt]
theorem pI (x:Str)(t:Tok):ky (.inr x) (.str x t)=true:=by simp[ky,Value.isStrOf]
theorem xI (a b:Int):decide ((Sum.inl a:Key)=Sum.inl b)=(a==b):=by
 by_cases e:a=b
 ·subst e;simp
 ·have h:¬ (Sum.inl a:Key)=Sum.inl b:=fun q=>e (Sum.inl.inj q)
  rw[decide_eq_false h]
  exact(beq_eq_false_iff_ne.mpr e).symm
theorem xJ (a b:Str):decide ((Sum.inr a:Key)=Sum.inr b)=decide (a=b):=by
 by_cases e:a=b
 ·subst e;simp
 ·have h:¬ (Sum.inr a:Key)=Sum.inr b:=fun q=>e (Sum.inr.inj q)
  rw[decide_eq_false h,decide_eq_false e]
theorem xK (a:Int)(b:Str):decide ((Sum.inl a:Key)=Sum.inr b)=false:=decide_eq_false (fun q=>nomatch q)
theorem xL (a:Str)(b:Int):decide ((Sum.inr a:Key)=Sum.inl b)=false:=decide_eq_false (fun q=>nomatch q)
noncomputable def aV (prog:Program)(w:World):PySem.KeyKind prog w Key where
 is:=ky
 hash:=Cz w
 inj:=fun v a b ha hb=>by
  rcases bb ha with⟨i,t,rfl,rfl⟩|⟨x,t,rfl,rfl⟩
  ·rcases bb hb with⟨j,u,rfl,e⟩|⟨y,u,rfl,e⟩
   ·injection e with e1 _;rw[e1]
   ·exact nomatch e
  ·rcases bb hb with⟨j,u,rfl,e⟩|⟨y,u,rfl,e⟩
   ·exact nomatch e
   ·injection e with e1 _;rw[e1]
 byValue:=fun k v h=>by
  rcases bb h with⟨i,t,rfl,rfl⟩|⟨x,t,rfl,rfl⟩<;>rfl
 pyHash:=fun hv h=>by
  rcases bb hv with⟨i,t,rfl,rfl⟩|⟨x,t,rfl,rfl⟩
  ·exact wpAny_pyHash_int h
  ·exact wpAny_pyHash_str h
 eqBool:=fun hu hv h=>by
  rcases bb hu with⟨i,t,rfl,rfl⟩|⟨x,t,rfl,rfl⟩
  ·rcases bb hv with⟨j,u,rfl,rfl⟩|⟨y,u,rfl,rfl⟩
   ·rw[xI]at h;exact wpAny_eqBool_int h
   ·rw[xK]at h;exact SeqAt.EqAt.int_str i t y u _ _ _ _ h
  ·rcases bb hv with⟨j,u,rfl,rfl⟩|⟨y,u,rfl,rfl⟩
   ·rw[xL]at h;exact SeqAt.EqAt.str_int x t j u _ _ _ _ h
   ·rw[xJ]at h;exact wpAny_eqBool_str h
 «strs»:=fun k x t v h=>by
  rcases bb h with⟨i,u,rfl,e⟩|⟨y,u,rfl,e⟩
  ·exact nomatch e
  ·injection e with e1 _
   subst e1
   cases v<;>rfl
theorem my (prog:Program)(w:World)(i:Int)(t:Tok):(aV prog w).is (.inl i) (.int i t)=true:=pH i t
theorem eY (prog:Program)(w:World)(x:Str)(t:Tok):(aV prog w).is (.inr x) (.str x t)=true:=pI x t
end L2
namespace L2
open PySem PySem.Spec PyProof.Rows
inductive V where
 |non|bl (b:Bool)|int (i:Int)|str (x:Str)|byt (b:Array UInt8)|flt (b:UInt64)|ref (a:Addr)|ty (n:String)
 deriving DecidableEq
noncomputable def RelV:V->Value->Prop
 | .non,u=>u=Value.none
 | .bl b,u=>u=Value.bool b
 | .int i,u=>∃ t,u=Value.int i t
 | .str x,u=>∃ t,u=Value.str x t
 | .byt b,u=>∃ t,u=Value.bytes b t
 | .flt b,u=>∃ t,u=Value.float b t
 | .ref a,u=>u=Value.ref a
 | .ty n,u=>u=Value.type n
noncomputable abbrev Vals:List V->List Value->Prop:=Paired RelV
theorem Vals.length {xs:List V}{us:List Value}(r:Vals xs us):xs.length=us.length:=Paired.length r
theorem Vals.get:∀{xs:List V}{us:List Value}{i:Nat}{x:V},Vals xs us->xs[i]?=some x->∃ u,us[i]?=some u/\RelV x u
 |_,_,_,_,.nil,e=>by simp at e
 |_,_,0,_,.cons r _,e=>by simp at e;subst e;exact⟨_,rfl,r⟩
 |_,_,i+1,x,.cons _ t,e=>by
  obtain⟨u,h1,h2⟩:=Vals.get (i:=i) (x:=x) t (by simpa using e)
  exact⟨u,by simpa using h1,h2⟩
theorem Vals.set {x:V}{u:Value}(r:RelV x u):∀{xs:List V}{us:List Value}(i:Nat),Vals xs us->Vals (xs.set i x) (us.set i u)
 |_,_,_,.nil=>.nil
 |_,_,0,.cons _ t=>.cons r t
 |_,_,i+1,.cons q t=>.cons q (Vals.set r i t)
theorem Vals.append:∀{xs ys:List V}{us ws:List Value},Vals xs us->Vals ys ws->Vals (xs++ys) (us++ws)
 |_,_,_,_,.nil,s=>s
 |_,_,_,_,.cons r t,s=>.cons r (Vals.append t s)
theorem Vals.take:∀{xs:List V}{us:List Value}(n:Nat),Vals xs us->Vals (xs.take n) (us.take n)
 |_,_,0,_=>.nil
 |_,_,_+1,.nil=>.nil
 |_,_,n+1,.cons r t=>.cons r (Vals.take n t)
theorem Vals.drop:∀{xs:List V}{us:List Value}(n:Nat),Vals xs us->Vals (xs.drop n) (us.drop n)
 |_,_,0,r=>r
 |_,_,_+1,.nil=>.nil
 |_,_,n+1,.cons _ t=>Vals.drop n t
noncomputable def RelO:Option V->Option Value->Prop
 |some v,some u=>RelV v u
 |none,none=>True
 |_,_=>False
noncomputable def KV {κ:Type}:List (κ×V)->List (κ×Value)->Prop:=Paired fun(p:κ×V)(q:κ×Value)=>p.1=q.1/\RelV p.2 q.2
noncomputable def kV:Key->V
 | .inl i=>.int i
 | .inr x=>.str x
inductive HO where
  
 |lst (xs:List V)
  
 |tup (xs:List V)
  
 |dK (kvs:List (Key×V))|dT (kvs:List (List Key×V))
  
 |set (S:Int->Bool) (n:Nat)
  
 |ins (C dx:Addr) (fs:List (Str×V))
  
 |own (x:Addr)
  
 |xd (fs:List (Str×V))
  
 |met (f x:Addr)
  
 |rng (lo hi:Int)
  
 |frz (o:Obj) (u:HO)
  
 |tbl (ps:Array Value)
  
 |ext (φ:Heap->Prop)
noncomputable abbrev Hp:=Addr->Option HO
noncomputable def bf (H:Hp)(a:Addr)(o:HO):Hp:=fun b=>if b=a then some o else H b
theorem aL {H:Hp}{a:Addr}{o:HO}:bf H a o a=some o:=by unfold bf;rw[if_pos rfl]
theorem aq {H:Hp}{a b:Addr}{o:HO}(h:b≠a):bf H a o b=H b:=by unfold bf;rw[if_neg h]
theorem ak {H:Hp}{a b:Addr}{o:HO}(h:H a=some o)(h':H b=none):a≠b:=by
 intro e;subst e;rw[h]at h';cases h'
section
variable (P:Program)(w:World)
noncomputable def ObjOk (H:Hp)(h:Heap)(a:Addr):HO->Prop
 | .lst xs=>xs.length<=sizeLine/\∃(its:List Value)(n:Nat),Vals xs its/\h.get? a=some { cls:=.type "list",data:=.seq its.toArray n }
 | .tup xs=>xs.length<=sizeLine/\∃ its:List Value,Vals xs its/\IsTup h a its.toArray
 | .dK kvs=>kvs.length<=sizeLine/\(a==sysModules)=false/\∃ vs,KV kvs vs/\h.DictOf (aV P w) a vs
 | .dT kvs=>kvs.length<=sizeLine/\(a==sysModules)=false/\∃ xs:List (List Key×Addr×Value),
  Paired (fun(p:List Key×V)(q:List Key×Addr×Value)=>p.1=q.1/\H q.2.1=some (.tup (p.1.map kV))/\RelV p.2 q.2.2) kvs xs/\
  ∃ o es ep,h.get? a=some o/\o.ExactDict/\o.data=.dict es ep/\es.toList=xs.map (entryOfKey (tupleKind (aV P w)))/\(xs.map (·.1)).Nodup
 | .set S n=>h.SetOf (intKind P w) a S n
 | .ins C dx fs=>H dx=some (.own a)/\fs.length<=1000/\dx≠a/\h.get? a=some (PySem.W.instObj C dx)/\
  ∃ mA,h.Ns1 dx mA/\(∀ f,RelO (fs.lookup f) (mA f))/\PySem.Within mA (fs.map (·.1))
 | .own _=>∃ o,h.get? a=some o
 | .xd fs=>∃ mA,h.Ns1 a mA/\∀ f,RelO (fs.lookup f) (mA f)
 | .rng lo hi=>∃ t u v,h.get? a=some { cls:=.type "range",data:=.fields #[.int lo t,.int hi u,.int 1 v] }
 | .frz o u=>h.get? a=some o/\ObjOk H h a u
 | .tbl ps=>h.get? a=some { cls:=.none,data:=.fields ps }
 | .met f x=>h.get? a=some (PySem.W.methodObj (.ref f) (.ref x))
 | .ext φ=>φ h/\(∃ o,h.get? a=some o)/\∀ h1 h2:Heap,φ h1->(∀ o,h1.get? a=some o->h2.get? a=some o)->φ h2
noncomputable def HOk (H:Hp)(h:Heap):Prop:=∀ a o,H a=some o->ObjOk P w H h a o
end
section
variable {P:Program}{w:World}{H H':Hp}{h h':Heap}{a:Addr}{o:HO}
theorem ObjOk.lt (x:ObjOk P w H h a o):a<h.objs.size:=by
 cases o with
 |lst xs=>obtain⟨_,_,_,_,e⟩:=x;exact Heap.lt_size e
 |tup xs=>obtain⟨_,_,_,p⟩:=x;exact p.lt
 |dK kvs=>obtain⟨_,_,_,_,o,_,_,e,_⟩:=x;exact Heap.lt_size e
 |dT kvs=>obtain⟨_,_,_,_,o,_,_,e,_⟩:=x;exact Heap.lt_size e
 |set S n=>obtain⟨o,_,_,_,e,_⟩:=x;exact Heap.lt_size e
 |ins C dx fs=>obtain⟨_,_,_,e,_⟩:=x;exact Heap.lt_size e
 |own y=>obtain⟨_,e⟩:=x;exact Heap.lt_size e
 |xd fs=>obtain⟨_,⟨_,_,_,e,_⟩,_⟩:=x;exact Heap.lt_size e
 |rng lo hi=>obtain⟨_,_,_,e⟩:=x;exact Heap.lt_size e
 |frz ob u=>obtain⟨e,_⟩:=x;exact Heap.lt_size e
 |tbl ps=>exact Heap.lt_size (show h.get? a=some _ from x)
 |met f y=>exact Heap.lt_size (show h.get? a=some _ from x)
 |ext φ=>obtain⟨_,⟨_,e⟩,_⟩:=x;exact Heap.lt_size e
theorem Paired.mapP {α β:Type}{F G:α->β->Prop}:∀{l₁:List α}{l₂:List β},Paired F l₁ l₂->(∀ a b,F a b->G a b)->Paired G l₁ l₂
 |_,_,.nil,_=>.nil
 |_,_,.cons r t,f=>.cons (f _ _ r) (Paired.mapP t f)
theorem ObjOk.stay (x:ObjOk P w H h a o)(k:∀ b u,(b=a\/H b=some (.own a))->h.get? b=some u->h'.get? b=some u)
 (ho:∀ b,H b=some (.own a)->H' b=some (.own a)) (ht:∀ b xs,H b=some (.tup xs)->H' b=some (.tup xs)):ObjOk P w H' h' a o:=by
 induction o with
 |lst xs=>obtain⟨z,its,n,r,e⟩:=x;exact⟨z,its,n,r,k _ _ (.inl rfl) e⟩
 |tup xs=>obtain⟨z,its,r,ob,e,c⟩:=x;exact⟨z,its,r,ob,k _ _ (.inl rfl) e,c⟩
 |dK kvs=>obtain⟨z,y,vs,r,ob,es,ep,e,c⟩:=x;exact⟨z,y,vs,r,ob,es,ep,k _ _ (.inl rfl) e,c⟩
 |dT kvs=>
  obtain⟨z,y,xs,r,ob,es,ep,e,c⟩:=x
  exact⟨z,y,xs,Paired.mapP r fun p q z=>⟨z.1,ht _ _ z.2.1,z.2.2⟩,ob,es,ep,k _ _ (.inl rfl) e,c⟩
 |set S n=>obtain⟨ob,es,ep,t,e,c⟩:=x;exact⟨ob,es,ep,t,k _ _ (.inl rfl) e,c⟩
 |ins C dx fs=>
  obtain⟨d,z,ne,e,mA,⟨od,es,ep,e2,c⟩,r⟩:=x
  exact⟨ho _ d,z,ne,k _ _ (.inl rfl) e,mA,⟨od,es,ep,k _ _ (.inr d) e2,c⟩,r⟩
 |own y=>obtain⟨ob,e⟩:=x;exact⟨ob,k _ _ (.inl rfl) e⟩
 |xd fs=>obtain⟨mA,⟨od,es,ep,e,c⟩,r⟩:=x;exact⟨mA,⟨od,es,ep,k _ _ (.inl rfl) e,c⟩,r⟩
 |rng lo hi=>obtain⟨t,u,v,e⟩:=x;exact⟨t,u,v,k _ _ (.inl rfl) e⟩
 |frz ob u ih=>obtain⟨e,q⟩:=x;exact⟨k _ _ (.inl rfl) e,ih q⟩
 |tbl ps=>
  have e:h.get? a=some { cls:=.none,data:=.fields ps }:=x
  show h'.get? a=some { cls:=.none,data:=.fields ps }
  exact k a _ (.inl rfl) e
 |met f y=>
  have e:h.get? a=some (PySem.W.methodObj (.ref f) (.ref y)):=x
  show h'.get? a=some (PySem.W.methodObj (.ref f) (.ref y))
  exact k a _ (.inl rfl) e
 |ext φ=>obtain⟨p,⟨o,e⟩,st⟩:=x;exact⟨st _ _ p fun o q=>k _ _ (.inl rfl) q,⟨o,k _ _ (.inl rfl) e⟩,st⟩
theorem HOk.lt (x:HOk P w H h)(e:H a=some o):a<h.objs.size:=(x a o e).lt
theorem HOk.fresh (x:HOk P w H h)(e:h.objs.size<=a):H a=none:=by
 cases q:H a with
 |none=>rfl
 |some u=>exact absurd (Nat.lt_of_lt_of_le (x.lt q) e) (Nat.lt_irrefl _)
theorem HOk.kept (x:HOk P w H h)(k:∀ b u,h.get? b=some u->h'.get? b=some u):HOk P w H h':=fun a o e=>
 (x a o e).stay (fun b u _ q=>k b u q) (fun _ q=>q) fun _ _ q=>q
theorem HOk.laid (x:HOk P w H h)(k:∀ b u,h.get? b=some u->h'.get? b=some u)(hp:h.objs.size<=a)(new:ObjOk P w (bf H a o) h' a o):HOk P w (bf H a o) h':=fun b u e=>by
 have hn:=x.fresh hp
 by_cases hb:b=a
 ·subst hb;rw[aL]at e;cases e;exact new
 ·rw[aq hb]at e
  exact(x b u e).stay (fun c v _ q=>k c v q) (fun c q=>by rw[aq (ak q hn)];exact q) fun c xs q=>by rw[aq (ak q hn)];exact q
end
noncomputable def Rd (H:Hp)(a:Addr)(u:HO):Prop:=H a=some u\/∃ o,H a=some (.frz o u)
theorem Rd.of {H:Hp}{a:Addr}{u:HO}(h:H a=some u):Rd H a u:=.inl h
theorem Rd.ok {P:Program}{w:World}{H:Hp}{h:Heap}{a:Addr}{u:HO}(r:Rd H a u)(x:HOk P w H h):ObjOk P w H h a u:=by
 rcases r with r|⟨o,r⟩
 ·exact x a u r
 ·obtain⟨_,q⟩:=x a _ r
  exact q
noncomputable def Ck:Option HO->Prop
 |some (.lst _)=>True
 |some (.dK _)=>True
 |some (.dT _)=>True
 |some (.set _ _)=>True
 |some (.ins _ _ _)=>True
 |some (.ext _)=>True
 |_=>False
section
variable {P:Program}{w:World}{H:Hp}{h h':Heap}{x e:Addr}{o':HO}
theorem HOk.write (ok:HOk P w H h)(mu:Ck (H x))(he:e=x\/H e=some (.own x))(k:∀ b u,b≠e->h.get? b=some u->h'.get? b=some u)(heo:∃ u,h'.get? e=some u)
 (new:ObjOk P w (bf H x o') h' x o'):HOk P w (bf H x o') h':=fun b u q=>by
 have nown:∀ c y,H c=some (.own y)->c≠x:=fun c y r z=>by subst z;rw[r]at mu;exact mu
 have ntup:∀ c xs,H c=some (.tup xs)->c≠x:=fun c xs r z=>by subst z;rw[r]at mu;exact mu
 by_cases hb:b=x
 ·subst hb;rw[aL]at q;cases q;exact new
 ·rw[aq hb]at q
  by_cases hbe:b=e
  ·have q':H b=some (.own x):=by
    rcases he with z|z
    ·exact absurd (hbe.trans z) hb
    ·rw[hbe];exact z
   rw[q]at q';cases q'
   obtain⟨v,hv⟩:=heo
   exact⟨v,by rw[hbe];exact hv⟩
  ·refine(ok b u q).stay (fun c v hc r=>k c v ?_ r) (fun c r=>by rw[aq (nown c b r)];exact r) fun c xs r=>by rw[aq (ntup c xs r)];exact r
   rcases hc with rfl|hc
   ·exact hbe
   ·rintro rfl
    rcases he with z|z
    ·exact nown c b hc z
    ·rw[hc]at z;cases z;exact hb rfl
end
noncomputable def Qt (H:Hp)(b:Addr):Prop:=H b=none\/∃ xs,H b=some (.tup xs)
structure Un (fs ex:List Addr) (H H':Hp) (h h':Heap):Prop where
 keep:∀ b o,h.get? b=some o->Qt H b->b∉fs->b∉ex->h'.get? b=some o
 slot:∀ b o,h.get? b=some o->H b=none->b∈fs->b∉ex->∃ sl,h'.get? b=some { o with slots:=sl }
 free:∀ b o,h.get? b=some o->H b=none->b∉ex->H' b=none
 there:∀ b o,h.get? b=some o->b∉ex->∃ o',h'.get? b=some o'
 tups:∀ b xs,H b=some (.tup xs)->H' b=some (.tup xs)
 frzs:∀ b o u,H b=some (.frz o u)->H' b=some (.frz o u)
 tbls:∀ b ps,H b=some (.tbl ps)->∃ more,H' b=some (.tbl (ps++more))
section
variable {fs fs' ex ex':List Addr}{H H1 H2:Hp}{h h1 h2 h':Heap}{a x e:Addr}{o:HO}
theorem Un.any (u:Un fs ex H H1 h h1){b:Addr}{ob:Obj}(q:h.get? b=some ob)(n:H b=none)(hx:b∉ex):∃ sl,h1.get? b=some { ob with slots:=sl }:=by
 by_cases hb:b∈fs
 ·exact u.slot b ob q n hb hx
 ·exact⟨ob.slots,u.keep b ob q (.inl n) hb hx⟩
theorem Un.trans (a:Un fs ex H H1 h h1)(b:Un fs ex H1 H2 h1 h2):Un fs ex H H2 h h2 where
 keep:=fun c ob q n hc hx=>b.keep c ob (a.keep c ob q n hc hx) (n.imp (fun n=>a.free c ob q n hx) fun⟨xs,e⟩=>⟨xs,a.tups c xs e⟩) hc hx
 slot:=fun c ob q n hc hx=>by
  obtain⟨sl,e1⟩:=a.slot c ob q n hc hx
  obtain⟨sl',e2⟩:=b.slot c _ e1 (a.free c ob q n hx) hc hx
  exact⟨sl',e2⟩
 free:=fun c ob q n hx=>by
  obtain⟨o',e1⟩:=a.there c ob q hx
  exact b.free c o' e1 (a.free c ob q n hx) hx
 there:=fun c ob q hx=>by
  obtain⟨o',e1⟩:=a.there c ob q hx
  exact b.there c o' e1 hx
 tups:=fun c xs q=>b.tups c xs (a.tups c xs q)
 frzs:=fun c ob xs q=>b.frzs c ob xs (a.frzs c ob xs q)
 tbls:=fun c ps q=>by
  obtain⟨m1,e1⟩:=a.tbls c ps q
  obtain⟨m2,e2⟩:=b.tbls c _ e1
  exact⟨m1++m2,by rw[e2,Array.append_assoc]⟩
theorem Un.kept (k:∀ b u,h.get? b=some u->h'.get? b=some u):Un fs ex H H h h':=
 ⟨fun b ob q _ _ _=>k b ob q,fun b ob q _ _ _=>⟨ob.slots,k b ob q⟩,fun _ _ _ n _=>n,fun b ob q _=>⟨ob,k b ob q⟩,fun _ _ q=>q,fun _ _ _ q=>q,fun _ ps q=>⟨#[],by rw[q];simp⟩⟩
theorem Un.refl:Un fs ex H H h h:=Un.kept fun _ _ q=>q
theorem Un.laid (k:∀ b u,h.get? b=some u->h'.get? b=some u)(hp:h.objs.size<=a)(hn:H a=none):Un fs ex H (bf H a o) h h' where
 keep:=fun b u q _ _ _=>k b u q
 slot:=fun b u q _ _ _=>⟨u.slots,k b u q⟩
 free:=fun b u q n _=>by rw[aq (Nat.ne_of_lt (Nat.lt_of_lt_of_le (Heap.lt_size q) hp))];exact n
 there:=fun b u q _=>⟨u,k b u q⟩
 tups:=fun b xs q=>by rw[aq (ak q hn)];exact q
 frzs:=fun b u xs q=>by rw[aq (ak q hn)];exact q
 tbls:=fun b ps q=>⟨#[],by rw[aq (ak q hn),q];simp⟩
theorem Un.write (mu:Ck (H x))(he:e=x\/H e=some (.own x))(k:∀ b u,b≠e->h.get? b=some u->h'.get? b=some u)(heo:∃ u,h'.get? e=some u):Un fs ex H (bf H x o) h h':=by
 have hx:∀ b,H b=none->b≠x:=fun b n z=>by subst z;rw[n]at mu;exact mu
 have hb:∀ b,H b=none->b≠e:=fun b n z=>by
  subst z
  rcases he with r|r
  ·exact hx b n r
  ·rw[n]at r;cases r
 have hm:∀ b u,H b=some u->¬ Ck (some u)->b≠x:=fun b u q nm z=>by subst z;rw[q]at mu;exact nm mu
 refine⟨fun b u q n _ _=>k b u (n.elim (hb b) fun⟨xs,ee⟩ z=>by rcases he with r|r;(·rw[<- r,<- z,ee]at mu;exact mu);(·rw[<- z,ee]at r;cases r)) q,fun b u q n _ _=>⟨u.slots,k b u (hb b n) q⟩,fun b u q n _=>by rw[aq (hx b n)];exact n,fun b u q _=>?_,
  fun b xs q=>by rw[aq (hm b _ q fun z=>z)];exact q,fun b u xs q=>by rw[aq (hm b _ q fun z=>z)];exact q,fun b ps q=>⟨#[],by rw[aq (hm b _ q fun z=>z),q];simp⟩⟩
 by_cases hbe:b=e
 ·subst hbe;exact heo
 ·exact⟨u,k b u hbe q⟩
end
noncomputable def rj (h:Heap)(H:Hp):List Addr:=(List.range h.objs.size).filter fun a=>(H a).isSome
noncomputable def mz (h:Heap)(H:Hp):Heap:=PySem.W.hideAll h (rj h H)
theorem pJ (h:Heap)(H:Hp):(mz h H).objs.size=h.objs.size:=PySem.W.hideAll_size _ _
theorem mB {h:Heap}{H:Hp}{b:Addr}{o:Obj}(e:h.get? b=some o)(n:H b=none):(mz h H).get? b=some o:=
 PySem.W.hideAll_get _ e fun hm=>by
  have q:(H b).isSome=true:=(List.mem_filter.mp hm).2
  rw[n]at q;simp at q
theorem uT {h:Heap}{H:Hp}{b:Addr}{o:Obj}(e:(mz h H).get? b=some o):h.get? b=some o/\H b=none:=by
 have e':h.get? b=some o:=PySem.W.of_hideAll (rj h H) e
 refine⟨e',?_⟩
 cases q:H b with
 |none=>rfl
 |some x=>
  have hm:b∈rj h H:=List.mem_filter.mpr ⟨List.mem_range.mpr (Heap.lt_size e'),by simp[q]⟩
  have z:(mz h H).get? b=none:=PySem.W.hideAll_none (rj h H) hm
  rw[z]at e;cases e
noncomputable def uU (g h:Heap)(L:Addr):List (Addr×Obj):=(List.range h.objs.size).filterMap fun a=>if a=L\/(g.get? a).isSome=true then none else (h.get? a).map fun o=>(a,o)
noncomputable def aQ (g h:Heap)(L d:Addr):List (Addr×Obj):=(uU g h L).filter fun p=>decide (p.1≠d)
end L2
namespace L2
open PySem PySem.Spec PyProof.Rows
noncomputable def CA:Value->V
 | .str x _=>.str x
 | .ref a=>.ref a
 |_=>.non
noncomputable def mC (o:Obj):Option (Addr×List V):=match o.cls with
 | .type n=>if n=="kt" then (match o.data with
  | .seq its _=>(match its.toList with
   | .ref a::r=>some (a,r.map CA)
   |_=>none)
  |_=>none) else none
 |_=>none
noncomputable def WrT (K:PySem.W.Frag)(H:Hp):Prop:=∀ p∈K,∀ a xs,mC p.2=some (a,xs)->H a=some (.tup xs)
structure Mod (K:PySem.W.Frag) (mg:Str->Option Value) (base:Heap):Prop where
 kin:K.In base
 glob:base.Ns mainGlobals mg
 blt:∃ mb,base.Ns builtinsNs mb/\∀ x:Str,x≠"__name__"->mb x=bootBuiltins x
 nolimit:base.NoLimit
structure Cx where
 prog:Program
 w:World
 K:PySem.W.Frag
 mg:Str->Option Value
 base:Heap
 A:Around
 N:List Str
 s₀:Shared
 H₀:Hp
 env:Env
 outer:List Env
 stack:List Env
 ex:List Addr
 fn:Str->Bool
 calm:Bool
 pn:List (Addr×Obj)
 xe:Value->Shared->Prop
noncomputable def frs (l:List Env):List Addr:=l.filterMap (·.frame)
noncomputable abbrev Cx.fs (X:Cx):List Addr:=frs X.outer
noncomputable def Vis (sc:Scope)(x:Str):Prop:=sc.names.lookup x=some .local\/sc.names.lookup x=some .cell\/sc.names.lookup x=some .free
noncomputable def xM (sc:Scope)(x:Str):Prop:=sc.names.lookup x=some .local\/sc.names.lookup x=some .cell
noncomputable def Look (env:Env)(h:Heap)(m:Str->Option Value)(x:Str)(u:Value):Prop:=
 (env.kindOf x=some .local/\m x=some u)\/((env.kindOf x=some .cell\/env.kindOf x=some .free)/\∃ c,env.cells.lookup x=some c/\h.IsCell c (some u))
structure Cx.Ok (X:Cx):Prop where
 mod:Mod X.K X.mg X.base
 kind:X.env.scope.kind=.function
 glob:X.env.globals=mainGlobals
 blt:X.env.builtins=builtinsNs
 above:X.s₀.heap.objs.size<=X.env.locals
 inj:∀ x y c,X.env.cells.lookup x=some c->X.env.cells.lookup y=some c->x=y
 has:∀ x,(X.env.kindOf x=some .cell\/X.env.kindOf x=some .free)->∃ c,X.env.cells.lookup x=some c
 cab:∀ x c,X.fn x=true->X.env.cells.lookup x=some c->X.s₀.heap.objs.size<=c
 hd:X.calm=true->X.A.handled=none
 frames:X.A.frames=some X.stack
 stk:X.stack=X.outer\/(X.stack=X.env::X.outer/\X.env.frame=some X.env.locals)
 exf:∀ b∈X.ex,b≠X.env.locals/\∀ x c,X.env.cells.lookup x=some c->c≠b
 bs:∀ b o,X.base.get? b=some o->X.s₀.heap.get? b=some o/\X.H₀ b=none
 bsz:X.base.objs.size<=X.s₀.heap.objs.size
 noex:∀ b o,X.base.get? b=some o->b∉X.ex
 exfs:∀ b∈X.ex,b∉X.fs
 funs:X.s₀.heap.FunFrames X.base X.outer
 frf:∀ b∈X.fs,X.H₀ b=none
 kt:WrT X.K X.H₀
structure Inv (X:Cx) (pins:List (Addr×Obj)) (σ:List (Option V)) (H:Hp) (s:Shared):Prop where
 ok:X.Ok
 os:s.os=X.s₀.os
 bare:AllBare s.gens
 base:Un X.fs X.ex X.H₀ H X.s₀.heap s.heap
 loc:∃ m,s.heap.Ns X.env.locals m/\∀(i:Nat)(x:Str)(v:V),X.N[i]?=some x->σ[i]?=some (some v)->Vis X.env.scope x->∃ u,RelV v u/\Look X.env s.heap m x u
 cell:∀ x c,X.env.cells.lookup x=some c->∃ v,s.heap.IsCell c v
 free:H X.env.locals=none
 freeC:∀ x c,X.env.cells.lookup x=some c->H c=none
 pin:∀ p∈X.pn++pins,s.heap.get? p.1=some p.2/\H p.1=none/\p.1≠X.env.locals/\p.1∉X.fs/\∀ v,p.2.data≠.cell v
 hok:HOk X.prog X.w H s.heap
 len:σ.length=X.N.length
section
variable {X:Cx}{pins:List (Addr×Obj)}{σ:List (Option V)}{H H':Hp}{s:Shared}{h':Heap}
theorem Cx.Ok.nofr (ok:X.Ok){b:Addr}{o:Obj}(e:X.base.get? b=some o):b∉X.fs:=fun hb=>by
 have:=(ok.funs.mem hb).1
 rw[e]at this;cases this
theorem Inv.bs (I:Inv X pins σ H s):∀ b o,X.base.get? b=some o->s.heap.get? b=some o/\H b=none:=fun b o e=>
 ⟨I.base.keep b o (I.ok.bs b o e).1 (.inl (I.ok.bs b o e).2) (I.ok.nofr e) (I.ok.noex b o e),I.base.free b o (I.ok.bs b o e).1 (I.ok.bs b o e).2 (I.ok.noex b o e)⟩
theorem Inv.kt (I:Inv X pins σ H s):WrT X.K H:=fun p hp a xs e=>I.base.tups a xs (I.ok.kt p hp a xs e)
theorem Inv.bk (I:Inv X pins σ H s):∀ b o,X.base.get? b=some o->s.heap.get? b=some o:=fun b o e=>(I.bs b o e).1
theorem Inv.mod (I:Inv X pins σ H s):Mod X.K X.mg X.base:=I.ok.mod
theorem Inv.kIn (I:Inv X pins σ H s):X.K.In s.heap:=I.ok.mod.kin.keeps I.bk
theorem Inv.fr (I:Inv X pins σ H s):∃ m,Fr X.base X.env.locals s.heap m:=
 let ⟨m,hn,_⟩:=I.loc
 ⟨m,hn,I.bk,Nat.le_trans I.ok.bsz I.ok.above⟩
theorem Inv.lt (I:Inv X pins σ H s):X.env.locals<s.heap.objs.size:=let ⟨_,hn,_⟩:=I.loc;hn.lt
theorem Inv.sz (I:Inv X pins σ H s):X.s₀.heap.objs.size<=s.heap.objs.size:=Nat.le_trans I.ok.above (Nat.le_of_lt I.lt)
theorem Inv.nofs (I:Inv X pins σ H s){a:Addr}(h:s.heap.objs.size<=a):a∉X.fs:=fun hb=>by
 obtain⟨_,o,ho,_⟩:=I.ok.funs.mem hb
 exact absurd (Nat.lt_of_lt_of_le (Heap.lt_size ho) (Nat.le_trans I.sz h)) (Nat.lt_irrefl _)
theorem Inv.cne (I:Inv X pins σ H s):∀ x c,X.env.cells.lookup x=some c->c≠X.env.locals:=fun x c e z=>by
 obtain⟨v,o,ho,hd⟩:=I.cell x c e
 obtain⟨m,⟨o',es,ep,ho',hd',_⟩,_⟩:=I.loc
 rw[z,ho']at ho;cases ho;rw[hd']at hd;cases hd
theorem Inv.funs (I:Inv X pins σ H s):s.heap.FunFrames X.base X.outer:=by
 have all:∀(l:List Env),(∀ b∈frs l,b∈X.fs)->X.s₀.heap.FunFrames X.base l->s.heap.FunFrames X.base l:=by
  intro l
  induction l with
  |nil=>intro _ _;trivial
  |cons env r ih=>
   intro hs hl
   obtain⟨hk,⟨L,o,hf,hn,ho,hd⟩,hr⟩:=hl
   have hL:L∈X.fs:=hs L (by unfold frs;rw[List.filterMap_cons,hf];exact List.mem_cons_self)
   obtain⟨sl,e⟩:=I.base.slot L o ho (I.ok.frf L hL) hL fun z=>I.ok.exfs L z hL
   exact⟨hk,⟨L,_,hf,hn,e,hd⟩,ih (fun b hb=>hs b (by unfold frs;rw[List.filterMap_cons,hf];exact List.mem_cons_of_mem _ hb)) hr⟩
 exact all X.outer (fun _ hb=>hb) I.ok.funs
theorem Inv.stack (I:Inv X pins σ H s):s.heap.FunFrames X.base X.stack:=by
 rcases I.ok.stk with e|⟨e,hf⟩
 ·rw[e];exact I.funs
 ·rw[e]
  obtain⟨m,hn,_⟩:=I.loc
  refine .cons (by rw[I.ok.kind];decide) hf hn ?_ I.funs
  exact Heap.get?_none_of_le (Nat.le_trans I.ok.bsz I.ok.above)
theorem Inv.stkSub (I:Inv X pins σ H s):∀ b∈frs X.stack,b∈X.env.locals::X.fs:=fun b hb=>by
 rcases I.ok.stk with e|⟨e,hf⟩
 ·rw[e]at hb;exact List.mem_cons_of_mem _ hb
 ·rw[e]at hb
  unfold frs at hb
  rw[List.filterMap_cons,hf]at hb
  exact hb
theorem Inv.stkFree (I:Inv X pins σ H s):∀ b∈frs X.stack,H b=none:=fun b hb=>by
 rcases List.mem_cons.mp (I.stkSub b hb) with e|hb
 ·rw[e];exact I.free
 ·obtain⟨_,o,ho,_⟩:=I.ok.funs.mem hb
  exact I.base.free b o ho (I.ok.frf b hb) fun z=>I.ok.exfs b z hb
theorem Inv.step {g':Array GenState}{t':Nat}{d':Drawn}{ch:List Addr}(I:Inv X pins σ H s)
 (hch:∀ b∈ch,(b∈X.ex\/X.s₀.heap.objs.size<=b)/\b≠X.env.locals/\(∀ x c,X.env.cells.lookup x=some c->c≠b)/\∀ p∈X.pn++pins,p.1≠b)
 (keep:∀ b o,b≠X.env.locals->b∉X.fs->b∉ch->s.heap.get? b=some o->Qt H b->h'.get? b=some o)
 (slot:∀ b o,b≠X.env.locals->b∈X.fs->b∉ch->s.heap.get? b=some o->H b=none->∃ sl,h'.get? b=some { o with slots:=sl }) (free:∀ b o,b∉ch->s.heap.get? b=some o->H b=none->H' b=none)
 (there:∀ b o,b∉ch->s.heap.get? b=some o->∃ o',h'.get? b=some o')
 (tups:∀ b xs,H b=some (.tup xs)->H' b=some (.tup xs)) (frzs:∀ b o u,H b=some (.frz o u)->H' b=some (.frz o u)) (tbls:∀ b ps,H b=some (.tbl ps)->∃ more,H' b=some (.tbl (ps++more)))
 (ns:∀ m,s.heap.Ns X.env.locals m->h'.Ns X.env.locals m) (hok:HOk X.prog X.w H' h') (hg:AllBare g') :
 Inv X pins σ H' { s with heap:=h',gens:=g',drawn:=d',toks:=t' }:=by
 have neL:∀ b o,X.s₀.heap.get? b=some o->b≠X.env.locals:=fun b o e=>Nat.ne_of_lt (Nat.lt_of_lt_of_le (Heap.lt_size e) I.ok.above)
 have neC:∀ b o,X.s₀.heap.get? b=some o->b∉X.ex->b∉ch:=fun b o e hx hb=>by
  rcases (hch b hb).1 with z|z
  ·exact hx z
  ·exact absurd (Nat.lt_of_lt_of_le (Heap.lt_size e) z) (Nat.lt_irrefl _)
 have cellK:∀ x c,X.env.cells.lookup x=some c->∀ v,s.heap.IsCell c v->h'.IsCell c v:=fun x c e v ⟨o,ho,hd⟩=>by
  have nch:c∉ch:=fun z=>(hch c z).2.2.1 x c e rfl
  by_cases hc:c∈X.fs
  ·obtain⟨sl,q⟩:=slot c o (I.cne x c e) hc nch ho (I.freeC x c e)
   exact⟨_,q,hd⟩
  ·exact⟨o,keep c o (I.cne x c e) hc nch ho (.inl (I.freeC x c e)),hd⟩
 refine⟨I.ok,I.os,hg,⟨fun b o e n hb hx=>?_,fun b o e n hb hx=>?_,fun b o e n hx=>?_,fun b o e hx=>?_,fun b xs e=>tups b xs (I.base.tups b xs e),fun b o xs e=>frzs b o xs (I.base.frzs b o xs e),fun b ps e=>?_⟩,?_,fun x c e=>?_,?_,fun x c e=>?_,fun p hp=>?_,hok,I.len⟩
 ·exact keep b o (neL b o e) hb (neC b o e hx) (I.base.keep b o e n hb hx) (n.imp (fun n=>I.base.free b o e n hx) fun⟨xs,q⟩=>⟨xs,I.base.tups b xs q⟩)
 ·obtain⟨sl,e1⟩:=I.base.slot b o e n hb hx
  obtain⟨sl',e2⟩:=slot b _ (neL b o e) hb (neC b o e hx) e1 (I.base.free b o e n hx)
  exact⟨sl',e2⟩
 ·obtain⟨o',e1⟩:=I.base.there b o e hx
  exact free b o' (neC b o e hx) e1 (I.base.free b o e n hx)
 ·obtain⟨o',e1⟩:=I.base.there b o e hx
  exact there b o' (neC b o e hx) e1
 ·obtain⟨m1,e1⟩:=I.base.tbls b ps e
  obtain⟨m2,e2⟩:=tbls b _ e1
  exact⟨m1++m2,by rw[e2,Array.append_assoc]⟩
 ·obtain⟨m,hn,hl⟩:=I.loc
  refine⟨m,ns m hn,fun i x v e1 e2 e3=>?_⟩
  obtain⟨u,r,l⟩:=hl i x v e1 e2 e3
  refine⟨u,r,?_⟩
  rcases l with l|⟨k,c,e,z⟩
  ·exact .inl l
  ·exact .inr ⟨k,c,e,cellK x c e _ z⟩
 ·obtain⟨v,z⟩:=I.cell x c e
  exact⟨v,cellK x c e v z⟩
 ·obtain⟨m,⟨o,_,_,ho,_⟩,_⟩:=I.loc
  exact free _ o (fun z=>(hch _ z).2.1 rfl) ho I.free
 ·obtain⟨v,o,ho,hd⟩:=I.cell x c e
  exact free c o (fun z=>(hch c z).2.2.1 x c e rfl) ho (I.freeC x c e)
 ·obtain⟨e,n,ne,nf,d⟩:=I.pin p hp
  have nch:p.1∉ch:=fun z=>(hch p.1 z).2.2.2 p hp rfl
  exact⟨keep p.1 p.2 ne nf nch e (.inl n),free p.1 p.2 nch e n,ne,nf,d⟩
theorem Inv.un {t':Nat}(I:Inv X pins σ H s)(u:Un X.fs [] H H' s.heap h')(hok:HOk X.prog X.w H' h'):Inv X pins σ H' { s with heap:=h',toks:=t' }:=by
 obtain⟨m,⟨o,es,ep,ho,r⟩,_⟩:=id I.loc
 obtain⟨sl,hL⟩:=u.any ho I.free (by simp)
 exact I.step (g':=s.gens) (d':=s.drawn) (ch:=[]) (fun _ z=>nomatch z) (fun b o _ hb _ e n=>u.keep b o e n hb (by simp)) (fun b o _ hb _ e n=>u.slot b o e n hb (by simp)) (fun b o _ e n=>u.free b o e n (by simp)) (fun b o _ e=>u.there b o e (by simp)) u.tups u.frzs u.tbls (fun m' hm=>by
  obtain⟨o',es',ep',ho',r'⟩:=hm
  rw[ho]at ho';cases ho'
  exact⟨_,es',ep',hL,r'⟩) hok I.bare
theorem Inv.call {g':Array GenState}{t':Nat}{d':Drawn}{ch:List Addr}(I:Inv X pins σ H s)(u:Un (frs X.stack) ch H H' s.heap h')(hok:HOk X.prog X.w H' h')(hg:AllBare g')
 (hch:∀ b∈ch,(b∈X.ex\/X.s₀.heap.objs.size<=b)/\b≠X.env.locals/\(∀ x c,X.env.cells.lookup x=some c->c≠b)/\∀ p∈X.pn++pins,p.1≠b) :
 Inv X pins σ H' { s with heap:=h',gens:=g',drawn:=d',toks:=t' }:=by
 obtain⟨m,⟨o,es,ep,ho,r⟩,_⟩:=id I.loc
 obtain⟨sl,hL⟩:=u.any ho I.free fun z=>(hch _ z).2.1 rfl
 exact I.step (ch:=ch) hch (fun b o hL hb hc e n=>u.keep b o e n (fun z=>(List.mem_cons.mp (I.stkSub b z)).elim hL hb) hc) (fun b o _ _ hc e n=>u.any e n hc) (fun b o hc e n=>u.free b o e n hc) (fun b o hc e=>u.there b o e hc) u.tups u.frzs u.tbls (fun m' hm=>by
  obtain⟨o',es',ep',ho',r'⟩:=hm
  rw[ho]at ho';cases ho'
  exact⟨_,es',ep',hL,r'⟩) hok hg
theorem Inv.turned {t':Nat}{it:Addr}(I:Inv X pins σ H s)(k:∀ b o,b≠it->s.heap.get? b=some o->h'.get? b=some o)(hn:H it=none)(hL:it≠X.env.locals)
 (h1:it∈X.ex\/X.s₀.heap.objs.size<=it) (h2:∀ x c,X.env.cells.lookup x=some c->c≠it) (h3:∀ p∈X.pn++pins,p.1≠it):Inv X pins σ H { s with heap:=h',toks:=t' }:=by
 have nit:∀ b u,H b=some u->b≠it:=fun b u e z=>by rw[z,hn]at e;cases e
 refine I.step (g':=s.gens) (d':=s.drawn) (ch:=[it]) (fun b hb=>?_) (fun b o _ _ hc e _=>k b o (fun z=>hc (by simp[z])) e) (fun b o _ _ hc e _=>⟨o.slots,k b o (fun z=>hc (by simp[z])) e⟩) (fun _ _ _ _ n=>n)
  (fun b o hc e=>⟨o,k b o (fun z=>hc (by simp[z])) e⟩) (fun _ _ e=>e) (fun _ _ _ e=>e) (fun b ps e=>⟨#[],by rw[e];simp⟩) (fun m hm=>?_) (fun b u e=>?_) I.bare
 ·have e:b=it:=by simpa using hb
  subst e
  exact⟨h1,hL,h2,h3⟩
 ·obtain⟨o,es,ep,ho,r⟩:=hm
  exact⟨o,es,ep,k _ o (Ne.symm hL) ho,r⟩
 ·refine(I.hok b u e).stay (fun c v hc q=>k c v ?_ q) (fun _ q=>q) fun _ _ q=>q
  rcases hc with z|z
  ·rw[z];exact nit b u e
  ·exact nit c _ z
theorem Inv.tok (I:Inv X pins σ H s)(t:Nat):Inv X pins σ H { s with toks:=t }:=I.un (h':=s.heap) (t':=t) Un.refl I.hok
theorem Inv.kept {t':Nat}(I:Inv X pins σ H s)(k:∀ b u,s.heap.get? b=some u->h'.get? b=some u):Inv X pins σ H { s with heap:=h',toks:=t' }:=I.un (Un.kept k) (I.hok.kept k)
theorem Inv.laid {a:Addr}{o:HO}{t':Nat}(I:Inv X pins σ H s)(k:∀ b u,s.heap.get? b=some u->h'.get? b=some u)(hp:s.heap.objs.size<=a)(new:ObjOk X.prog X.w (bf H a o) h' a o) :
 Inv X pins σ (bf H a o) { s with heap:=h',toks:=t' }:=I.un (Un.laid k hp (I.hok.fresh hp)) (I.hok.laid k hp new)
theorem Inv.write {x e:Addr}{o:HO}{t':Nat}(I:Inv X pins σ H s)(mu:Ck (H x))(he:e=x\/H e=some (.own x))(k:∀ b u,b≠e->s.heap.get? b=some u->h'.get? b=some u)(heo:∃ u,h'.get? e=some u)
 (new:ObjOk X.prog X.w (bf H x o) h' x o):Inv X pins σ (bf H x o) { s with heap:=h',toks:=t' }:=I.un (Un.write mu he k heo) (I.hok.write mu he k heo new)
theorem Inv.pins_of {pins':List (Addr×Obj)}(I:Inv X pins σ H s)(h:∀ p∈pins',s.heap.get? p.1=some p.2/\H p.1=none/\p.1≠X.env.locals/\p.1∉X.fs/\∀ v,p.2.data≠.cell v):Inv X pins' σ H s:=
 ⟨I.ok,I.os,I.bare,I.base,I.loc,I.cell,I.free,I.freeC,fun p hp=>(List.mem_append.mp hp).elim (fun z=>I.pin p (List.mem_append_left _ z)) (h p),I.hok,I.len⟩
theorem mD {N:List Str}(hN:N.Nodup){i j:Nat}{x:Str}(a:N[i]?=some x)(b:N[j]?=some x):i=j:=by
 obtain⟨h1,e1⟩:=List.getElem?_eq_some_iff.mp a
 obtain⟨h2,e2⟩:=List.getElem?_eq_some_iff.mp b
 exact(List.getElem_inj hN).mp (e1.trans e2.symm)
theorem kz {M:Model}{A:Around}{E:Value->Shared->Prop}{i:Nat}{x:Str}{v:V}{u:Value}{Q:Unit->Shared->Prop}(I:Inv X pins σ H s)(hN:X.N.Nodup)(hi:X.N[i]?=some x)(hx:xM X.env.scope x)(r:RelV v u)
 (h:∀ s',Inv X pins (σ.set i (some v)) H s'->(∃ a,Heap.SameBut a s.heap s'.heap/\(a=X.env.locals\/X.env.cells.lookup x=some a))->Q () s') (hf:autoParam (X.fn x=true\/X.env.scope.names.lookup x=some .local) autoF._auto_1):wpAny M A (storeName X.env x u) Q E s:=by
 obtain⟨m,hn,hl⟩:=id I.loc
 have hcls:(X.env.scope.kind==.class || (X.env.scope.kind==.module&&X.env.locals != X.env.globals))=false:=by rw[I.ok.kind];rfl
 have hiσ:i<σ.length:=by rw[I.len];exact(List.getElem?_eq_some_iff.mp hi).1
 have cne:=I.cne
 have tracked:∀{a:Addr}{h':Heap},(∃ o,s.heap.get? a=some o/\H a=none)->Heap.SameBut a s.heap h'->HOk X.prog X.w H h':=fun{a h'} ha hs b ob e=>by
  obtain⟨_,_,hfree⟩:=ha
  refine(I.hok b ob e).stay (fun c w' hc q=>(hs.2 c ?_).trans q) (fun _ q=>q) fun _ _ q=>q
  rintro rfl
  rcases hc with rfl|hc
  ·rw[hfree]at e;cases e
  ·rw[hfree]at hc;cases hc
 rcases hx with hk|hk
 ·refine wpAny_storeName_local hk hn (fun h' hn' hs=>?_) hcls
  obtain⟨oL,_,_,hoL,_⟩:=id hn
  refine h _ ⟨I.ok,I.os,I.bare,⟨fun b o e n hb hx=>?_,fun b o e n hb hx=>?_,I.base.free,fun b o e hx=>?_,I.base.tups,I.base.frzs,I.base.tbls⟩,⟨_,hn',fun j y v' e1 e2 e3=>?_⟩,fun y c e=>?_,I.free,I.freeC,fun p hp=>?_,tracked ⟨oL,hoL,I.free⟩ hs,by simpa using I.len⟩ ⟨_,hs,.inl rfl⟩
  ·exact(hs.2 b (Nat.ne_of_lt (Nat.lt_of_lt_of_le (Heap.lt_size e) I.ok.above))).trans (I.base.keep b o e n hb hx)
  ·obtain⟨sl,e1⟩:=I.base.slot b o e n hb hx
   exact⟨sl,(hs.2 b (Nat.ne_of_lt (Nat.lt_of_lt_of_le (Heap.lt_size e) I.ok.above))).trans e1⟩
  ·obtain⟨o',e1⟩:=I.base.there b o e hx
   exact⟨o',(hs.2 b (Nat.ne_of_lt (Nat.lt_of_lt_of_le (Heap.lt_size e) I.ok.above))).trans e1⟩
  ·by_cases hj:j=i
   ·subst hj
    rw[hi]at e1;cases e1
    rw[List.getElem?_set_self hiσ]at e2
    cases e2
    exact⟨u,r,.inl ⟨hk,by simp⟩⟩
   ·rw[List.getElem?_set_ne (Ne.symm hj)]at e2
    obtain⟨u',r',q⟩:=hl j y v' e1 e2 e3
    refine⟨u',r',?_⟩
    rcases q with⟨k,e⟩|⟨k,c,e,z⟩
    ·refine .inl ⟨k,?_⟩
     have:y≠x:=fun e=>hj (mD hN e1 (e▸hi))
     simp[this,e]
    ·exact .inr ⟨k,c,e,z.sameBut hs (cne y c e)⟩
  ·obtain⟨w',z⟩:=I.cell y c e
   exact⟨w',z.sameBut hs (cne y c e)⟩
  ·obtain⟨e,n,ne,nf,d⟩:=I.pin p hp
   exact⟨(hs.2 p.1 ne).trans e,n,ne,nf,d⟩
 ·have hfn:X.fn x=true:=by
   rcases hf with z|z
   ·exact z
   ·rw[z]at hk;cases hk
  obtain⟨c,hc⟩:=I.ok.has x (.inl hk)
  obtain⟨w',z⟩:=I.cell x c hc
  refine wpAny_storeName_cell I.ok.kind hk hc z (fun h' hc' hs=>?_)
  obtain⟨oc,hoc,hocd⟩:=id z
  refine h { s with heap:=h' } ⟨I.ok,I.os,I.bare,⟨fun b o e n hb hx=>?_,fun b o e n hb hx=>?_,I.base.free,fun b o e hx=>?_,I.base.tups,I.base.frzs,I.base.tbls⟩,⟨m,hn.sameBut hs (Ne.symm (cne x c hc)),fun j y v' e1 e2 e3=>?_⟩,fun y c' e=>?_,I.free,I.freeC,fun p hp=>?_,tracked ⟨oc,hoc,I.freeC x c hc⟩ hs,by simpa using I.len⟩ ⟨c,hs,.inr hc⟩
  ·exact(hs.2 b (Nat.ne_of_lt (Nat.lt_of_lt_of_le (Heap.lt_size e) (I.ok.cab x c hfn hc)))).trans (I.base.keep b o e n hb hx)
  ·obtain⟨sl,e1⟩:=I.base.slot b o e n hb hx
   exact⟨sl,(hs.2 b (Nat.ne_of_lt (Nat.lt_of_lt_of_le (Heap.lt_size e) (I.ok.cab x c hfn hc)))).trans e1⟩
  ·obtain⟨o',e1⟩:=I.base.there b o e hx
   exact⟨o',(hs.2 b (Nat.ne_of_lt (Nat.lt_of_lt_of_le (Heap.lt_size e) (I.ok.cab x c hfn hc)))).trans e1⟩
  ·by_cases hj:j=i
   ·subst hj
    rw[hi]at e1;cases e1
    rw[List.getElem?_set_self hiσ]at e2
    cases e2
    exact⟨u,r,.inr ⟨.inl hk,c,hc,hc'⟩⟩
   ·rw[List.getElem?_set_ne (Ne.symm hj)]at e2
    obtain⟨u',r',q⟩:=hl j y v' e1 e2 e3
    refine⟨u',r',?_⟩
    rcases q with q|⟨k,c',e,z'⟩
    ·exact .inl q
    ·refine .inr ⟨k,c',e,z'.sameBut hs ?_⟩
     rintro rfl
     exact hj (mD hN e1 (I.ok.inj _ _ _ e hc▸hi))
  ·by_cases hcc:c'=c
   ·subst hcc;exact⟨_,hc'⟩
   ·obtain⟨w2,z2⟩:=I.cell y c' e
    exact⟨w2,z2.sameBut hs hcc⟩
  ·obtain⟨e,n,ne,nf,d⟩:=I.pin p hp
   refine⟨(hs.2 p.1 ?_).trans e,n,ne,nf,d⟩
   intro q
   rw[q,hoc]at e
   have q':oc=p.2:=Option.some.inj e
   exact d w' (by rw[<- q'];exact hocd)
theorem mE {M:Model}{A:Around}{E:Value->Shared->Prop}{i:Nat}{x:Str}{v:V}{u:Value}{Q:Unit->Shared->Prop}(I:Inv X pins σ H s)(hN:X.N.Nodup)(hi:X.N[i]?=some x)(hx:xM X.env.scope x)(r:RelV v u)
 (h:∀ s',Inv X pins (σ.set i (some v)) H s'->Q () s') (hf:autoParam (X.fn x=true\/X.env.scope.names.lookup x=some .local) autoF._auto_1):wpAny M A (storeName X.env x u) Q E s:=
 kz I hN hi hx r (fun s' I' _=>h s' I') hf
theorem Inv.call' {s':Shared}{ch:List Addr}(I:Inv X pins σ H s)(ho:s'.os=s.os)(u:Un (frs X.stack) ch H H' s.heap s'.heap)(hok:HOk X.prog X.w H' s'.heap)(hg:AllBare s'.gens)
 (hch:∀ b∈ch,(b∈X.ex\/X.s₀.heap.objs.size<=b)/\b≠X.env.locals/\(∀ x c,X.env.cells.lookup x=some c->c≠b)/\∀ p∈X.pn++pins,p.1≠b):Inv X pins σ H' s':=by
 obtain⟨h',g',d',t',o'⟩:=s'
 have e:o'=s.os:=ho
 subst e
 exact I.call (g':=g') (t':=t') (d':=d') u hok hg hch
end
noncomputable abbrev XK:=Value->Option Addr->Hp->Prop
noncomputable abbrev St:=List (Option V)
noncomputable abbrev VK:=V->Hp->Prop
noncomputable abbrev TE:=St->Hp->VK->Prop
noncomputable abbrev TT:=St->Hp->(Bool->Hp->Prop)->Prop
noncomputable abbrev TA:=St->Hp->(List V->Hp->Prop)->Prop
structure Ends where
 nx:St->Hp->Prop
 rt:VK
 bk:St->Hp->Prop:=fun _ _=>False
 ct:St->Hp->Prop:=fun _ _=>False
noncomputable abbrev TS:=Ends->St->Hp->Prop
noncomputable def EP (X:Cx)(pins:List (Addr×Obj))(σ:St)(Q:VK)(u:Value)(s':Shared):Prop:=∃ v H',Inv X pins σ H' s'/\RelV v u/\Q v H'
noncomputable def TP (X:Cx)(pins:List (Addr×Obj))(σ:St)(Q:Bool->Hp->Prop)(b:Bool)(s':Shared):Prop:=∃ H',Inv X pins σ H' s'/\Q b H'
noncomputable def AP (X:Cx)(pins:List (Addr×Obj))(σ:St)(Q:List V->Hp->Prop)(us:List Value)(s':Shared):Prop:=∃ vs H',Inv X pins σ H' s'/\Vals vs us/\Q vs H'
noncomputable def SP (X:Cx)(pins:List (Addr×Obj))(D:Ends)(f:Flow)(s':Shared):Prop:=
 match f with
 | .next=>∃ σ' H',Inv X pins σ' H' s'/\D.nx σ' H'
 | .brk=>∃ σ' H',Inv X pins σ' H' s'/\D.bk σ' H'
 | .cont=>∃ σ' H',Inv X pins σ' H' s'/\D.ct σ' H'
 | .ret u=>∃ v σ' H',Inv X pins σ' H' s'/\RelV v u/\D.rt v H'
noncomputable def PE (X:Cx)(e:Expr)(t:TE):Prop:=
 ∀(pins:List (Addr×Obj))(s:Shared)(σ:St)(H:Hp)(Q:VK),Inv X pins σ H s->t σ H Q->wpAny (model X.prog X.w) X.A (eval e X.env) (EP X pins σ Q) X.xe s
noncomputable def PT (X:Cx)(e:Expr)(t:TT):Prop:=
 ∀(pins:List (Addr×Obj))(s:Shared)(σ:St)(H:Hp)(Q:Bool->Hp->Prop),Inv X pins σ H s->t σ H Q->wpAny (model X.prog X.w) X.A (isTrue e X.env (eval e X.env)) (TP X pins σ Q) X.xe s
noncomputable def PW (X:Cx)(e:Expr)(t:TT):Prop:=
 ∀(whole:Sem Value)(pins:List (Addr×Obj))(s:Shared)(σ:St)(H:Hp)(Q:Bool->Hp->Prop),Inv X pins σ H s->t σ H Q->wpAny (model X.prog X.w) X.A (isTrue e X.env whole) (TP X pins σ Q) X.xe s
theorem PW.pt {X:Cx}{e:Expr}{t:TT}(h:PW X e t):PT X e t:=h _
noncomputable def PA (X:Cx)(es:List Expr)(t:TA):Prop:=
 ∀(pos:Pos)(pins:List (Addr×Obj))(s:Shared)(σ:St)(H:Hp)(Q:List V->Hp->Prop),Inv X pins σ H s->t σ H Q->wpAny (model X.prog X.w) X.A (spliced (backTo pos (starEach es X.env))) (AP X pins σ Q) X.xe s
noncomputable def PS (X:Cx)(st:Stmt)(t:TS):Prop:=
 ∀(pins:List (Addr×Obj))(s:Shared)(σ:St)(H:Hp)(D:Ends),Inv X pins σ H s->t D σ H->wpAny (model X.prog X.w) X.A (exec st X.env) (SP X pins D) X.xe s
noncomputable def PSs (X:Cx)(st:List Stmt)(t:TS):Prop:=
 ∀(pins:List (Addr×Obj))(s:Shared)(σ:St)(H:Hp)(D:Ends),Inv X pins σ H s->t D σ H->wpAny (model X.prog X.w) X.A (execs st X.env) (SP X pins D) X.xe s
theorem b7 {α:Type}{t:Sem α}{Q Q':α->Shared->Prop}{M:Model}{A:Around}{E:Value->Shared->Prop}{s:Shared}(h:wpAny M A t Q E s)(hQ:∀ a s,Q a s->Q' a s):wpAny M A t Q' E s:=wpAny_mono h hQ fun _ _ x=>x
end L2
namespace L2
open PySem PySem.Spec PyProof.Rows
section
variable {X:Cx}
noncomputable def mF (i:Nat):TE:=fun σ H Q=>∃ v,σ[i]?=some (some v)/\Q v H
noncomputable def tC (v:V):TE:=fun _ H Q=>Q v H
theorem xN {i:Nat} {x:Str} {pos:Pos} (hN:X.N[i]?=some x) (hv:Vis X.env.scope x) (hd:autoParam ((x==("__debug__" : Str))=false) autoD._auto_1) (hcd:autoParam ((x==("__classdict__" : Str))=false) autoD._auto_1):PE X (.Name x pos) (mF i):=by
 intro pins s σ H Q I h
 obtain⟨v,e,h⟩:=h
 obtain⟨m,hn,hl⟩:=I.loc
 obtain⟨u,r,l⟩:=hl i x v hN e hv
 have fin:EP X pins σ Q u s:=⟨v,H,I,r,h⟩
 rcases l with⟨hk,hm⟩|⟨hk,c,hc,hcell⟩
 ·exact wpAny_Name (wpAny_loadName_local I.ok.kind hk hn hm fin) hd
 ·rcases hk with hk|hk
  ·exact wpAny_Name (wpAny_loadName_cell I.ok.kind hk hc hcell fin) hd
  ·exact wpAny_Name (wpAny_loadName_free I.ok.kind hk hc hcell fin hcd) hd
theorem xO {i j pos}:PE X (.Constant (.int i) j pos) (tC (.int i)):=fun _ _ _ H _ I h=>wpAny_Constant_int ⟨.int i,H,I.tok _,⟨_,rfl⟩,h⟩
theorem Ax {b j pos}:PE X (.Constant (.bool b) j pos) (tC (.bl b)):=fun _ _ _ H _ I h=>Constant_bool ⟨.bl b,H,I,rfl,h⟩
theorem rz {x j pos}:PE X (.Constant (.str x) j pos) (tC (.str x)):=fun _ _ _ H _ I h=>Calls.Constant_str ⟨.str x,H,I.tok _,⟨_,rfl⟩,h⟩
noncomputable def Gl (X:Cx)(x:Str):Prop:=X.env.kindOf x=some .globalImplicit
theorem lq {E:Value->Shared->Prop}{pins:List (Addr×Obj)}{s:Shared}{σ:St}{H:Hp}{x:Str}{u:Value}{pos:Pos}{Q:Value->Shared->Prop}(I:Inv X pins σ H s)(hg:Gl X x)(hm:X.mg x=some u)(h:Q u s)
 (hd:autoParam ((x==("__debug__" : Str))=false) autoD._auto_1):wpAny (model X.prog X.w) X.A (eval (.Name x pos) X.env) Q E s:=
 Calls.Name_function_global I.ok.kind hg (Calls.loadGlobal_global (by rw[I.ok.glob];exact I.mod.glob.keeps I.bk) hm h) hd
theorem ic {E:Value->Shared->Prop}{pins:List (Addr×Obj)}{s:Shared}{σ:St}{H:Hp}{x:Str}{u:Value}{pos:Pos}{Q:Value->Shared->Prop}(I:Inv X pins σ H s)(hg:Gl X x)(hm:X.mg x=none)(hv:bootBuiltins x=some u)(h:Q u s)
 (hn:autoParam (x≠"__name__") autoD._auto_1) (hd:autoParam ((x==("__debug__" : Str))=false) autoD._auto_1):wpAny (model X.prog X.w) X.A (eval (.Name x pos) X.env) Q E s:=by
 obtain⟨mb,h1,h2⟩:=I.mod.blt
 exact Calls.Name_function_global I.ok.kind hg (Calls.loadGlobal_builtin (by rw[I.ok.glob];exact I.mod.glob.keeps I.bk) hm (by rw[I.ok.blt];exact h1.keeps I.bk) ((h2 x hn).trans hv) h) hd
theorem lr {x:Str} {v:V} {u:Value} {pos:Pos} (hg:Gl X x) (hm:X.mg x=some u) (r:RelV v u) (hd:autoParam ((x==("__debug__" : Str))=false) autoD._auto_1):PE X (.Name x pos) (tC v):=
 fun _ _ _ H _ I h=>lq I hg hm ⟨v,H,I,r,h⟩ hd
theorem uV {x:Str} {v:V} {u:Value} {pos:Pos} (hg:Gl X x) (hm:X.mg x=none) (hv:bootBuiltins x=some u) (r:RelV v u) (hn:autoParam (x≠"__name__") autoD._auto_1) (hd:autoParam ((x==("__debug__" : Str))=false) autoD._auto_1):PE X (.Name x pos) (tC v):=
 fun _ _ _ H _ I h=>ic I hg hm hv ⟨v,H,I,r,h⟩ hn hd
variable {a b:Expr}{ta tb:TE}{pos:Pos}
variable {tA tB':TT}{aQ:List Expr}
noncomputable def CB (t u:TT):TT:=fun σ H Q=>t σ H fun c H1=>if c=true then u σ H1 Q else Q false H1
noncomputable def DP (t u:TT):TT:=fun σ H Q=>t σ H fun c H1=>if c=true then Q true H1 else u σ H1 Q
noncomputable def CC (t:TT):TT:=fun σ H Q=>t σ H fun c H1=>Q (!c) H1
theorem uW (ha:PT X a tA):PW X (.BoolOp .And [a] pos) tA:=by
 intro wh pins s σ H Q I h
 refine isTrue_and (b7 (ha pins s σ H Q I h) fun c s1 e=>?_)
 cases c with
 |true=>exact isTrue_and_nil e
 |false=>exact e
theorem xP (ha:PT X a tA):PW X (.BoolOp .Or [a] pos) tA:=by
 intro wh pins s σ H Q I h
 refine isTrue_or (b7 (ha pins s σ H Q I h) fun c s1 e=>?_)
 cases c with
 |false=>exact isTrue_or_nil e
 |true=>exact e
theorem xQ (ha:PT X a tA)(hb:PW X (.BoolOp .And (b::aQ) pos) tB'):PW X (.BoolOp .And (a::b::aQ) pos) (CB tA tB'):=by
 intro wh pins s σ H Q I h
 refine isTrue_and (b7 (ha pins s σ H _ I h) fun c s1 ⟨H1,I1,q1⟩=>?_)
 cases c with
 |true=>exact hb wh pins s1 σ H1 Q I1 q1
 |false=>exact⟨H1,I1,q1⟩
theorem Ay (ha:PT X a tA)(hb:PW X (.BoolOp .Or (b::aQ) pos) tB'):PW X (.BoolOp .Or (a::b::aQ) pos) (DP tA tB'):=by
 intro wh pins s σ H Q I h
 refine isTrue_or (b7 (ha pins s σ H _ I h) fun c s1 ⟨H1,I1,q1⟩=>?_)
 cases c with
 |true=>exact⟨H1,I1,q1⟩
 |false=>exact hb wh pins s1 σ H1 Q I1 q1
theorem xR (ha:PT X a tA):PT X (.UnaryOp .Not a pos) (CC tA):=by
 intro pins s σ H Q I h
 exact isTrue_not (ha pins s σ H (fun c H1=>Q (!c) H1) I h)
noncomputable def Az (ta tb:TE):TE:=fun σ H Q=>ta σ H fun x H1=>∃ c,x=.bl c/\if c=true then tb σ H1 Q else Q (.bl false) H1
noncomputable def CD (ta tb:TE):TE:=fun σ H Q=>ta σ H fun x H1=>∃ c,x=.bl c/\if c=true then Q (.bl true) H1 else tb σ H1 Q
noncomputable def AA (ta:TE):TE:=fun σ H Q=>ta σ H fun x H1=>∃ c,x=.bl c/\Q (.bl (!c)) H1
theorem xS {op}{t:TE}(h:PE X a t):PE X (.BoolOp op [a] pos) t:=fun pins s σ H Q I hw=>BoolOp_one (h pins s σ H Q I hw)
theorem xT (ha:PE X a ta)(hb:PE X (.BoolOp .And (b::aQ) pos) tb):PE X (.BoolOp .And (a::b::aQ) pos) (Az ta tb):=by
 intro pins s σ H Q I h
 refine BoolOp_and (b7 (ha pins s σ H _ I h) fun v s1 ⟨x,H1,I1,r1,q1⟩=>?_)
 obtain⟨c,rfl,q1⟩:=q1
 cases r1
 refine wpAny_truthy_bool ?_
 cases c with
 |true=>exact hb pins s1 σ H1 Q I1 q1
 |false=>exact⟨.bl false,H1,I1,rfl,q1⟩
theorem AB (ha:PE X a ta)(hb:PE X (.BoolOp .Or (b::aQ) pos) tb):PE X (.BoolOp .Or (a::b::aQ) pos) (CD ta tb):=by
 intro pins s σ H Q I h
 refine BoolOp_or (b7 (ha pins s σ H _ I h) fun v s1 ⟨x,H1,I1,r1,q1⟩=>?_)
 obtain⟨c,rfl,q1⟩:=q1
 cases r1
 refine wpAny_truthy_bool ?_
 cases c with
 |false=>exact hb pins s1 σ H1 Q I1 q1
 |true=>exact⟨.bl true,H1,I1,rfl,q1⟩
theorem xU (ha:PE X a ta):PE X (.UnaryOp .Not a pos) (AA ta):=by
 intro pins s σ H Q I h
 refine UnaryOp_ (b7 (ha pins s σ H _ I h) fun v s1 ⟨x,H1,I1,r1,q1⟩=>?_)
 obtain⟨c,rfl,q1⟩:=q1
 cases r1
 exact not_of (wpAny_truthy_bool ⟨.bl (!c),H1,I1,rfl,q1⟩)
noncomputable def DQ (t:TT)(ta tb:TE):TE:=fun σ H Q=>t σ H fun c H1=>if c=true then ta σ H1 Q else tb σ H1 Q
theorem rA {c:Expr}(hc:PT X c tA)(ha:PE X a ta)(hb:PE X b tb):PE X (.IfExp c a b pos) (DQ tA ta tb):=by
 intro pins s σ H Q I h
 refine wpAny_IfExp (b7 (hc pins s σ H _ I h) fun d s1 ⟨H1,I1,q1⟩=>?_)
 cases d with
 |true=>exact ha pins s1 σ H1 Q I1 q1
 |false=>exact hb pins s1 σ H1 Q I1 q1
end
end L2
namespace L2
open PySem PySem.Spec PyProof.Rows
noncomputable def SqL (K:PySem.W.Frag)(H:Hp)(a:Addr)(xs:List V):Prop:=
 Rd H a (.lst xs)\/
  ∃(o:Obj)(its:Array Value)(n:Nat),K.lookup a=some o/\o.cls=.type "list"/\o.dict=none/\o.data=.seq its n/\its.size<=sizeLine/\Vals xs its.toList
noncomputable def SqT (K:PySem.W.Frag)(H:Hp)(a:Addr)(xs:List V):Prop:=
 Rd H a (.tup xs)\/
  ∃(o:Obj)(its:Array Value)(n:Nat),K.lookup a=some o/\o.cls=.type "tuple"/\o.data=.seq its n/\its.size<=sizeLine/\Vals xs its.toList
noncomputable def CF:Value->Option V
 | .none=>some .non
 | .bool b=>some (.bl b)
 | .int i _=>some (.int i)
 | .str x _=>some (.str x)
 | .bytes b _=>some (.byt b)
 | .float b _=>some (.flt b)
 | .ref a=>some (.ref a)
 | .type n=>some (.ty n)
 |_=>none
theorem RelV.abs {x:V}{u:Value}(r:RelV x u):CF u=some x:=by
 cases x with
 |non=>cases r;rfl
 |bl _=>cases r;rfl
 |int _=>obtain⟨t,rfl⟩:=r;rfl
 |str _=>obtain⟨t,rfl⟩:=r;rfl
 |byt _=>obtain⟨t,rfl⟩:=r;rfl
 |flt _=>obtain⟨t,rfl⟩:=r;rfl
 |ref _=>cases r;rfl
 |ty _=>cases r;rfl
theorem RelV.inj {x y:V}{u:Value}(r:RelV x u)(q:RelV y u):x=y:=Option.some.inj (r.abs.symm.trans q.abs)
theorem Vals.inj:∀{xs ys:List V}{us:List Value},Vals xs us->Vals ys us->xs=ys
 |_,_,_,.nil,.nil=>rfl
 |_,_,_,.cons r t,.cons r' t'=>by rw[r.inj r',Vals.inj t t']
section
variable {X:Cx}{pins:List (Addr×Obj)}{σ:St}{H:Hp}{s:Shared}{a:Addr}{xs ys:List V}
theorem SqL.of {K:PySem.W.Frag}(h:H a=some (.lst xs)):SqL K H a xs:=.inl (.inl h)
theorem SqT.of {K:PySem.W.Frag}(h:H a=some (.tup xs)):SqT K H a xs:=.inl (.inl h)
theorem Inv.list (I:Inv X pins σ H s)(h:SqL X.K H a xs):∃ its:List Value,Vals xs its/\PlainL s.heap a its.toArray/\xs.length<=sizeLine:=by
 rcases h with h|⟨o,its,n,hk,hc,hd,hs,hz,r⟩
 ·obtain⟨z,its,n,r,e⟩:=h.ok I.hok
  exact⟨its,r,⟨_,n,e,rfl,rfl,rfl⟩,z⟩
 ·refine⟨its.toList,r,⟨o,n,I.kIn a o hk,hc,hd,by simpa using hs⟩,?_⟩
  have e:=r.length
  simp only[Array.length_toList]at e
  omega
theorem Inv.tuple (I:Inv X pins σ H s)(h:SqT X.K H a xs):∃ its:List Value,Vals xs its/\IsTup s.heap a its.toArray/\xs.length<=sizeLine:=by
 rcases h with h|⟨o,its,n,hk,hc,hs,hz,r⟩
 ·obtain⟨z,its,r,p⟩:=h.ok I.hok
  exact⟨its,r,p,z⟩
 ·refine⟨its.toList,r,⟨o,I.kIn a o hk,hc,n,by simpa using hs⟩,?_⟩
  have e:=r.length
  simp only[Array.length_toList]at e
  omega
theorem Inv.list_inj (I:Inv X pins σ H s)(h:SqL X.K H a xs)(h':SqL X.K H a ys):xs=ys:=by
 obtain⟨its,r,⟨o,n,e,_,_,d⟩,_⟩:=I.list h
 obtain⟨its',r',⟨o',n',e',_,_,d'⟩,_⟩:=I.list h'
 rw[e]at e';cases e'
 rw[d]at d'
 injection d' with d1 _
 have:its=its':=by simpa using congrArg Array.toList d1
 subst this
 exact r.inj r'
theorem Inv.tuple_inj (I:Inv X pins σ H s)(h:SqT X.K H a xs)(h':SqT X.K H a ys):xs=ys:=by
 obtain⟨its,r,⟨o,e,_,n,d⟩,_⟩:=I.tuple h
 obtain⟨its',r',⟨o',e',_,n',d'⟩,_⟩:=I.tuple h'
 rw[e]at e';cases e'
 rw[d]at d'
 injection d' with d1 _
 have:its=its':=by simpa using congrArg Array.toList d1
 subst this
 exact r.inj r'
end
noncomputable abbrev Cx.wish (X:Cx)(E:Value->Shared->Prop):Cx:={ X with xe:=E }
noncomputable abbrev Cx.nox (X:Cx):Cx:=X.wish fun _ _=>False
theorem Cx.Ok.wish {X:Cx}(ok:X.Ok)(E:Value->Shared->Prop):(X.wish E).Ok:=
 ⟨ok.mod,ok.kind,ok.glob,ok.blt,ok.above,ok.inj,ok.has,ok.cab,ok.hd,ok.frames,ok.stk,ok.exf,ok.bs,ok.bsz,ok.noex,ok.exfs,ok.funs,ok.frf,ok.kt⟩
theorem Cx.Ok.unwish {X:Cx}{E:Value->Shared->Prop}(ok:(X.wish E).Ok):X.Ok:=
 ⟨ok.mod,ok.kind,ok.glob,ok.blt,ok.above,ok.inj,ok.has,ok.cab,ok.hd,ok.frames,ok.stk,ok.exf,ok.bs,ok.bsz,ok.noex,ok.exfs,ok.funs,ok.frf,ok.kt⟩
section
variable {X:Cx}{pins:List (Addr×Obj)}{σ:St}{H:Hp}{s:Shared}{E:Value->Shared->Prop}
theorem Inv.wish (I:Inv X pins σ H s)(E:Value->Shared->Prop):Inv (X.wish E) pins σ H s:=⟨I.ok.wish E,I.os,I.bare,I.base,I.loc,I.cell,I.free,I.freeC,I.pin,I.hok,I.len⟩
theorem Inv.unwish (I:Inv (X.wish E) pins σ H s):Inv X pins σ H s:=⟨I.ok.unwish,I.os,I.bare,I.base,I.loc,I.cell,I.free,I.freeC,I.pin,I.hok,I.len⟩
theorem SP.unwish {D:Ends}{f:Flow}{s':Shared}(h:SP (X.wish E) pins D f s'):SP X pins D f s':=by
 cases f with
 |next=>obtain⟨σ',H',I,q⟩:=h;exact⟨σ',H',I.unwish,q⟩
 |brk=>obtain⟨σ',H',I,q⟩:=h;exact⟨σ',H',I.unwish,q⟩
 |cont=>obtain⟨σ',H',I,q⟩:=h;exact⟨σ',H',I.unwish,q⟩
 |ret u=>obtain⟨v,σ',H',I,r,q⟩:=h;exact⟨v,σ',H',I.unwish,r,q⟩
theorem PE.nox {e:Expr}{t:TE}(h:PE X.nox e t):PE X e t:=fun pins s σ H Q I hw=>
 wpAny_mono (h pins s σ H Q (I.wish _) hw) (fun _ _ ⟨v,H',I',r,q⟩=>⟨v,H',I'.unwish,r,q⟩) fun _ _ z=>False.elim z
theorem PT.nox {e:Expr}{t:TT}(h:PT X.nox e t):PT X e t:=fun pins s σ H Q I hw=>
 wpAny_mono (h pins s σ H Q (I.wish _) hw) (fun _ _ ⟨H',I',q⟩=>⟨H',I'.unwish,q⟩) fun _ _ z=>False.elim z
theorem PSs.nox {st:List Stmt}{t:TS}(h:PSs X.nox st t):PSs X st t:=fun pins s σ H D I hw=>
 wpAny_mono (h pins s σ H D (I.wish _) hw) (fun _ _ q=>q.unwish) fun _ _ z=>False.elim z
end
section
variable {X:Cx}{st:Stmt}{aQ:List Stmt}{t u:TS}{e:Expr}{te:TE}{pos:Pos}
noncomputable def AC:TS:=fun D σ H=>D.nx σ H
noncomputable def CG (t u:TS):TS:=fun D σ H=>t { D with nx:=u D } σ H
theorem uX:PSs X [] AC:=fun _ _ σ H _ I h=>wpAny_execs_nil ⟨σ,H,I,h⟩
theorem rB (h1:PS X st t)(h2:PSs X aQ u):PSs X (st::aQ) (CG t u):=by
 intro pins s σ H D I h
 refine wpAny_execs_cons (b7 (h1 pins s σ H { D with nx:=u D } I h) fun f s1 q=>?_)
 cases f with
 |next=>
  obtain⟨σ',H',I',q⟩:=q
  exact h2 pins s1 σ' H' D I' q
 |ret v=>exact q
 |brk=>exact q
 |cont=>exact q
theorem uY (h1:PS X st t):PSs X [st] t:=by
 intro pins s σ H D I h
 refine wpAny_execs_cons (b7 (h1 pins s σ H D I h) fun f s1 q=>?_)
 cases f with
 |next=>exact wpAny_execs_nil q
 |ret v=>exact q
 |brk=>exact q
 |cont=>exact q
theorem Inv.quiet {pins:List (Addr×Obj)}{σ:St}{H:Hp}{s:Shared}(I:Inv X pins σ H s):interactive X.env=false:=by simp[interactive,I.ok.kind]
noncomputable def AD (te:TE):TS:=fun D σ H=>te σ H fun _ H1=>D.nx σ H1
theorem lu (he:PE X e te)(hs:autoParam (swapsWith e none pos.line X.env=pure false) autoR._auto_1):PS X (.Expr e pos) (AD te):=by
 intro pins s σ H D I h
 exact wpAny_Expr_any (b7 (he pins s σ H _ I h) fun v s1 ⟨x,H1,I1,r1,q1⟩=>⟨σ,H1,I1,q1⟩) I.quiet hs
noncomputable def CH (te:TE):TS:=fun D σ H=>te σ H D.rt
theorem xV (he:PE X e te):PS X (.Return (some e) pos) (CH te):=by
 intro pins s σ H D I h
 exact wpAny_Return_some (b7 (he pins s σ H _ I h) fun v s1 ⟨x,H1,I1,r1,q1⟩=>⟨x,σ,H1,I1,r1,q1⟩)
noncomputable def CI (c:TT)(t u:TS):TS:=fun D σ H=>c σ H fun b H1=>if b=true then t D σ H1 else u D σ H1
theorem AE {c:Expr}{a b:List Stmt}{tc:TT}(hc:PT X c tc)(ha:PSs X a t)(hb:PSs X b u):PS X (.If c a b pos) (CI tc t u):=by
 intro pins s σ H D I h
 refine wpAny_If (b7 (hc pins s σ H _ I h) fun d s1 ⟨H1,I1,q1⟩=>?_)
 cases d with
 |true=>exact ha pins s1 σ H1 D I1 q1
 |false=>exact hb pins s1 σ H1 D I1 q1
end
noncomputable abbrev TG:=V->St->Hp->(St->Hp->Prop)->Prop
noncomputable abbrev wU:=List V->St->Hp->(St->Hp->Prop)->Prop
noncomputable def PG (X:Cx)(target:Expr)(t:TG):Prop:=
 ∀(pins:List (Addr×Obj))(s:Shared)(σ:St)(H:Hp)(v:V)(u:Value)(Q:St->Hp->Prop),Inv X pins σ H s->RelV v u->t v σ H Q->
  wpAny (model X.prog X.w) X.A (assign target X.env u) (fun _ s'=>∃ σ' H',Inv X pins σ' H' s'/\Q σ' H') X.xe s
noncomputable def xW (X:Cx)(ts:List Expr)(t:wU):Prop:=
 ∀(pins:List (Addr×Obj))(s:Shared)(σ:St)(H:Hp)(vs:List V)(us:List Value)(Q:St->Hp->Prop),Inv X pins σ H s->Vals vs us->t vs σ H Q->
  wpAny (model X.prog X.w) X.A (assignInOrder ((assignEach ts X.env).map (·.2)) us) (fun _ s'=>∃ σ' H',Inv X pins σ' H' s'/\Q σ' H') X.xe s
section
variable {X:Cx}{pos:Pos}
noncomputable def jc (i:Nat):TG:=fun v σ H Q=>Q (σ.set i (some v)) H
theorem oC {i:Nat}{x:Str}(hN:X.N.Nodup)(hi:X.N[i]?=some x)(hx:xM X.env.scope x)(hf:autoParam (X.fn x=true\/X.env.scope.names.lookup x=some .local) autoF._auto_1):PG X (.Name x pos) (jc i):=by
 intro pins s σ H v u Q I r h
 exact wpAny_assign_Name (mE I hN hi hx r (fun s' I'=>⟨_,H,I',h⟩) hf)
noncomputable def CJ:wU:=fun vs σ H Q=>vs=[]/\Q σ H
noncomputable def wV (t:TG)(u:wU):wU:=fun vs σ H Q=>∃ v r,vs=v::r/\t v σ H fun σ' H'=>u r σ' H' Q
theorem uZ:xW X [] CJ:=by
 intro pins s σ H vs us Q I r h
 obtain⟨e,h⟩:=h
 subst e
 cases r
 exact assignInOrder_nil ⟨σ,H,I,h⟩
theorem aM {e:Expr}{es:List Expr}{t:TG}{u:wU}(h1:PG X e t)(h2:xW X es u)
 (hs:autoParam ((assignEach (e::es) X.env).map (·.2)=assign e X.env::(assignEach es X.env).map (·.2)) autoR._auto_1):xW X (e::es) (wV t u):=by
 intro pins s σ H vs us Q I r h
 obtain⟨v,vr,e1,h⟩:=h
 subst e1
 cases r with
 |cons r rr=>
  rw[hs]
  refine assignInOrder_cons (b7 (h1 pins s σ H _ _ _ I r h) fun _ s1 ⟨σ1,H1,I1,q1⟩=>?_)
  exact h2 pins s1 σ1 H1 _ _ Q I1 rr q1
noncomputable def CK (K:PySem.W.Frag)(n:Nat)(t:wU):TG:=fun v σ H Q=>∃ a xs,v=.ref a/\SqT K H a xs/\xs.length=n/\t xs σ H Q
theorem xX {es:List Expr}{k:Nat}{t:wU}{n:Nat}(hc:X.calm=true)(h:xW X es t)
 (hn:autoParam ((assignEach es X.env).length=n) autoR._auto_1) (hst:autoParam ((assignEach es X.env).findIdx? (·.1)=none) autoR._auto_1):PG X (.Tuple es k pos) (CK X.K n t):=by
 intro pins s σ H v u Q I r hw
 obtain⟨a,xs,e1,hq,hl,hw⟩:=hw
 subst e1
 cases r
 obtain⟨its,rv,ht,hz⟩:=I.tuple hq
 refine assign_Tuple_tuple (I.ok.hd hc) ht (by simp[hn,<- hl,rv.length]) hst fun h' hx=>?_
 have I1:Inv X pins σ H { s with heap:=h' }:=I.kept (t':=s.toks) fun b o e=>hx b o (Nat.ne_of_lt (Heap.lt_size e)) e
 exact h pins _ σ H xs _ Q I1 (by simpa using rv) hw
noncomputable def xY (te:TE)(g:TG):TS:=fun D σ H=>te σ H fun x H1=>g x σ H1 D.nx
theorem rC {i:Nat}{x:Str}{e:Expr}{te:TE}{pos':Pos}(hN:X.N.Nodup)(hi:X.N[i]?=some x)(hx:xM X.env.scope x)(he:PE X e te)(hs:autoParam (swapsWith e (some (.Name x pos')) pos.line X.env=pure false) autoR._auto_1)(hf:autoParam (X.fn x=true\/X.env.scope.names.lookup x=some .local) autoF._auto_1) :
 PS X (.Assign [.Name x pos'] e pos) (xY te (jc i)):=by
 intro pins s σ H D I h
 refine wpAny_Assign_Name (b7 (he pins s σ H _ I h) fun v s1 ⟨y,H1,I1,r1,q1⟩=>?_) hs
 exact mE I1 hN hi hx r1 (fun s2 I2=>⟨_,H1,I2,q1⟩) hf
end
section
variable {X:Cx}{pos:Pos}
end
structure It where
 go:Nat->Hp->Prop
 yld:Nat->Hp->V->Hp->Prop
 stop:Nat->Hp->Prop
noncomputable def FpOk (X:Cx)(pins:List (Addr×Obj))(H:Hp)(b:Addr):Prop:=
 H b=none/\b≠X.env.locals/\b∉X.fs/\(b∈X.ex\/X.s₀.heap.objs.size<=b)/\(∀ x c,X.env.cells.lookup x=some c->c≠b)/\∀ p∈X.pn++pins,p.1≠b
theorem Inv.fpOk {X:Cx}{pins:List (Addr×Obj)}{σ:St}{H H':Hp}{s:Shared}{b:Addr}(I:Inv X pins σ H s)(hb:s.heap.objs.size<=b)(hn:H' b=none):FpOk X pins H' b:=by
 refine⟨hn,Nat.ne_of_gt (Nat.lt_of_lt_of_le I.lt hb),I.nofs hb,.inr (Nat.le_trans I.sz hb),fun x c e z=>?_,fun p hp z=>?_⟩
 ·obtain⟨v,q⟩:=I.cell x c e
  exact absurd (Nat.lt_of_lt_of_le q.lt (by rw[z];exact hb)) (Nat.lt_irrefl _)
 ·exact absurd (Nat.lt_of_lt_of_le (Heap.lt_size (I.pin p hp).1) (by rw[z];exact hb)) (Nat.lt_irrefl _)
structure Turn (P:Program) (w:World) (K:PySem.W.Frag) (tg:Expr) (J:It) (fp:List Addr) (it:Addr) (tn:Nat->Heap->Prop):Prop where
 mem:it∈fp
 obj:∀ i h,tn i h->∀ b∈fp,∃ o,h.get? b=some o/\∀ v,o.data≠.cell v
 keep:∀ i h h',tn i h->(∀ b∈fp,∀ o,h.get? b=some o->h'.get? b=some o)->tn i h'
 item:∀(X:Cx),X.prog=P->X.w=w->X.K=K->X.calm=true->∀(i:Nat)(pins:List (Addr×Obj))(s:Shared)(σ:St)(H:Hp)(E:Value->Shared->Prop),Inv X pins σ H s->(∀ b∈fp,FpOk X pins H b)->tn i s.heap->J.go i H->
  wpAny (model P w) X.A (pyNext (.ref it)) (fun r s1=>∃ u,r=some u/\
   wpAny (model P w) X.A (letOwnedTupleGo tg (.ref it) u) (fun _ s2=>∃ x H',Inv X pins σ H' s2/\RelV x u/\J.yld i H x H'/\tn (i+1) s2.heap/\∀ b∈fp,H' b=none) E s1) E s
 done:∀(X:Cx),X.prog=P->X.w=w->X.K=K->X.calm=true->∀(i:Nat)(pins:List (Addr×Obj))(s:Shared)(σ:St)(H:Hp)(E:Value->Shared->Prop),Inv X pins σ H s->(∀ b∈fp,FpOk X pins H b)->tn i s.heap->J.stop i H->
  wpAny (model P w) X.A (pyNext (.ref it)) (fun r s1=>r=none/\Inv X pins σ H s1) E s
 self:∀(A:Around)(i:Nat)(s:Shared)(Q:Value->Shared->Prop)(E:Value->Shared->Prop),tn i s.heap->Q (.ref it) s->wpAny (model P w) A (pyIter (.ref it)) Q E s
noncomputable abbrev TI:=St->Hp->(It->Hp->Prop)->Prop
noncomputable def DB (X:Cx)(pins:List (Addr×Obj))(σ:St)(tg:Expr)(R:It->Hp->Prop)(itv:Value)(s2:Shared):Prop:=
 ∃(it:Addr)(fp:List Addr)(tn:Nat->Heap->Prop)(J:It)(H':Hp),itv=.ref it/\Inv X pins σ H' s2/\Turn X.prog X.w X.K tg J fp it tn/\tn 0 s2.heap/\(∀ b∈fp,FpOk X pins H' b)/\R J H'
noncomputable def PI (X:Cx)(tg iter:Expr)(wi:TI):Prop:=
 ∀(pins:List (Addr×Obj))(s:Shared)(σ:St)(H:Hp)(R:It->Hp->Prop),Inv X pins σ H s->wi σ H R->
  wpAny (model X.prog X.w) X.A (eval iter X.env) (fun v s1=>wpAny (model X.prog X.w) X.A (pyIter v) (DB X pins σ tg R) X.xe s1) X.xe s
theorem oD {M:Model}{A:Around}{E:Value->Shared->Prop}{s:Shared}{tg:Expr}{it:Addr}{u:Value}{o:Obj}{n:String}{vs:Array Value}{Q:Unit->Shared->Prop}(ho:s.heap.get? it=some o)(hc:o.cls=.type n)(hd:o.data=.fields vs)
 (hn:["enumerate", "zip", "dict_itemiterator", "dict_reverseitemiterator", "odict_iterator", "itertools.zip_longest", "itertools.pairwise"].contains n=false) (hQ:Q () s):wpAny M A (letOwnedTupleGo tg (.ref it) u) Q E s:=by
 unfold letOwnedTupleGo
 cases tg<;>first
  |exact wpAny_pure hQ
  |(cases u<;>first
     |exact wpAny_pure hQ
     |(refine wpAny_bind (wpAny_load ho ?_)
       rw[hc,hd]
       show wpAny M A (if (["enumerate", "zip", "dict_itemiterator", "dict_reverseitemiterator", "odict_iterator", "itertools.zip_longest", "itertools.pairwise"].contains n&&vs[0]?==some (rawInt _))=true then _ else _) Q E s
       rw[if_neg (by intro h;rw[hn,Bool.false_and]at h;cases h)]
       exact wpAny_pure hQ))
noncomputable def CL (K:PySem.W.Frag)(a:Addr):It:=
 ⟨fun i H=>∃ xs x,SqL K H a xs/\xs[i]?=some x,fun i H x H'=>H'=H/\∀ xs,SqL K H a xs->xs[i]?=some x,fun i H=>∃ xs,SqL K H a xs/\xs.length<=i⟩
noncomputable def CM (K:PySem.W.Frag)(a:Addr):It:=
 ⟨fun i H=>∃ xs x,SqT K H a xs/\xs[i]?=some x,fun i H x H'=>H'=H/\∀ xs,SqT K H a xs->xs[i]?=some x,fun i H=>∃ xs,SqT K H a xs/\xs.length<=i⟩
noncomputable def Cl (lo:Int)(n:Nat):It:=⟨fun i _=>i<n,fun i H x H'=>H'=H/\x=.int (lo+i),fun i _=>n<=i⟩
theorem pK {P:Program}{w:World}{K:PySem.W.Frag}{tg:Expr}(a it:Addr):Turn P w K tg (CL K a) [it] it (fun i h=>h.IsListIter it a i) where
 mem:=by simp
 obj:=fun i h st b hb=>by
  have e:b=it:=by simpa using hb
  subst e
  obtain⟨o,e,c,d⟩:=st
  exact⟨o,e,fun v z=>by rw[d]at z;cases z⟩
 keep:=fun i h h' st k=>st.at fun o e=>k it (by simp) o e
 item:=by
  intro X hP hw hK hc i pins s σ H E I hf st hg
  subst hP hw hK
  obtain⟨xs,x,hq,hx⟩:=hg
  obtain⟨its,rv,p,hz⟩:=I.list hq
  obtain⟨u,hu,ru⟩:=rv.get hx
  obtain⟨f0,f1,f2,f3,f4,f5⟩:=hf it (by simp)
  refine wpAny_pyNext_list_item st p.isList (x:=u) (by simpa using hu) fun h' st' sb=>?_
  have I1:Inv X pins σ H { s with heap:=h' }:=I.turned (t':=s.toks) (fun b o hb e=>(sb.2 b hb).trans e) f0 f1 f3 f4 f5
  obtain⟨o,e,c,d⟩:=id st'
  exact⟨u,rfl,oD (s:={ s with heap:=h' }) e c d (by decide) ⟨x,H,I1,ru,⟨rfl,fun ys hy=>by rw[I.list_inj hy hq];exact hx⟩,st',fun b hb=>(hf b hb).1⟩⟩
 done:=by
  intro X hP hw hK hc i pins s σ H E I hf st hg
  subst hP hw hK
  obtain⟨xs,hq,hx⟩:=hg
  obtain⟨its,rv,p,hz⟩:=I.list hq
  obtain⟨f0,f1,f2,f3,f4,f5⟩:=hf it (by simp)
  have hl:=rv.length
  exact wpAny_pyNext_list_end (I.ok.hd hc) st p.isList (by simp;omega) fun h' eb=>⟨rfl,I.turned (t':=s.toks) (fun b o hb e=>eb b o hb e) f0 f1 f3 f4 f5⟩
 self:=fun _ _ _ _ _ st h=>wpAny_pyIter_listiter st h
theorem nK {P:Program}{w:World}{K:PySem.W.Frag}{tg:Expr}(a it:Addr):Turn P w K tg (CM K a) [it] it (fun i h=>h.IsTupleIter it a i) where
 mem:=by simp
 obj:=fun i h st b hb=>by
  have e:b=it:=by simpa using hb
  subst e
  obtain⟨o,e,c,d⟩:=st
  exact⟨o,e,fun v z=>by rw[d]at z;cases z⟩
 keep:=fun i h h' st k=>st.at fun o e=>k it (by simp) o e
 item:=by
  intro X hP hw hK hc i pins s σ H E I hf st hg
  subst hP hw hK
  obtain⟨xs,x,hq,hx⟩:=hg
  obtain⟨its,rv,p,hz⟩:=I.tuple hq
  obtain⟨u,hu,ru⟩:=rv.get hx
  obtain⟨f0,f1,f2,f3,f4,f5⟩:=hf it (by simp)
  refine wpAny_pyNext_tuple_item st (show s.heap.IsTuple a its.toArray from p) (x:=u) (by simpa using hu) fun h' st' sb=>?_
  have I1:Inv X pins σ H { s with heap:=h' }:=I.turned (t':=s.toks) (fun b o hb e=>(sb.2 b hb).trans e) f0 f1 f3 f4 f5
  obtain⟨o,e,c,d⟩:=id st'
  exact⟨u,rfl,oD (s:={ s with heap:=h' }) e c d (by decide) ⟨x,H,I1,ru,⟨rfl,fun ys hy=>by rw[I.tuple_inj hy hq];exact hx⟩,st',fun b hb=>(hf b hb).1⟩⟩
 done:=by
  intro X hP hw hK hc i pins s σ H E I hf st hg
  subst hP hw hK
  obtain⟨xs,hq,hx⟩:=hg
  obtain⟨its,rv,p,hz⟩:=I.tuple hq
  obtain⟨f0,f1,f2,f3,f4,f5⟩:=hf it (by simp)
  have hl:=rv.length
  exact wpAny_pyNext_tuple_end (I.ok.hd hc) st (show s.heap.IsTuple a its.toArray from p) (by simp;omega) fun h' eb=>⟨rfl,I.turned (t':=s.toks) (fun b o hb e=>eb b o hb e) f0 f1 f3 f4 f5⟩
 self:=fun _ _ _ _ _ st h=>wpAny_pyIter_tupleiter st h
theorem nL {P:Program}{w:World}{K:PySem.W.Frag}{tg:Expr}(it:Addr)(lo:Int)(n:Nat):Turn P w K tg (Cl lo n) [it] it (fun i h=>IsRangeIter h it (lo+(i:Nat)*1) ((n:Int)-(i:Nat)) 1) where
 mem:=by simp
 obj:=fun i h st b hb=>by
  have e:b=it:=by simpa using hb
  subst e
  exact⟨_,st,fun v z=>by
   have z':Data.fields _=Data.cell v:=z
   cases z'⟩
 keep:=fun i h h' st k=>k it (by simp) _ st
 item:=by
  intro X hP hw hK hc i pins s σ H E I hf st hg
  subst hP hw hK
  obtain⟨f0,f1,f2,f3,f4,f5⟩:=hf it (by simp)
  have W:=Walks.range (prog:=X.prog) (w:=X.w) (I.ok.hd hc) it lo 1 n
  refine W.item i s _ _ hg st fun v h' tk hv st' kk=>?_
  obtain⟨t,rfl⟩:=hv
  have I1:Inv X pins σ H { s with heap:=h',toks:=tk }:=I.turned (fun b o hb e=>kk b o (by simpa using hb) e) f0 f1 f3 f4 f5
  refine⟨_,rfl,oD (s:={ s with heap:=h',toks:=tk }) (n:="range_iterator") st' rfl rfl (by decide) ⟨.int (lo+i),H,I1,⟨t,?_⟩,⟨rfl,rfl⟩,st',fun b hb=>(hf b hb).1⟩⟩
  rw[Int.mul_one]
 done:=by
  intro X hP hw hK hc i pins s σ H E I hf st hg
  subst hP hw hK
  obtain⟨f0,f1,f2,f3,f4,f5⟩:=hf it (by simp)
  exact wpAny_pyNext_range_end (I.ok.hd hc) st (by have:n<=i:=hg;omega) fun h' eb=>⟨rfl,I.turned (t':=s.toks) (fun b o hb e=>eb b o hb e) f0 f1 f3 f4 f5⟩
 self:=fun _ _ _ _ _ st h=>wpAny_pyIter_rangeiter st h
end L2
namespace L2
open PySem PySem.Spec PyProof.Rows
section
variable {X:Cx}{tg:Expr}
theorem rD {pins:List (Addr×Obj)}{σ:St}{H:Hp}{s:Shared}{R:It->Hp->Prop}{E:Value->Shared->Prop}{lo hi:Int}{t u v:Tok}{tk:Nat}(I:Inv X pins σ H s)(h1:-(2 ^ 62)<=lo)(h2:lo<2 ^ 62)(h3:-(2 ^ 62)<=hi)(h4:hi<2 ^ 62)
 (q:R (Cl lo (hi-lo).toNat) H):wpAny (model X.prog X.w) X.A (pyIter (.ref s.heap.objs.size)) (DB X pins σ tg R) E { s with heap:=s.heap.push { cls:=.type "range",data:=.fields #[.int lo t,.int hi u,.int 1 v] },toks:=tk }:=by
 refine wpAny_pyIter_range (IsRange.new ..) (small_one h1 h2 h3 h4) ?_
 have I1:Inv X pins σ H { s with heap:=s.heap.push { cls:=.type "range",data:=.fields #[.int lo t,.int hi u,.int 1 v] },toks:=tk }:=I.kept fun b o e=>Heap.get?_push_of_some _ e
 refine⟨(s.heap.push { cls:=.type "range",data:=.fields #[.int lo t,.int hi u,.int 1 v] }).objs.size,[(s.heap.push { cls:=.type "range",data:=.fields #[.int lo t,.int hi u,.int 1 v] }).objs.size],_,_,H,rfl,
  I1.kept (t':=tk) fun b o e=>Heap.get?_push_of_some _ e,nL _ lo (hi-lo).toNat,?_,fun b hb=>?_,q⟩
 ·have e1:lo+((0:Nat):Int)*1=lo:=by simp
  have e2:(((hi-lo).toNat:Nat):Int)-((0:Nat):Int)=Builtin.Range.rangeSize lo hi 1:=by rw[rangeSize_one];split<;>omega
  show IsRangeIter _ _ (lo+((0:Nat):Int)*1) ((((hi-lo).toNat:Nat):Int)-((0:Nat):Int)) 1
  rw[e1,e2]
  exact Heap.get?_push_size _ rfl
 ·have e:b=(s.heap.push { cls:=.type "range",data:=.fields #[.int lo t,.int hi u,.int 1 v] }).objs.size:=by simpa using hb
  subst e
  exact I1.fpOk (Nat.le_refl _) (I1.hok.fresh (Nat.le_refl _))
noncomputable def AF (ta:TA):TI:=fun σ H R=>ta σ H fun vs H1=>∃ j:Int,vs=[.int j]/\-(2 ^ 62)<=j/\j<2 ^ 62/\R (Cl 0 j.toNat) H1
theorem pL {a:Expr} {ta:TA} {p pos:Pos} (hg:Gl X "range") (hm:X.mg "range"=none) (ha:PA X [a] ta) (hs:autoParam (starEach [a] X.env=[(false,eval a X.env)]) autoR._auto_1):PI X tg (.Call (.Name "range" p) [a] [] pos) (AF ta):=by
 intro pins s σ H R I h
 refine Call_ (ic I hg hm boot_range (PyProof.Rows.callWith_type1 (b7 (ha pos pins s σ H _ I h) fun us s1 ⟨vs,H1,I1,r1,q1⟩=>?_) hs rfl))
 obtain⟨j,e,q1,q2,q⟩:=q1
 subst e
 cases r1 with
 |cons r rr=>
  cases rr
  obtain⟨t,rfl⟩:=r
  exact call_range_1 (rD I1 (by omega) (by omega) q1 q2 (by simpa using q))
noncomputable def CN (wi:TI)(g:TG)(tb:TS):TS:=fun D σ H=>wi σ H fun J H1=>∃ W:Nat->Nat->St->Hp->Prop,(∃ m,W 0 m σ H1)/\∀ i m σ H,W i m σ H->
 (J.stop i H/\D.nx σ H)\/(J.go i H/\∃ N:St->Hp->Prop,(∀ σ' H',N σ' H'->∃ m',m'<m/\W (i+1) m' σ' H')/\∀ x H',J.yld i H x H'->g x σ H' fun σ2 H2=>tb { D with nx:=N,ct:=N,bk:=D.nx } σ2 H2)
noncomputable def jd (fp:List Addr)(h:Heap):List (Addr×Obj):=fp.filterMap fun b=>(h.get? b).map fun o=>(b,o)
theorem dQ {fp:List Addr}{h:Heap}{b:Addr}{o:Obj}(hb:b∈fp)(e:h.get? b=some o):(b,o)∈jd fp h:=List.mem_filterMap.mpr ⟨b,hb,by rw[e];rfl⟩
theorem pM {fp:List Addr}{h:Heap}{p:Addr×Obj}(hp:p∈jd fp h):p.1∈fp/\h.get? p.1=some p.2:=by
 obtain⟨b,hb,e⟩:=List.mem_filterMap.mp hp
 cases q:h.get? b with
 |none=>rw[q]at e;cases e
 |some o=>
  rw[q]at e
  have e':(b,o)=p:=Option.some.inj e
  subst e'
  exact⟨hb,q⟩
theorem Inv.pinned {pins:List (Addr×Obj)}{σ:St}{H:Hp}{s:Shared}{fp:List Addr}(I:Inv X pins σ H s)(hf:∀ b∈fp,FpOk X pins H b)(ho:∀ b∈fp,∃ o,s.heap.get? b=some o/\∀ v,o.data≠.cell v):Inv X (pins++jd fp s.heap) σ H s:=
 I.pins_of fun p hp=>(List.mem_append.mp hp).elim (fun z=>I.pin p (List.mem_append_right _ z)) fun z=>by
  obtain⟨hb,e⟩:=pM z
  obtain⟨f0,f1,f2,_⟩:=hf p.1 hb
  obtain⟨o,e',d⟩:=ho p.1 hb
  rw[e]at e';cases e'
  exact⟨e,f0,f1,f2,d⟩
theorem Inv.unpinned {pins pl:List (Addr×Obj)}{σ:St}{H:Hp}{s:Shared}(I:Inv X (pins++pl) σ H s):Inv X pins σ H s:=I.pins_of fun p hp=>I.pin p (List.mem_append_right _ (List.mem_append_left _ hp))
theorem xZ {iter:Expr}{body:List Stmt}{wi:TI}{g:TG}{tb:TS}{pos:Pos}(hp:PassesOwn (model X.prog X.w) X.A X.env X.xe)(hc:X.calm=true)(hi:PI X tg iter wi)(hg:PG X tg g)(hb:PSs X body tb)
 (hs:autoParam (∀ x,foldedSetIterable iter X.env x=pure x) autoI._auto_1):PS X (.For tg iter body [] pos) (CN wi g tb):=by
 intro pins s σ H D I h
 refine wpAny_For (b7 (hi pins s σ H _ I h) fun v s1 h1=>b7 h1 fun itv s2 h2=>?_) hs
 obtain⟨it,fp,tn,J,H2,e,I2,T,st2,f2,W,⟨m0,w0⟩,turn⟩:=h2
 subst e
 have stat:∀{H':Hp},(∀ b∈fp,H' b=none)->∀ b∈fp,FpOk X pins H' b:=fun hn b hb=>⟨hn b hb,(f2 b hb).2⟩
 refine codeAny_forLoop_any (fun n s'=>∃ i σ' H',Inv X pins σ' H' s'/\tn i s'.heap/\(∀ b∈fp,H' b=none)/\W i n σ' H') ?_ m0 ⟨0,σ,H2,I2,st2,fun b hb=>(f2 b hb).1,w0⟩
 rintro n s3 ⟨i,σ3,H3,I3,st3,fr3,w3⟩
 rcases turn i n σ3 H3 w3 with⟨stop,qn⟩|⟨go,N,hN,step⟩
 ·refine wpAny_passesOwn hp (b7 (T.done X rfl rfl rfl hc i pins s3 σ3 H3 X.xe I3 (stat fr3) st3 stop) fun r s4 ⟨hr,I4⟩=>?_)
  subst hr
  exact wpAny_execs_nil ⟨σ3,H3,I4,qn⟩
 ·refine wpAny_passesOwn hp (b7 (T.item X rfl rfl rfl hc i pins s3 σ3 H3 X.xe I3 (stat fr3) st3 go) fun r s4 ⟨u,hr,h4⟩=>?_)
  subst hr
  refine wpAny_passesOwn hp (b7 h4 fun _ s5 ⟨x,H5,I5,r5,y5,st5,fr5⟩=>?_)
  have I5':=I5.pinned (stat fr5) (T.obj _ _ st5)
  refine wpAny_passesOwn hp (b7 (hg _ s5 σ3 H5 x u _ I5' r5 (step x H5 y5)) fun _ s6 ⟨σ6,H6,I6,q6⟩=>?_)
  refine wpAny_passesOwn hp (b7 (hb _ s6 σ6 H6 _ I6 q6) fun f s7 q7=>?_)
  have again:∀{σ7:St}{H7:Hp},Inv X (pins++jd fp s5.heap) σ7 H7 s7->N σ7 H7->∃ m,m<n/\∃ i σ' H',Inv X pins σ' H' s7/\tn i s7.heap/\(∀ b∈fp,H' b=none)/\W i m σ' H':=fun{σ7 H7} I7 n7=>by
   obtain⟨m',hm,w7⟩:=hN σ7 H7 n7
   refine⟨m',hm,i+1,σ7,H7,I7.unpinned,T.keep _ _ _ st5 fun b hb o e=>(I7.pin (b,o) (List.mem_append_right _ (List.mem_append_right _ (dQ hb e)))).1,fun b hb=>?_,w7⟩
   obtain⟨o,e,d⟩:=T.obj _ _ st5 b hb
   exact(I7.pin (b,o) (List.mem_append_right _ (List.mem_append_right _ (dQ hb e)))).2.1
  cases f with
  |next=>obtain⟨σ7,H7,I7,n7⟩:=q7;exact again I7 n7
  |cont=>obtain⟨σ7,H7,I7,n7⟩:=q7;exact again I7 n7
  |brk=>obtain⟨σ7,H7,I7,q7⟩:=q7;exact⟨σ7,H7,I7.unpinned,q7⟩
  |ret v=>obtain⟨x7,σ7,H7,I7,r7,q7⟩:=q7;exact⟨x7,σ7,H7,I7.unpinned,r7,q7⟩
end
end L2
namespace L2
open PySem PySem.Spec PyProof.Rows
noncomputable abbrev R2:=V->V->Hp->VK->Prop
noncomputable def OpR (X:Cx)(f:Value->Value->Sem Value)(r:R2):Prop:=
 ∀(pins:List (Addr×Obj))(s:Shared)(σ:St)(H:Hp)(x y:V)(v u:Value)(Q:VK),Inv X pins σ H s->RelV x v->RelV y u->r x y H Q->
  wpAny (model X.prog X.w) X.A (f v u) (EP X pins σ Q) X.xe s
noncomputable def CO (X:Cx)(f:Value->Sem Value)(r:V->Hp->VK->Prop):Prop:=
 ∀(pins:List (Addr×Obj))(s:Shared)(σ:St)(H:Hp)(x:V)(v:Value)(Q:VK),Inv X pins σ H s->RelV x v->r x H Q->
  wpAny (model X.prog X.w) X.A (f v) (EP X pins σ Q) X.xe s
noncomputable def CallR (X:Cx)(f:Value)(r:List V->Hp->VK->Prop):Prop:=
 ∀(pins:List (Addr×Obj))(s:Shared)(σ:St)(H:Hp)(xs:List V)(us:List Value)(Q:VK),Inv X pins σ H s->Vals xs us->r xs H Q->
  wpAny (model X.prog X.w) X.A (call f us) (EP X pins σ Q) X.xe s
noncomputable def CP (X:Cx)(r:V->Hp->(Bool->Hp->Prop)->Prop):Prop:=
 ∀(pins:List (Addr×Obj))(s:Shared)(σ:St)(H:Hp)(x:V)(v:Value)(Q:Bool->Hp->Prop),Inv X pins σ H s->RelV x v->r x H Q->
  wpAny (model X.prog X.w) X.A (truthy v) (TP X pins σ Q) X.xe s
noncomputable def Au (r:R2)(ta tb:TE):TE:=fun σ H Q=>ta σ H fun x H1=>tb σ H1 fun y H2=>r x y H2 Q
noncomputable def DR (r:V->Hp->VK->Prop)(ta:TE):TE:=fun σ H Q=>ta σ H fun x H1=>r x H1 Q
noncomputable def rI (C:Int->Int->Prop)(g:Int->Int->V):R2:=fun x y H Q=>∃ i j,x=.int i/\y=.int j/\C i j/\Q (g i j) H
noncomputable def wW (g:Int->Int->V):R2:=fun x y H Q=>∃ i j,x=.int i/\y=.int j/\Q (g i j) H
noncomputable def rU (g:Int->V):V->Hp->VK->Prop:=fun x H Q=>∃ i,x=.int i/\Q (g i) H
section
variable {X:Cx}{a b c:Expr}{ta tb tc:TE}{pos:Pos}
theorem x0 (ha:PE X a ta)(hb:PE X b tb){pins:List (Addr×Obj)}{s:Shared}{σ:St}{H:Hp}{R:V->V->Hp->Prop}(I:Inv X pins σ H s)
 (h:ta σ H fun x H1=>tb σ H1 fun y H2=>R x y H2) {Q:Value->Shared->Prop} {f:Value->Value->Sem Value}
 (hf:∀ v u s2 x y H2,Inv X pins σ H2 s2->RelV x v->RelV y u->R x y H2->wpAny (model X.prog X.w) X.A (f v u) Q X.xe s2) :
 wpAny (model X.prog X.w) X.A (eval a X.env) (fun v s₁=>wpAny (model X.prog X.w) X.A (eval b X.env) (fun u s₂=>wpAny (model X.prog X.w) X.A (f v u) Q X.xe s₂) X.xe s₁) X.xe s:=by
 refine b7 (ha pins s σ H _ I h) fun v s1 ⟨x,H1,I1,r1,q1⟩=>?_
 refine b7 (hb pins s1 σ H1 _ I1 q1) fun u s2 ⟨y,H2,I2,r2,q2⟩=>?_
 exact hf v u s2 x y H2 I2 r1 r2 q2
theorem AG {op:Operator}{r:R2}(ho:OpR X (binaryOp op) r)(ha:PE X a ta)(hb:PE X b tb):PE X (.BinOp a op b pos) (Au r ta tb):=by
 intro pins s σ H Q I h
 exact wpAny_BinOp (x0 ha hb I h fun v u s2 x y H2 I2 rx ry q=>ho pins s2 σ H2 x y v u Q I2 rx ry q)
theorem AH {op:UnaryOp}{r:V->Hp->VK->Prop}(ho:CO X (unaryOp op) r)(ha:PE X a ta):PE X (.UnaryOp op a pos) (DR r ta):=by
 intro pins s σ H Q I h
 exact UnaryOp_ (b7 (ha pins s σ H _ I h) fun v s1 ⟨x,H1,I1,r1,q1⟩=>ho pins s1 σ H1 x v Q I1 r1 q1)
theorem Cm {f:Value->Value->Sem Value}{C:Int->Int->Prop}{g:Int->Int->Int}
 (rule:∀(i j:Int)(t u:Tok)(s:Shared)(Q:Value->Shared->Prop)(E:Value->Shared->Prop),C i j->Q (.int (g i j) s.toks) { s with toks:=s.toks+1 }->wpAny (model X.prog X.w) X.A (f (.int i t) (.int j u)) Q E s) :
 OpR X f (rI C fun i j=>.int (g i j)):=by
 intro pins s σ H x y v u Q I rx ry h
 obtain⟨i,j,rfl,rfl,hc,q⟩:=h
 obtain⟨t,rfl⟩:=rx
 obtain⟨t',rfl⟩:=ry
 exact rule i j t t' s _ _ hc ⟨.int (g i j),H,I.tok _,⟨_,rfl⟩,q⟩
theorem AI {f:Value->Value->Sem Value}{g:Int->Int->Int}
 (rule:∀(i j:Int)(t u:Tok)(s:Shared)(Q:Value->Shared->Prop)(E:Value->Shared->Prop),Q (.int (g i j) s.toks) { s with toks:=s.toks+1 }->wpAny (model X.prog X.w) X.A (f (.int i t) (.int j u)) Q E s) :
 OpR X f (wW fun i j=>.int (g i j)):=by
 intro pins s σ H x y v u Q I rx ry h
 obtain⟨i,j,rfl,rfl,q⟩:=h
 obtain⟨t,rfl⟩:=rx
 obtain⟨t',rfl⟩:=ry
 exact rule i j t t' s _ _ ⟨.int (g i j),H,I.tok _,⟨_,rfl⟩,q⟩
theorem x5 {f:Value->Value->Sem Value}{g:Int->Int->Bool}
 (rule:∀(i j:Int)(t u:Tok)(s:Shared)(Q:Value->Shared->Prop)(E:Value->Shared->Prop),Q (.bool (g i j)) s->wpAny (model X.prog X.w) X.A (f (.int i t) (.int j u)) Q E s) :
 OpR X f (wW fun i j=>.bl (g i j)):=by
 intro pins s σ H x y v u Q I rx ry h
 obtain⟨i,j,rfl,rfl,q⟩:=h
 obtain⟨t,rfl⟩:=rx
 obtain⟨t',rfl⟩:=ry
 exact rule i j t t' s _ _ ⟨.bl (g i j),H,I,rfl,q⟩
noncomputable def CQ (i j:Int):Prop:=0<j/\j<1073741824
noncomputable def CS (i j:Int):Prop:=0<=j/\j<=1000000/\i.natAbs<2 ^ 64
noncomputable def CMul (i j:Int):Prop:=(-(2 ^ 64)<i/\i<2 ^ 64)\/(-(2 ^ 64)<j/\j<2 ^ 64)
theorem CMul.ok {i j:Int}(h:CMul i j):IntMulOk i j:=by
 rcases h with⟨h1,h2⟩|⟨h1,h2⟩
 ·exact .of_left (intBits_le_64 h1 h2)
 ·exact .of_right (intBits_le_64 h1 h2)
theorem op_add:OpR X (binaryOp .Add) (wW fun i j=>.int (i+j)):=AI fun _ _ _ _ _ _ _ q=>add_int q
theorem x6:OpR X (binaryOp .Sub) (wW fun i j=>.int (i-j)):=AI fun _ _ _ _ _ _ _ q=>sub_int q
theorem x8:OpR X (binaryOp .Mult) (rI CMul fun i j=>.int (i*j)):=Cm fun _ _ _ _ _ _ _ hc q=>mul_int q hc.ok
theorem u0:OpR X (binaryOp .FloorDiv) (rI CQ fun i j=>.int (i / j)):=Cm fun i j _ _ _ _ _ hc q=>by
 have h1:(0:Int)<j:=hc.1
 have h2:j<1073741824:=hc.2
 exact floordiv_int (by omega) (by rw[Int.fdiv_eq_ediv_of_nonneg i (by omega)];exact q) (.inl (PyProof.noPylong_small (by omega)))
theorem x9:OpR X (binaryOp .Mod) (rI (fun _ j=>0<j) fun i j=>.int (i % j)):=Cm fun i j _ _ _ _ _ hc q=>by
 have h1:(0:Int)<j:=hc
 exact mod_int' (by omega) (by rw[Int.fmod_eq_emod_of_nonneg i (by omega)];exact q)
theorem x_:OpR X (binaryOp .Pow) (rI CS fun i j=>.int (i ^ j.toNat)):=Cm fun _ _ _ _ _ _ _ hc q=>pow_int_small hc.1 hc.2.1 hc.2.2 q
theorem DS {f:Value->Sem Value}{g:Int->Int}
 (rule:∀(i:Int)(t:Tok)(s:Shared)(Q:Value->Shared->Prop)(E:Value->Shared->Prop),Q (.int (g i) s.toks) { s with toks:=s.toks+1 }->wpAny (model X.prog X.w) X.A (f (.int i t)) Q E s) :
 CO X f (rU fun i=>.int (g i)):=by
 intro pins s σ H x v Q I rx h
 obtain⟨i,rfl,q⟩:=h
 obtain⟨t,rfl⟩:=rx
 exact rule i t s _ _ ⟨.int (g i),H,I.tok _,⟨_,rfl⟩,q⟩
theorem ya:CO X (unaryOp .USub) (rU fun i=>.int (-i)):=DS fun _ _ _ _ _ q=>neg_int q
end
section
variable {X:Cx}{a b c:Expr}{ta tb tc:TE}{pos:Pos}
theorem yb {pins:List (Addr×Obj)}{σ:St}{H:Hp}{s:Shared}{Q:VK}{k k':Bool}(I:Inv X pins σ H s)(q:Q (.bl k) H)(e:k=k'):EP X pins σ Q (.bool k') s:=by
 subst e
 exact⟨.bl k,H,I,rfl,q⟩
theorem AJ:OpR X (compareOp .Lt) (wW fun i j=>.bl (decide (i<j))):=x5 fun _ _ _ _ _ _ _ q=>lt_int q
theorem AK:OpR X (compareOp .LtE) (wW fun i j=>.bl (decide (i<=j))):=x5 fun _ _ _ _ _ _ _ q=>le_int q
theorem AL:OpR X (compareOp .GtE) (wW fun i j=>.bl (decide (j<=i))):=x5 fun _ _ _ _ _ _ _ q=>ge_int q
theorem OpR.or {f:Value->Value->Sem Value}{r r':R2}(h:OpR X f r)(h':OpR X f r'):OpR X f (fun x y H Q=>r x y H Q\/r' x y H Q):=by
 intro pins s σ H x y v u Q I rx ry q
 rcases q with q|q
 ·exact h pins s σ H x y v u Q I rx ry q
 ·exact h' pins s σ H x y v u Q I rx ry q
theorem aI (b:Expr){op:CmpOp}(h:autoParam (op≠.In) autoD._auto_1)(h2:autoParam (op≠.NotIn) autoD._auto_1):behindInMarks op b=false:=by
 have e1:(op==CmpOp.In)=false:=by cases op<;>first|rfl|exact absurd rfl h
 have e2:(op==CmpOp.NotIn)=false:=by cases op<;>first|rfl|exact absurd rfl h2
 cases b<;>simp[behindInMarks,e1,e2]
theorem oE {op:CmpOp}{r:R2}(ho:OpR X (compareOp op) r)(ha:PE X a ta)(hb:PE X b tb)(hm:behindInMarks op b=false):PE X (.Compare a [op] [b] pos) (Au r ta tb):=by
 intro pins s σ H Q I h
 exact wpAny_Compare1 (x0 ha hb I h fun v u s2 x y H2 I2 rx ry q=>ho pins s2 σ H2 x y v u Q I2 rx ry q) hm
noncomputable def wX (t:TE):TT:=fun σ H Q=>t σ H fun x H'=>∃ k,x=.bl k/\Q k H'
theorem u3 {op:CmpOp}{r:R2}(ho:OpR X (compareOp op) r)(ha:PE X a ta)(hb:PE X b tb)(hm:behindInMarks op b=false):PT X (.Compare a [op] [b] pos) (wX (Au r ta tb)):=by
 intro pins s σ H Q I h
 refine wpAny_isTrue_Compare1 (b7 (ha pins s σ H _ I h) fun v s1 ⟨x,H1,I1,r1,q1⟩=>b7 (hb pins s1 σ H1 _ I1 q1) fun u s2 ⟨y,H2,I2,r2,q2⟩=>
  b7 (ho pins s2 σ H2 x y v u _ I2 r1 r2 q2) fun c s3 ⟨z,H3,I3,r3,k,e,q3⟩=>?_) hm
 subst e
 cases r3
 exact wpAny_truthy_bool ⟨H3,I3,q3⟩
noncomputable def nM (r r':R2)(ta tb tc:TE):TE:=fun σ H Q=>ta σ H fun x H1=>tb σ H1 fun y H2=>r x y H2 fun z H3=>∃ k,z=.bl k/\
 (if k=true then tc σ H3 fun w' H4=>r' y w' H4 Q else Q (.bl false) H3)
theorem rE {op op':CmpOp}{r r':R2}(ho:OpR X (compareOp op) r)(ho':OpR X (compareOp op') r')(ha:PE X a ta)(hb:PE X b tb)(hc:PE X c tc)
 (hm:lastMarks [op,op'] [b,c]=false:=by with_unfolding_all rfl):PE X (.Compare a [op,op'] [b,c] pos) (nM r r' ta tb tc):=by
 intro pins s σ H Q I h
 refine Compare_chain (b7 (ha pins s σ H _ I h) fun v s1 ⟨x,H1,I1,r1,q1⟩=>chain_link (b7 (hb pins s1 σ H1 _ I1 q1) fun u s2 ⟨y,H2,I2,r2,q2⟩=>
  b7 (ho pins s2 σ H2 x y v u _ I2 r1 r2 q2) fun d s3 ⟨z,H3,I3,r3,k,e,q3⟩=>?_)) hm
 subst e
 cases r3
 refine wpAny_truthy_bool ?_
 cases k with
 |false=>exact ite_ff ⟨.bl false,H3,I3,rfl,q3⟩
 |true=>exact ite_tt (chain_last (b7 (hc pins s3 σ H3 _ I3 q3) fun w' s4 ⟨z',H4,I4,r4,q4⟩=>ho' pins s4 σ H4 y z' u w' Q I4 r2 r4 q4))
theorem rF {op op':CmpOp}{r r':R2}(ho:OpR X (compareOp op) r)(ho':OpR X (compareOp op') r')(ha:PE X a ta)(hb:PE X b tb)(hc:PE X c tc)
 (hm:lastMarks [op,op'] [b,c]=false:=by with_unfolding_all rfl):PT X (.Compare a [op,op'] [b,c] pos) (wX (nM r r' ta tb tc)):=by
 intro pins s σ H Q I h
 refine isTrue_chain (b7 (ha pins s σ H _ I h) fun v s1 ⟨x,H1,I1,r1,q1⟩=>test_link (b7 (hb pins s1 σ H1 _ I1 q1) fun u s2 ⟨y,H2,I2,r2,q2⟩=>
  b7 (ho pins s2 σ H2 x y v u _ I2 r1 r2 q2) fun d s3 ⟨z,H3,I3,r3,k,e,q3⟩=>?_)) hm
 subst e
 cases r3
 refine wpAny_truthy_bool ?_
 cases k with
 |false=>
  obtain⟨k',e',q'⟩:=q3
  cases e'
  exact ite_ff ⟨H3,I3,q'⟩
 |true=>
  refine ite_tt (test_last (b7 (hc pins s3 σ H3 _ I3 q3) fun w' s4 ⟨z',H4,I4,r4,q4⟩=>b7 (ho' pins s4 σ H4 y z' u w' _ I4 r2 r4 q4) fun d' s5 ⟨z2,H5,I5,r5,k2,e2,q5⟩=>?_))
  subst e2
  cases r5
  exact wpAny_truthy_bool ⟨H5,I5,q5⟩
noncomputable def yc (K:PySem.W.Frag)(x:V)(H:Hp)(k:Bool):Prop:=
 match x with
 | .non=>k=false
 | .bl b=>k=b
 | .int i=>k=(i != 0)
 | .str y=>y.length<=sizeLine/\k=((y.length:Int) != 0)
 | .byt y=>y.size<=sizeLine/\k=((y.size:Int) != 0)
 | .ref p=>(∃ xs,SqL K H p xs/\k=!xs.isEmpty)\/(∃ xs,SqT K H p xs/\k=!xs.isEmpty)\/∃ kvs,H p=some (.dK kvs)/\k=!kvs.isEmpty
 |_=>False
theorem nN {κ:Type}{kvs:List (κ×V)}{vs:List (κ×Value)}(r:KV kvs vs):(!vs.isEmpty)=!kvs.isEmpty:=by
 cases r<;>rfl
theorem je {xs:List V}{its:List Value}(r:Vals xs its):(!its.toArray.isEmpty)=!xs.isEmpty:=by
 cases r<;>simp
theorem ie:(sizeLine:Nat)<2 ^ 63:=by rw[sizeLine_eq];decide
theorem yd:CP X (fun x H Q=>∃ k,yc X.K x H k/\Q k H):=by
 intro pins s σ H x v Q I rx h
 obtain⟨k,e,q⟩:=h
 have hl:=ie
 have hs:sizeLine=16777216:=sizeLine_eq
 cases x with
 |non=>
  cases rx
  have e':k=false:=e
  subst e'
  exact truthy_none ⟨H,I,q⟩
 |bl b=>
  cases rx
  have e':k=b:=e
  subst e'
  exact wpAny_truthy_bool ⟨H,I,q⟩
 |int i=>
  obtain⟨t,rfl⟩:=rx
  have e':k=(i != 0):=e
  subst e'
  exact PySem.P.truthy_int ⟨H,I,q⟩
 |str y=>
  obtain⟨t,rfl⟩:=rx
  obtain⟨hy,e'⟩ : y.length<=sizeLine/\k=((y.length:Int) != 0):=e
  subst e'
  exact PySem.P.truthy_str (by omega) ⟨H,I.tok _,q⟩
 |byt y=>
  obtain⟨t,rfl⟩:=rx
  obtain⟨hy,e'⟩ : y.size<=sizeLine/\k=((y.size:Int) != 0):=e
  subst e'
  exact PySem.W.truthy_bytes (by omega) ⟨H,I.tok _,q⟩
 |ref p=>
  cases rx
  have e':(∃ xs,SqL X.K H p xs/\k=!xs.isEmpty)\/(∃ xs,SqT X.K H p xs/\k=!xs.isEmpty)\/∃ kvs,H p=some (.dK kvs)/\k=!kvs.isEmpty:=e
  rcases e' with⟨xs,hx,e'⟩|⟨xs,hx,e'⟩|⟨kvs,hx,e'⟩
  ·subst e'
   obtain⟨its,r,pl,hz⟩:=I.list hx
   have bA:=r.length
   exact wpAny_truthy_list pl.isList (by simp only[List.size_toArray];omega) ⟨H,I.tok _,by rw[je r];exact q⟩
  ·subst e'
   obtain⟨its,r,pl,hz⟩:=I.tuple hx
   have bA:=r.length
   exact truthy_tuple pl (by simp only[List.size_toArray];omega) ⟨H,I.tok _,by rw[je r];exact q⟩
  ·subst e'
   obtain⟨hz,hS,vs,r,m⟩ : kvs.length<=sizeLine/\(p==sysModules)=false/\∃ vs,KV kvs vs/\s.heap.DictOf (aV X.prog X.w) p vs:=I.hok p _ hx
   have bA:kvs.length=vs.length:=Paired.length r
   exact wpAny_truthy_dict hS m (by omega) ⟨H,I.tok _,by rw[nN r];exact q⟩
 |_=>exact(show False from e).elim
theorem rG (ha:PE X a ta)(he:∀ whole,isTrue a X.env whole=(do let v <- whole;standAt a.pos;holding [v] (truthy v))) :
 PT X a (fun σ H Q=>ta σ H fun x H'=>∃ k,yc X.K x H' k/\Q k H'):=by
 intro pins s σ H Q I h
 exact isTrue_plain (b7 (ha pins s σ H _ I h) fun v s1 ⟨x,H1,I1,r1,q1⟩=>yd pins s1 σ H1 x v Q I1 r1 q1) (he _)
theorem nO:OpR X (binaryOp .Add) (fun x y H Q=>∃ i j,x=.str i/\y=.str j/\i.length+j.length<=sizeLine/\Q (.str (i++j)) H):=by
 intro pins s σ H x y v u Q I rx ry h
 obtain⟨i,j,rfl,rfl,hz,q⟩:=h
 obtain⟨t,rfl⟩:=rx
 obtain⟨t',rfl⟩:=ry
 exact add_str (fun t' tk=>⟨.str (i++j),H,I.tok _,⟨_,rfl⟩,q⟩) hz
theorem gw {x:V}{us:List Value}(r:Vals [x] us):∃ u,us=[u]/\RelV x u:=by
 cases r with
 |cons r1 r2=>cases r2;exact⟨_,rfl,r1⟩
theorem wY {x y:V}{us:List Value}(r:Vals [x,y] us):∃ u w',us=[u,w']/\RelV x u/\RelV y w':=by
 cases r with
 |cons r1 r2=>
  cases r2 with
  |cons r3 r4=>cases r4;exact⟨_,_,rfl,r1,r3⟩
end
end L2
namespace L2
open PySem PySem.Spec PyProof.Rows
structure ObjM (h:Heap) (x dx C:Addr) (mA:Str->Option Value):Prop where
 obj:h.get? x=some (PySem.W.instObj C dx)
 ns:h.Ns1 dx mA
 ne:dx≠x
theorem pN {h:Heap}{dx:Addr}{mA:Str->Option Value}(n:h.Ns1 dx mA):∃ od,h.get? dx=some od/\∀ name,PySem.W.lookIn name od=some (mA name):=by
 obtain⟨o,es,ep,ho,hd,hk,_,hm⟩:=n
 refine⟨o,ho,fun name=>?_⟩
 have e:=hm name
 unfold nsFind findBy at e
 rw[<- Array.find?_toList]at e
 unfold PySem.W.lookIn
 rw[hd]
 dsimp only
 split
 ·rename_i y q
  rw[q]at e
  exact congrArg some e
 ·rename_i q
  rw[q]at e
  have a:es.toList.any (·.refKey)=false:=by
   rw[List.any_eq_false]
   intro y hy
   obtain⟨z,t,DA⟩:=hk y (Array.mem_toList_iff.mp hy)
   simp[DictEntry.refKey,DA]
  have a':¬ es.toList.any (·.refKey)=true:=by rw[a];exact Bool.false_ne_true
  rw[if_neg a']
  exact congrArg some e
theorem ObjM.look {h:Heap}{x dx C:Addr}{mA:Str->Option Value}(I:ObjM h x dx C mA):∃ od,PySem.W.InstAt h x (PySem.W.instObj C dx) C (some od)/\∀ name,PySem.W.lookIn name od=some (mA name):=
 let ⟨od,ho,hl⟩:=pN I.ns
 ⟨od,⟨I.obj,rfl,rfl,ho⟩,hl⟩
section
variable {prog:Program}{w:World}{A:Around}{E:Value->Shared->Prop}{s:Shared}{K:PySem.W.Frag}{x dx C f:Addr}{mA:Str->Option Value}{name:Str}{v:Value}
end
section
variable {P:Program}{w:World}{H H':Hp}{h h':Heap}{a C dx:Addr}{fs fs':List (Str×V)}
theorem u4 (hok:HOk P w H h)(e:H a=some (.ins C dx fs)):∃ mA,ObjM h a dx C mA/\(∀ f,RelO (fs.lookup f) (mA f))/\PySem.Within mA (fs.map (·.1))/\fs.length<=1000/\H dx=some (.own a):=by
 obtain⟨d,z,ne,ob,mA,n,r,q⟩:=(show ObjOk P w H h a (.ins C dx fs) from hok a _ e)
 exact⟨mA,⟨ob,n,ne⟩,r,q,z,d⟩
end
structure Cls (K:PySem.W.Frag) (C:Addr):Prop where
 pg:PySem.W.plainGet K C Str.empty=true
 hd:PySem.W.hasDictIn K C=true
 po:PySem.W.plainOver K C=true
 sa:PySem.W.findIn K (.ref C) "__setattr__"=some (some (.builtin "object.__setattr__"))
theorem Cls.get {K:PySem.W.Frag}{C:Addr}(c:Cls K C)(f:Str):PySem.W.plainGet K C f=true:=c.pg
section
variable {X:Cx}{pins:List (Addr×Obj)}{σ:St}{H:Hp}{s:Shared}{a C dx:Addr}{fs:List (Str×V)}{f:Str}{v:V}{A:Around}{E:Value->Shared->Prop}
end
section
variable {X:Cx}{o e value:Expr}{f:Str}{pos pos' mr:Pos}{ta tv:TE}
end
section
variable {X:Cx}{pins:List (Addr×Obj)}{σ:St}{H:Hp}{s:Shared}{A:Around}{E:Value->Shared->Prop}{Q:Value->Shared->Prop}{c:Value}{b:Bool}
inductive TyOf (K:PySem.W.Frag) (H:Hp):V->Value->Prop where
 |non:TyOf K H .non (.type "NoneType")
 |bl (x:Bool):TyOf K H (.bl x) (.type "bool")
 |int (i:Int):TyOf K H (.int i) (.type "int")
 |str (x:Str):TyOf K H (.str x) (.type "str")
 |flt (x:UInt64):TyOf K H (.flt x) (.type "float")
 |lst {a:Addr} {xs:List V} (e:H a=some (.lst xs)):TyOf K H (.ref a) (.type "list")
 |frz {a:Addr} {o:Obj} {xs:List V} (e:H a=some (.frz o (.lst xs))):TyOf K H (.ref a) (.type "list")
 |tup {a:Addr} {xs:List V} (e:H a=some (.tup xs)):TyOf K H (.ref a) (.type "tuple")
 |dK {a:Addr} {kvs:List (Key×V)} (e:H a=some (.dK kvs)):TyOf K H (.ref a) (.type "dict")
 |dT {a:Addr} {kvs:List (List Key×V)} (e:H a=some (.dT kvs)):TyOf K H (.ref a) (.type "dict")
 |ins {a C dx:Addr} {fs:List (Str×V)} (e:H a=some (.ins C dx fs)) (cl:Cls K C) (ha:PySem.W.findIn K (.ref C) "__class__"=some (some (.builtin "object.__class__")))
  (hn:PySem.W.specialIn K (.builtin "object.__class__") "__get__"=some (some (.builtin "getset_descriptor.__get__"))) (htk:PySem.W.takesIn K (.builtin "object.__class__")=some true)
  (hm:PySem.W.mroIn K C (.type "object")=some true):TyOf K H (.ref a) (.ref C)
theorem pO {x:V}{u t:Value}(I:Inv X pins σ H s)(rx:RelV x u)(ty:TyOf X.K H x t)(e:PySem.W.kitOne X.K t c=some b)(h:∀ tk,Q (.bool b) { s with toks:=tk }) :
 wpAny (model X.prog X.w) A (call (.builtin "isinstance") [u,c]) Q E s:=by
 cases ty with
 |non=>cases (show u=Value.none from rx);exact PySem.W.kia_one PySem.W.kitx_none I.kIn True.intro e (fun z=>nomatch z) h
 |bl y=>cases (show u=Value.bool y from rx);exact PySem.W.kia_one PySem.W.kitx_bool I.kIn True.intro e (fun z=>nomatch z) h
 |int i=>obtain⟨t,q⟩:=(show ∃ t,u=Value.int i t from rx);cases q;exact PySem.W.kia_one PySem.W.kitx_int I.kIn True.intro e (fun z=>nomatch z) h
 |str y=>obtain⟨t,q⟩:=(show ∃ t,u=Value.str y t from rx);cases q;exact PySem.W.kia_one PySem.W.kitx_str I.kIn True.intro e (fun z=>nomatch z) h
 |flt y=>obtain⟨t,q⟩:=(show ∃ t,u=Value.float y t from rx);cases q;exact PySem.W.kia_one PySem.W.kitx_float I.kIn True.intro e (fun z=>nomatch z) h
 | @lst a xs ea=>
  cases (show u=Value.ref a from rx)
  obtain⟨_,_,n,_,h1⟩:=(show ObjOk X.prog X.w H s.heap a (.lst xs) from I.hok a _ ea)
  exact PySem.W.kia_one PySem.W.kitx_list I.kIn ⟨_,h1,rfl⟩ e (fun z=>nomatch z) h
 | @frz a ob xs ea=>
  cases (show u=Value.ref a from rx)
  obtain⟨_,_,_,n,_,h1⟩:=(show ObjOk X.prog X.w H s.heap a (.frz ob (.lst xs)) from I.hok a _ ea)
  exact PySem.W.kia_one PySem.W.kitx_list I.kIn ⟨_,h1,rfl⟩ e (fun z=>nomatch z) h
 | @tup a xs ea=>
  cases (show u=Value.ref a from rx)
  obtain⟨_,_,_,p⟩:=(show ObjOk X.prog X.w H s.heap a (.tup xs) from I.hok a _ ea)
  obtain⟨o,h1,h2,_⟩:=p
  exact PySem.W.kia_one PySem.W.kitx_tuple I.kIn ⟨o,h1,h2⟩ e (fun z=>nomatch z) h
 | @dK a kvs ea=>
  cases (show u=Value.ref a from rx)
  obtain⟨_,_,vs,_,p⟩:=(show ObjOk X.prog X.w H s.heap a (.dK kvs) from I.hok a _ ea)
  obtain⟨o,es,ep,h1,h2,_⟩:=p
  exact PySem.W.kia_one PySem.W.kitx_dict I.kIn ⟨o,h1,h2.1⟩ e (fun z=>nomatch z) h
 | @dT a kvs ea=>
  cases (show u=Value.ref a from rx)
  obtain⟨_,_,xs,_,o,es,ep,h1,h2,_⟩:=(show ObjOk X.prog X.w H s.heap a (.dT kvs) from I.hok a _ ea)
  exact PySem.W.kia_one PySem.W.kitx_dict I.kIn ⟨o,h1,h2.1⟩ e (fun z=>nomatch z) h
 | @ins a C dx fs ea cl ha hn htk hm=>
  cases (show u=Value.ref a from rx)
  obtain⟨mA,O,_⟩:=u4 I.hok ea
  obtain⟨od,J,_⟩:=O.look
  exact PySem.W.kia_one (PySem.W.kitx_own (cl.get _) cl.hd ha hn htk hm) I.kIn J e (fun z=>nomatch z) h
end
end L2
namespace L2
open PySem PySem.Spec PyProof.Rows
structure Room (k:Nat) (A:Around):Prop where
 hd:A.handled=none
 dp:A.depth+3*k+5<recursionLimit
 un:A.units+16*k+200<cLine
theorem Room.mono {j k:Nat}{A:Around}(r:Room k A)(h:j<=k):Room j A:=⟨r.hd,by have:=r.dp;omega,by have:=r.un;omega⟩
theorem Room.deeper {k:Nat}{A:Around}(r:Room (k+1) A)(env:Env):Room k (A.deeper env):=
 ⟨r.hd,by have:=r.dp;show A.depth+1+3*k+5<_;omega,by have:=r.un;show A.units+3+16*k+200<_;omega⟩
theorem Room.in1 {k:Nat}{A:Around}(r:Room (k+1) A):Room k A.in1:=
 ⟨r.hd,by have:=r.dp;show A.depth+3*k+5<_;omega,by have:=r.un;show A.units+1+16*k+200<_;omega⟩
theorem Room.depth {k:Nat}{A:Around}(r:Room k A):A.depth<recursionLimit:=by have:=r.dp;omega
theorem Room.units {k:Nat}{A:Around}(r:Room k A):A.units+64<cLine:=by have:=r.un;omega
noncomputable def AM:TA:=fun _ H Q=>Q [] H
noncomputable def AN (ta:TE)(tr:TA):TA:=fun σ H Q=>ta σ H fun x H1=>tr σ H1 fun xs H2=>Q (x::xs) H2
section
variable {X:Cx}{e:Expr}{es:List Expr}{te:TE}{t:TA}{pos:Pos}
theorem dR:PA X [] AM:=fun _ _ _ _ H Q I h=>Calls.spliced_nil ⟨[],H,I,.nil,h⟩
theorem cP (ha:PE X e te)(hr:PA X es t)(hs:autoParam (starEach (e::es) X.env=(false,eval e X.env)::starEach es X.env) autoR._auto_1):PA X (e::es) (AN te t):=by
 intro pos pins s σ H Q I h
 rw[hs]
 show wpAny _ _ (spliced ((false,eval e X.env)::backTo pos (starEach es X.env))) _ _ s
 refine Calls.spliced_cons (b7 (ha pins s σ H _ I h) fun u s1 ⟨x,H1,I1,r1,q1⟩=>?_)
 exact b7 (hr pos pins s1 σ H1 _ I1 q1) fun us s2 ⟨xs,H2,I2,r2,q2⟩=>⟨x::xs,H2,I2,.cons r1 r2,q2⟩
noncomputable def CT (t:TA):TE:=fun σ H Q=>t σ H fun xs H1=>xs.length<=sizeLine/\∀ p,H1 p=none->Q (.ref p) (bf H1 p (.tup xs))
noncomputable def AO (t:TA):TE:=fun σ H Q=>t σ H fun xs H1=>xs.length<=sizeLine/\∀ p,H1 p=none->Q (.ref p) (bf H1 p (.lst xs))
theorem ye {x1}(h:PA X es t):PE X (.Tuple es x1 pos) (CT t):=by
 intro pins s σ H Q I hq
 refine wpAny_Tuple_spliced (b7 (h pos pins s σ H _ I hq) fun us s1 ⟨xs,H1,I1,r,z,q⟩=>⟨by rw[<- r.length];exact z,?_⟩)
 have hf:H1 s1.heap.objs.size=none:=I1.hok.fresh (Nat.le_refl _)
 refine⟨.ref s1.heap.objs.size,bf H1 s1.heap.objs.size (.tup xs),I1.laid (t':=s1.toks) (fun b u e=>Heap.get?_push_of_some _ e) (Nat.le_refl _) ?_,rfl,q _ hf⟩
 exact⟨z,us,r,⟨_,Heap.get?_push_size _ rfl,rfl,_,rfl⟩⟩
theorem rH (h:PA X es t):PE X (.List es pos) (AO t):=by
 intro pins s σ H Q I hq
 refine wpAny_List_spliced (b7 (h pos pins s σ H _ I hq) fun us s1 ⟨xs,H1,I1,r,z,q⟩=>⟨by rw[<- r.length];exact z,?_⟩)
 have hf:H1 s1.heap.objs.size=none:=I1.hok.fresh (Nat.le_refl _)
 refine⟨.ref s1.heap.objs.size,bf H1 s1.heap.objs.size (.lst xs),I1.laid (t':=s1.toks) (fun b u e=>Heap.get?_push_of_some _ e) (Nat.le_refl _) ?_,rfl,q _ hf⟩
 exact⟨z,us,0,r,Heap.get?_push_size _ rfl⟩
end
noncomputable abbrev Sp:=List V->Hp->VK->XK->Prop
noncomputable abbrev CXT:=List Env->Hp->Shared->XK->Value->Shared->Prop
structure Env0 (P:Program) (w:World) (K:PySem.W.Frag) (mg:Str->Option Value) (base:Heap) (A:Around) (outer:List Env) (s:Shared) (H:Hp):Prop where
 frames:A.frames=some outer
 mod:Mod K mg base
 bs:∀ b o,base.get? b=some o->s.heap.get? b=some o/\H b=none
 bsz:base.objs.size<=s.heap.objs.size
 funs:s.heap.FunFrames base outer
 frf:∀ b∈frs outer,H b=none
 hok:HOk P w H s.heap
 bare:AllBare s.gens
 kt:WrT K H
noncomputable def CE (outer:List Env)(P:Program)(w:World)(H:Hp)(s:Shared)(Q:VK)(u:Value)(s':Shared):Prop:=
 ∃ v H',s'.os=s.os/\AllBare s'.gens/\Un (frs outer) [] H H' s.heap s'.heap/\HOk P w H' s'.heap/\RelV v u/\Q v H'
noncomputable def CR (CX:CXT)(outer:List Env)(P:Program)(w:World)(H:Hp)(s:Shared)(Q:VK)(E:XK)(r:Result)(s':Shared):Prop:=
 match r with
 | .ok (.ret u)=>CE outer P w H s Q u s'
 | .ok _=>False
 | .error e=>CX outer H s E e s'
structure FnOk (P:Program) (w:World) (K:PySem.W.Frag) (mg:Str->Option Value) (base:Heap) (CX:CXT) (k:Nat) (f:Addr) (fd:FuncData) (ps:List Str) (sp:Sp):Prop where
 len:∀ vs H Q E,sp vs H Q E->vs.length=ps.length
 run:∀(A:Around)(outer:List Env)(s:Shared)(H:Hp)(args:Args)(us:List Value)(vs:List V)(Q:VK)(E:XK),Room k A->Env0 P w K mg base A outer s H->BindsTo s fd args (ps.zip us)->Vals vs us->sp vs H Q E->
  codeAny (model P w) A (.call (.ref f) args) (CR CX outer P w H s Q E) s
theorem FnOk.imp {P:Program}{w:World}{K:PySem.W.Frag}{mg:Str->Option Value}{base:Heap}{CX:CXT}{k:Nat}{f:Addr}{fd:FuncData}{ps:List Str}{sp sp':Sp}(F:FnOk P w K mg base CX k f fd ps sp)
 (h:∀ vs H Q E,sp' vs H Q E->sp vs H Q E):FnOk P w K mg base CX k f fd ps sp':=
 ⟨fun vs H Q E q=>F.len vs H Q E (h _ _ _ _ q),fun A outer s H args us vs Q E hr he hb hv hs=>F.run A outer s H args us vs Q E hr he hb hv (h _ _ _ _ hs)⟩
theorem Env0.in1 {P:Program}{w:World}{K:PySem.W.Frag}{mg:Str->Option Value}{base:Heap}{A:Around}{outer:List Env}{s:Shared}{H:Hp}(e:Env0 P w K mg base A outer s H) :
 Env0 P w K mg base A.in1 outer s H:=⟨e.frames,e.mod,e.bs,e.bsz,e.funs,e.frf,e.hok,e.bare,e.kt⟩
section
variable {X:Cx}{pins:List (Addr×Obj)}{σ:St}{H:Hp}{s s':Shared}
theorem Inv.env0 (I:Inv X pins σ H s):Env0 X.prog X.w X.K X.mg X.base X.A X.stack s H:=
 ⟨I.ok.frames,I.ok.mod,I.bs,Nat.le_trans I.ok.bsz I.sz,I.stack,I.stkFree,I.hok,I.bare,I.kt⟩
theorem Inv.after {Q:VK}{u:Value}(I:Inv X pins σ H s)(h:CE X.stack X.prog X.w H s Q u s'):EP X pins σ Q u s':=by
 obtain⟨v,H',os,bare,un,hok,r,q⟩:=h
 obtain⟨hh,g,d,t,os'⟩:=s'
 obtain rfl:os'=s.os:=os
 exact⟨v,H',I.call (h':=hh) (g':=g) (d':=d) (t':=t) (ch:=[]) un hok bare (fun b z=>absurd z (by simp)),r,q⟩
end
noncomputable def wZ (sp:Sp)(dvs:List V)(E:XK)(t:TA):TE:=fun σ H Q=>t σ H fun vs H1=>sp (vs++dvs) H1 Q E
noncomputable def Binds (K:PySem.W.Frag)(fd:FuncData)(ps:List Str)(ds:List Value):Prop:=
 ∀(s:Shared)(us:List Value),K.In s.heap->(us++ds).length=ps.length->BindsTo s fd ⟨us,[]⟩ (ps.zip (us++ds))
theorem Binds.all {K:PySem.W.Frag}{fd:FuncData}{ps:List Str}(h:∀ us:List Value,us.length=ps.length->bindArgs fd ⟨us,[]⟩=pure (ps.zip us)):Binds K fd ps []:=fun s us _ hl=>by
 rw[List.append_nil]at hl ⊢
 exact .of_eq (h us hl)
noncomputable def jf (CX:CXT)(X:Cx)(E:XK):Prop:=∀(pins:List (Addr×Obj))(σ:St)(H:Hp)(s:Shared)(e:Value)(s':Shared),Inv X pins σ H s->CX X.stack H s E e s'->X.xe e s'
section
variable {X:Cx}{CX:CXT}{k:Nat}{f C:Addr}{fd:FuncData}{ps:List Str}{sp:Sp}{dvs:List V}{ds:List Value}{E:XK}{x m:Str}{p pos apos:Pos}{e o:Expr}{es:List Expr}{ta:TE}{t:TA}
theorem yf {pins:List (Addr×Obj)}{σ:St}{H:Hp}{s:Shared}{Q:VK}{us:List Value}{vs:List V}(F:FnOk X.prog X.w X.K X.mg X.base CX k f fd ps sp)(hr:Room k X.A)(hb:Binds X.K fd ps ds)(hd:Vals dvs ds)(hx:jf CX X E)
 (I:Inv X pins σ H s) (r:Vals vs us) (h:sp (vs++dvs) H Q E):wpAny (model X.prog X.w) X.A (call (.ref f) us) (EP X pins σ Q) X.xe s:=by
 have r2:Vals (vs++dvs) (us++ds):=r.append hd
 have hl:(us++ds).length=ps.length:=by rw[<- r2.length];exact F.len _ _ _ _ h
 refine wpAny_call (codeAny_mono (F.run X.A X.stack s H ⟨us,[]⟩ (us++ds) (vs++dvs) Q E hr I.env0 (hb s us I.kIn hl) r2 h) fun r s' hq=>?_)
 cases r with
 |error e=>exact hx pins σ H s e s' I hq
 |ok fl=>
  cases fl with
  |ret u=>exact I.after hq
  |next=>exact False.elim hq
  |brk=>exact False.elim hq
  |cont=>exact False.elim hq
theorem u5 (F:FnOk X.prog X.w X.K X.mg X.base CX k f fd ps sp)(hr:Room k X.A)(hg:Gl X x)(hm:X.mg x=some (.ref f))(hk:PySem.W.keepIn X.K (.ref f)=true)(hb:Binds X.K fd ps ds)(hd:Vals dvs ds)(hx:jf CX X E)
 (ha:PA X (e::es) t) (hdb:autoParam ((x==("__debug__" : Str))=false) autoD._auto_1) (he:autoParam (starEach (e::es) X.env=(false,eval e X.env)::starEach es X.env) autoR._auto_1) (hpl:autoParam ((backTo pos (starEach es X.env)).any (·.1)=false) autoR._auto_1) :
 PE X (.Call (.Name x p) (e::es) [] pos) (wZ sp dvs E t):=by
 intro pins s σ H Q I h
 refine wpAny_Call_Name_kw (lq I hg hm ?_ hdb)
 refine PySem.W.callWith_K (h₀:=X.base) I.ok.mod.kin hk (b7 (ha pos pins s σ H _ I h) fun us s1 ⟨vs,H1,I1,r,q⟩=>⟨I1.kIn,?_⟩) he hpl
 exact yf F hr hb hd hx I1 r q
end
section
variable {X:Cx}{CX:CXT}{k:Nat}{f C:Addr}{fd:FuncData}{ps ks:List Str}{sp:Sp}{E:XK}{x m:Str}{p pos apos kpos:Pos}{e o:Expr}{es:List Expr}{kws:List Keyword}{te ta:TE}{t tk:TA}{nm:Option Str}
variable {g:List Value->List Value->List Value}{gV:List V->List V->List V}
end
structure FnScope (N P:List Str) (sc:Scope):Prop where
 kind:sc.kind=.function
 co:sc.isCoroutine=false
 gen:sc.isGenerator=false
 nd:N.Nodup
 pre:N.take P.length=P
 par:∀ x∈P,sc.names.lookup x=some .local\/sc.names.lookup x=some .cell
 nofree:∀ y∈sc.names,y.2≠.free
theorem kA {kindOf:Str->Option NameKind}{x:Str}:∀{binds:List (Str×Value)}{m:Str->Option Value},(∀ v,(x,v)∉binds)->bindL kindOf binds m x=m x
 | [],_,_=>rfl
 |(n,v)::r,m,h=>by
  unfold bindL
  rw[kA fun w hw=>h w (List.mem_cons_of_mem _ hw)]
  split
  ·have:x≠n:=by rintro rfl;exact h v List.mem_cons_self
   simp[this]
  ·rfl
theorem kC {kindOf:Str->Option NameKind}{x:Str}:∀{binds:List (Str×Value)}{m:Str->Option Value},(∀ v,(x,v)∉binds)->bindC kindOf binds m x=m x
 | [],_,_=>rfl
 |(n,v)::r,m,h=>by
  unfold bindC
  rw[kC fun w hw=>h w (List.mem_cons_of_mem _ hw)]
  split
  ·rfl
  ·have:x≠n:=by rintro rfl;exact h v List.mem_cons_self
   simp[this]
theorem kD {kindOf:Str->Option NameKind}{x:Str}{v:Value}:∀{P:List Str}{vs:List Value}{i:Nat}{m:Str->Option Value},P.Nodup->P[i]?=some x->vs[i]?=some v->kindOf x=some .local->
 bindL kindOf (P.zip vs) m x=some v
 | [],_,_,_,_,h,_,_=>by simp at h
 |_::_,[],_,_,_,_,h,_=>by simp at h
 |p::P,w::vs,0,m,nd,h1,h2,hk=>by
  simp at h1 h2;subst h1;subst h2
  show bindL kindOf ((p,w)::P.zip vs) m p=_
  unfold bindL
  rw[kA fun v hv=>(List.nodup_cons.mp nd).1 (List.of_mem_zip hv).1,if_pos hk]
  simp
 |p::P,w::vs,i+1,m,nd,h1,h2,hk=>by
  show bindL kindOf ((p,w)::P.zip vs) m x=_
  unfold bindL
  exact kD (i:=i) (List.nodup_cons.mp nd).2 (by simpa using h1) (by simpa using h2) hk
theorem kE {kindOf:Str->Option NameKind}{x:Str}{v:Value}:∀{P:List Str}{vs:List Value}{i:Nat}{m:Str->Option Value},P.Nodup->P[i]?=some x->vs[i]?=some v->kindOf x≠some .local->
 bindC kindOf (P.zip vs) m x=some v
 | [],_,_,_,_,h,_,_=>by simp at h
 |_::_,[],_,_,_,_,h,_=>by simp at h
 |p::P,w::vs,0,m,nd,h1,h2,hk=>by
  simp at h1 h2;subst h1;subst h2
  show bindC kindOf ((p,w)::P.zip vs) m p=_
  unfold bindC
  rw[kC fun v hv=>(List.nodup_cons.mp nd).1 (List.of_mem_zip hv).1,if_neg hk]
  simp
 |p::P,w::vs,i+1,m,nd,h1,h2,hk=>by
  show bindC kindOf ((p,w)::P.zip vs) m x=_
  unfold bindC
  exact kE (i:=i) (List.nodup_cons.mp nd).2 (by simpa using h1) (by simpa using h2) hk
noncomputable def eI (N:List Str)(vs:List V):St:=vs.map some++List.replicate (N.length-vs.length) none
noncomputable def nP (CX:CXT)(P:Program)(w:World)(K:PySem.W.Frag)(mg:Str->Option Value)(base:Heap)(N:List Str)(qual:Str)(scope:Scope)(f:Addr)(cd:Value)(A:Around)(outer:List Env)(s:Shared)(H:Hp)(E:XK):Cx where
 prog:=P
 w:=w
 K:=K
 mg:=mg
 base:=base
 A:=A.deeper (envOfC qual scope s.heap.objs.size f cd)
 N:=N
 s₀:=s
 H₀:=H
 env:=envOfC qual scope s.heap.objs.size f cd
 outer:=outer
 stack:=envOfC qual scope s.heap.objs.size f cd::outer
 ex:=[]
 calm:=true
 fn:=fun _=>true
 pn:=[]
 xe:=fun e s'=>wpAny (model P w) (A.deeper (envOfC qual scope s.heap.objs.size f cd)) (leaving (envOfC qual scope s.heap.objs.size f cd) e) (fun _ s''=>CX outer H s E e s'') (fun e' s''=>CX outer H s E e' s'') s'
theorem mG {sc:Scope}{n:Nat}{x:Str}(h:sc.names.lookup x=some .cell):∃ c,(cellsFrom n sc.names []).lookup x=some c:=by
 have q:=PySem.W.cellsFrom_some sc.names n [] (.inl h)
 exact Option.isSome_iff_exists.mp q
theorem pP {CX:CXT}{P:Program}{w:World}{K:PySem.W.Frag}{mg:Str->Option Value}{base:Heap}{N ps:List Str}{qual:Str}{scope:Scope}{f:Addr}{cd:Value}{A:Around}{outer:List Env}{s s1:Shared}{H:Hp}{E:XK}{us:List Value}{vs:List V}
 (S:FnScope N ps scope) (hd:A.handled=none) (e0:Env0 P w K mg base A outer s H) (hl:vs.length=ps.length) (r:Vals vs us)
 (x:InCallC s s.heap.objs.size (bindL (envOfC qual scope s.heap.objs.size f cd).kindOf (ps.zip us) fun _=>none) (cellsFrom (s.heap.objs.size+1) scope.names []) (bindC (envOfC qual scope s.heap.objs.size f cd).kindOf (ps.zip us) fun _=>none) s1) :
 Inv (nP CX P w K mg base N qual scope f cd A outer s H E) [] (eI N vs) H s1:=by
 have hpl:ps.length<=N.length:=by have:=congrArg List.length S.pre;rw[List.length_take]at this;omega
 obtain⟨h1,tk,rfl,hk⟩:=x.done
 have noA:∀ b:Addr,b∉(nP CX P w K mg base N qual scope f cd A outer s H E).ex:=fun b z=>absurd (show b∈([]:List Addr) from z) (by simp)
 refine⟨⟨e0.mod,S.kind,rfl,rfl,Nat.le_refl _,fun y z c h1 h2=>?_,fun y hy=>?_,fun y c _ h=>?_,fun _=>hd,Around.frames_deeper e0.frames,.inr ⟨rfl,rfl⟩,fun b z=>absurd z (noA b),e0.bs,e0.bsz,fun b _ _=>noA b,fun b z=>absurd z (noA b),e0.funs,e0.frf,e0.kt⟩,
  rfl,e0.bare,Un.kept hk,⟨_,x.toInCall.ns,fun i y v h1 h2 h3=>?_⟩,fun y c h=>⟨_,x.cell y c h⟩,e0.hok.fresh (Nat.le_refl _),fun y c h=>?_,fun p hp=>absurd (show p∈([]:List (Addr×Obj)) from hp) (by simp),e0.hok.kept hk,?_⟩
 ·exact name_of_addr x.apart (PySem.mem_of_lookup h1) (PySem.mem_of_lookup h2)
 ·have hy:scope.names.lookup y=some .cell\/scope.names.lookup y=some .free:=hy
  rcases hy with hy|hy
  ·exact mG hy
  ·exact absurd rfl (S.nofree _ (PySem.mem_of_lookup hy))
 ·exact Nat.le_of_lt (x.above y c (PySem.mem_of_lookup h))
 ·have hi:i<vs.length:=by
   unfold eI at h2
   by_cases hi:i<vs.length
   ·exact hi
   ·rw[List.getElem?_append_right (by simpa using hi)]at h2
    rw[List.getElem?_replicate]at h2
    split at h2<;>cases h2
  have ha:vs[i]?=some v:=by
   unfold eI at h2
   rw[List.getElem?_append_left (by simpa using hi),List.getElem?_map]at h2
   cases e:vs[i]? with
   |none=>rw[e]at h2;cases h2
   |some a=>rw[e]at h2;cases h2;rfl
  obtain⟨u,hu,rv⟩:=r.get ha
  have hp:ps[i]?=some y:=by
   rw[<- S.pre,List.getElem?_take_of_lt (by omega)];exact h1
  have ndP:ps.Nodup:=by rw[<- S.pre];exact S.nd.sublist (List.take_sublist _ _)
  refine⟨u,rv,?_⟩
  rcases S.par y (List.mem_of_getElem? hp) with k|k
  ·exact .inl ⟨k,kD ndP hp hu k⟩
  ·obtain⟨c,e⟩:=mG (n:=s.heap.objs.size+1) k
   refine .inr ⟨.inl k,c,e,?_⟩
   have q:=x.cell y c e
   rw[kE ndP hp hu (by show scope.names.lookup y≠_;rw[k];decide)]at q
   exact q
 ·exact e0.hok.fresh (Nat.le_of_lt (x.above y c (PySem.mem_of_lookup h)))
 ·unfold eI
  show _=N.length
  rw[List.length_append,List.length_map,List.length_replicate]
  omega
theorem w4 {CX:CXT}{P:Program}{w:World}{K:PySem.W.Frag}{mg:Str->Option Value}{base:Heap}{k:Nat}{f:Addr}{name qual:Str}{params:Arguments}{body:List Stmt}{scope:Scope}{dV kV doc pm cdv ct oc:Value}{an od:Option Addr}
 {osl:Array (Option Value)} {N ps:List Str} {sp:Sp} (lk:K.lookup f=some ⟨oc,od,.func (PySem.W.fnOf name qual params body scope dV kV doc pm an cdv ct),osl⟩) (hcd:PySem.W.codeIn K cdv qual=true) (S:FnScope N ps scope)
 (len:∀ vs H Q E,sp vs H Q E->vs.length=ps.length)
 (hbody:∀(A:Around)(outer:List Env)(s:Shared)(H:Hp)(vs:List V)(Q:VK)(E:XK),Room k (A.deeper (envOfC qual scope s.heap.objs.size f cdv))->sp vs H Q E->
   ∃ t,PSs (nP CX P w K mg base N qual scope f cdv A outer s H E) body t/\t { nx:=fun _ H'=>Q .non H',rt:=Q } (eI N vs) H) :
 FnOk P w K mg base CX (k+1) f (PySem.W.fnOf name qual params body scope dV kV doc pm an cdv ct) ps sp:=by
 refine⟨len,fun A outer s H args us vs Q E hr e0 hb r hsp=>?_⟩
 have hl:=len _ _ _ _ hsp
 have KX:K.In s.heap:=e0.mod.kin.keeps fun b o e=>(e0.bs b o e).1
 have lim:s.heap.NoLimit:=e0.mod.nolimit.keeps fun b o e=>(e0.bs b o e).1
 have hkind:∀ y∈ps.zip us,scope.names.lookup y.1=some .local\/(scope.names.lookup y.1=some .cell/\((cellsFrom (s.heap.objs.size+1) scope.names []).lookup y.1).isSome=true):=fun⟨n,v⟩ hy=>by
  rcases S.par n (List.of_mem_zip hy).1 with q|q
  ·exact .inl q
  ·exact .inr ⟨q,PySem.W.cellsFrom_some _ _ _ (.inl q)⟩
 refine codeAny_call_function hr.depth (KX _ _ lk) rfl S.co S.gen rfl (PySem.W.codeRec_of KX hcd) (hb _ _ _ _ ?_)
 refine wpAny_newFunctionEnv_cells S.kind hkind fun env he s1 x=>?_
 subst he
 refine⟨lim.keeps x.toInCall.keep,codeAny_func ?_⟩
 obtain⟨t,ht,hq⟩:=hbody A outer s H vs Q E (hr.deeper _) hsp
 have I:Inv (nP CX P w K mg base N qual scope f cdv A outer s H E) [] (eI N vs) H s1:=pP S hr.hd e0 hl r x
 refine wpAny_mono (ht [] s1 (eI N vs) H _ I hq) (fun fl s' hs=>?_) fun e s' hs=>hs
 have fin:∀{σ':St}{H':Hp}{v:V}{u:Value},Inv (nP CX P w K mg base N qual scope f cdv A outer s H E) [] σ' H' s'->RelV v u->Q v H'->CE outer P w H s Q u s':=
  fun{σ' H' v u} J rv q=>⟨v,H',J.os,J.bare,J.base,J.hok,rv,q⟩
 cases fl with
 |ret u=>
  obtain⟨v,σ',H',J,rv,q⟩:=hs
  exact fin J rv q
 |next=>
  obtain⟨σ',H',J,q⟩:=hs
  exact fin (v:=V.non) (u:=Value.none) J rfl q
 |brk=>
  obtain⟨_,_,_,q⟩:=hs
  exact False.elim q
 |cont=>
  obtain⟨_,_,_,q⟩:=hs
  exact False.elim q
end L2
namespace L2
open PySem PySem.Spec PyProof.Rows
section
variable {X:Cx}{x:Str}{p pos:Pos}{e:Expr}{es:List Expr}{t:TA}{id T:String}{r:List V->Hp->VK->Prop}
noncomputable def DC (r:List V->Hp->VK->Prop)(t:TA):TE:=fun σ H Q=>t σ H fun vs H1=>r vs H1 Q
theorem jg (hc:CallR X (.builtin id) r) (hg:Gl X x) (hm:X.mg x=none) (hv:bootBuiltins x=some (.builtin id)) (ha:PA X (e::es) t) (hn:autoParam (x≠"__name__") autoD._auto_1) (hdb:autoParam ((x==("__debug__" : Str))=false) autoD._auto_1)
 (he:autoParam (starEach (e::es) X.env=(false,eval e X.env)::starEach es X.env) autoR._auto_1) (hpl:autoParam ((backTo pos (starEach es X.env)).any (·.1)=false) autoR._auto_1):PE X (.Call (.Name x p) (e::es) [] pos) (DC r t):=by
 intro pins s σ H Q I h
 refine wpAny_Call_Name_kw (ic I hg hm hv ?_ hn hdb)
 exact PyProof.Rows.callWith_builtin1 (b7 (ha pos pins s σ H _ I h) fun us s1 ⟨vs,H1,I1,r1,q1⟩=>hc pins s1 σ H1 vs us Q I1 r1 q1) he hpl
theorem kF (hc:CallR X (.type T) r) (hg:Gl X x) (hm:X.mg x=none) (hv:bootBuiltins x=some (.type T)) (ha:PA X (e::es) t) (hn:autoParam (x≠"__name__") autoD._auto_1) (hdb:autoParam ((x==("__debug__" : Str))=false) autoD._auto_1)
 (he:autoParam (starEach (e::es) X.env=(false,eval e X.env)::starEach es X.env) autoR._auto_1) (hpl:autoParam ((backTo pos (starEach es X.env)).any (·.1)=false) autoR._auto_1):PE X (.Call (.Name x p) (e::es) [] pos) (DC r t):=by
 intro pins s σ H Q I h
 refine wpAny_Call_Name_kw (ic I hg hm hv ?_ hn hdb)
 exact PyProof.Rows.callWith_type1 (b7 (ha pos pins s σ H _ I h) fun us s1 ⟨vs,H1,I1,r1,q1⟩=>hc pins s1 σ H1 vs us Q I1 r1 q1) he hpl
end
end L2
namespace HT
open PySem PyProof.Rows
section
open PySem.SeqAt
open PySem.AutoSeq1 (wpAny_loadPart')
open PySem.MeetsSeq PySem.MeetsSeq2 PySem.MeetsSeq3
end
section
variable {prog:Program}{w:World}{A:Around}{E:Value->Shared->Prop}{s:Shared}
theorem cat_tup {t b:Addr}{vs ws:List Value}{Q:Value->Shared->Prop}(ht:IsTup s.heap t vs.toArray)(hb:IsTup s.heap b ws.toArray)(hv:vs≠[])
 (h1:ws=[]->Q (.ref t) s) (h2:ws≠[]->Q (.ref s.heap.objs.size) { s with heap:=s.heap.push { cls:=.type "tuple",data:=.seq (vs++ws).toArray } })
 (hsz:vs.length+ws.length<=sizeLine):wpAny (model prog w) A (binaryOp .Add (.ref t) (.ref b)) Q E s:=by
 obtain⟨⟨cls,dd,data,sl⟩,ho,hc,n,hd⟩:=id ht
 obtain⟨⟨cls2,dd2,data2,sl2⟩,ho2,hc2,n2,hd2⟩:=id hb
 simp only at hc hd hc2 hd2
 subst hc hd hc2 hd2
 have e:vs.toArray++ws.toArray=(vs++ws).toArray:=by simp
 by_cases hw:ws=[]
 ·exact concat_meets ⟨_,ho,rfl⟩ ⟨_,ho2,rfl⟩ noFill_tuple_add seq_tuple_add PySem.F.slot_tuple_add PySem.F.entry_tuple_add (PySem.F.args_tuple_add_2 _ _)
   (tuple_addW1 t b vs.toArray ws.toArray n n2 dd dd2 sl sl2 (by simpa using hv) (by simp[hw])) ⟨ho,ho2,h1 hw⟩
 ·refine concat_meets ⟨_,ho,rfl⟩ ⟨_,ho2,rfl⟩ noFill_tuple_add seq_tuple_add PySem.F.slot_tuple_add PySem.F.entry_tuple_add (PySem.F.args_tuple_add_2 _ _)
   (tuple_addW2 t b vs.toArray ws.toArray n n2 dd dd2 sl sl2 (by simpa using hv) (by simpa using hw) (by rw[List.size_toArray,List.size_toArray];exact hsz)) ⟨ho,ho2,?_⟩
  rw[e]
  exact h2 hw
noncomputable def sIx (n d:Nat):Option Int->Nat
 |none=>d
 |some v=>if v<0 then (v+(n:Int)).toNat else min v.toNat n
theorem sIx_nat (n d k:Nat):sIx n d (some (k:Int))=min k n:=by
 show(if (k:Int)<0 then ((k:Int)+(n:Int)).toNat else min (k:Int).toNat n)=min k n
 rw[if_neg (by omega),Int.toNat_natCast]
theorem yg (n d:Nat)(hd:d<=n)(o:Option Int):sIx n d o<=n:=by
 cases o with
 |none=>exact hd
 |some v=>
  show(if v<0 then (v+(n:Int)).toNat else min v.toNat n)<=n
  by_cases hv:v<0
  ·rw[if_pos hv];omega
  ·rw[if_neg hv];exact Nat.min_le_right _ _
theorem oF (v:Int)(n d:Nat):(if v<0 then max (v+(n:Int)) 0 else min v (n:Int))=((sIx n d (some v):Nat):Int):=by
 show(if v<0 then max (v+(n:Int)) 0 else min v (n:Int))=(((if v<0 then (v+(n:Int)).toNat else min v.toNat n):Nat):Int)
 by_cases hv:v<0
 ·simp only[if_pos hv];omega
 ·simp only[if_neg hv];omega
theorem nQ (lo hi:Option Int)(n:Nat):Builtin.Slice.sliceAdjust lo hi 1 (n:Int)=(((sIx n 0 lo:Nat):Int),((sIx n n hi:Nat):Int)):=by
 have h1:¬ ((1:Int)<0):=by omega
 unfold Builtin.Slice.sliceAdjust
 simp only[h1,if_false]
 refine Prod.ext ?_ ?_
 ·cases lo with
  |none=>rfl
  |some v=>exact oF v n 0
 ·cases hi with
  |none=>rfl
  |some v=>exact oF v n n
theorem nR (i j:Nat):Builtin.Slice.slicePlaces (i:Int) (j:Int) 1=j-i:=by
 unfold Builtin.Slice.slicePlaces
 have h1:(1:Int)>0:=by omega
 simp only[h1,if_true,Int.ediv_one]
 split<;>omega
theorem jh {v:Value}{o:Option Int}{Q:Option Int->Shared->Prop}(p:IsPart v o)(h:Q o s):wpAny (model prog w) A (Builtin.Slice.slicePartIndex v) Q E s:=by
 cases p with
 |none=>exact slicePart_none h
 |int i t=>exact slicePart_int h
theorem sliceApplied_gen {sl:Addr}{vl vu:Value}{lo hi:Option Int}{n:Nat}{Q:Int×Int×Nat->Shared->Prop}(hs:s.heap.IsSliceOf sl vl vu .none)(pl:IsPart vl lo)(pu:IsPart vu hi)
 (h:Q (((sIx n 0 lo:Nat):Int),1,sIx n n hi-sIx n 0 lo) s):wpAny (model prog w) A (Builtin.Slice.sliceApplied (.ref sl) (pure (n:Int))) Q E s:=by
 obtain⟨os,hos,hcs,hds⟩:=id hs
 unfold Builtin.Slice.sliceApplied Builtin.Slice.sliceFields
 refine wpAny_bind (wpAny_bind (wpAny_field hos hds (x:=vl) rfl (wpAny_bind (wpAny_field hos hds (x:=vu) rfl (wpAny_bind (wpAny_field hos hds (x:=.none) rfl (wpAny_pure ?_)))))))
 refine wpAny_bind (slicePart_none ?_)
 show wpAny _ _ (if ((1:Int)==0)=true then _ else _) _ _ s
 rw[if_neg (by decide)]
 refine wpAny_bind (jh pl (wpAny_bind (jh pu (wpAny_bind (wpAny_pure ?_)))))
 show wpAny _ _ (match Builtin.Slice.sliceAdjust lo hi 1 (n:Int) with|(lo,hi)=>pure (lo,(1:Int),Builtin.Slice.slicePlaces lo hi 1)) _ _ s
 rw[nQ lo hi n]
 show wpAny _ _ (pure (((sIx n 0 lo:Nat):Int),(1:Int),Builtin.Slice.slicePlaces ((sIx n 0 lo:Nat):Int) ((sIx n n hi:Nat):Int) 1)) _ _ s
 rw[nR]
 exact wpAny_pure h
theorem rJ (xs:Array Value)(i k:Nat):((List.range k).filterMap fun(m:Nat)=>xs[((i:Int)+(m:Int)*1).toNat]?).toArray=((xs.toList.drop i).take k).toArray:=by
 have e:(fun(m:Nat)=>xs[((i:Int)+(m:Int)*1).toNat]?)=fun m=>xs[i+m]?:=by
  funext m
  have:((i:Int)+(m:Int)*1).toNat=i+m:=by omega
  rw[this]
 rw[e]
 have:=pick_run xs i k
 rw[List.filterMap_map]at this
 have e2:((fun x=>xs[x]?) ∘ fun x=>i+x)=fun m=>xs[i+m]?:=rfl
 rw[e2]at this
 rw[this]
theorem getItem_tuple_cut {t sl:Addr}{items:Array Value}{vl vu:Value}{lo hi:Option Int}{Q:Value->Shared->Prop}(ht:IsTup s.heap t items)(hs:s.heap.IsSliceOf sl vl vu .none)(pl:IsPart vl lo)(pu:IsPart vu hi)
 (hw:¬ (sIx items.size 0 lo=0/\sIx items.size items.size hi=items.size))
 (h:Q (.ref s.heap.objs.size) { s with heap:=s.heap.push { cls:=.type "tuple",data:=.seq ((items.toList.drop (sIx items.size 0 lo)).take (sIx items.size items.size hi-sIx items.size 0 lo)).toArray } })
 (hsz:items.size<=sizeLine):wpAny (model prog w) A (getItem (.ref t) (.ref sl)) Q E s:=by
 have htake:sizeOk (.seq ((items.toList.drop (sIx items.size 0 lo)).take (sIx items.size items.size hi-sIx items.size 0 lo)).toArray):=by
  show((items.toList.drop (sIx items.size 0 lo)).take (sIx items.size items.size hi-sIx items.size 0 lo)).toArray.size<=sizeLine
  rw[List.size_toArray,List.length_take,List.length_drop,Array.length_toList]
  omega
 have hj:sIx items.size items.size hi<=items.size:=yg _ _ (Nat.le_refl _) hi
 obtain⟨os,hos,hcs,hds⟩:=id hs
 have hTs:s.TypeIs (.ref sl) "slice":=⟨os,hos,hcs⟩
 unfold getItem
 try with_reducible refine wpAny_holding ?_
 first|refine wpAny_bind (wpAny_pure ?_)|skip
 refine wpAny_bind (wpAny_sequenceKey ht.typeIs (by decide) ?_)
 refine wpAny_bind (wpAny_callSpecial?_slot (name:=Str.ofString "__getitem__") ht.typeIs PyProof.Rows.slot_tuple_getitem
  (wpAny_call_entry PyProof.Rows.slot_tuple_getitem ht.typeIs entry_tuple_getitem ?_ (args_tuple_getitem _ _)))
 show wpAny _ _ (Builtin.Tuple.tupleItemsOf (.ref t) >>= _) _ _ s
 refine wpAny_bind (tupleItemsOf_ ht ?_)
 refine wpAny_bind (wpAny_typeOf hTs ?_)
 rw[if_pos (by decide)]
 refine wpAny_bind (sliceApplied_gen hs pl pu ?_)
 have hno:¬ ((((sIx items.size 0 lo:Nat):Int)==0&&(1:Int)==1&&(sIx items.size items.size hi-sIx items.size 0 lo)==items.size)=true):=by
  intro q
  rw[Bool.and_eq_true,Bool.and_eq_true]at q
  have q1:((sIx items.size 0 lo:Nat):Int)=0:=eq_of_beq q.1.1
  have q2:sIx items.size items.size hi-sIx items.size 0 lo=items.size:=eq_of_beq q.2
  exact hw ⟨by omega,by omega⟩
 show wpAny _ _ (if (((sIx items.size 0 lo:Nat):Int)==0&&(1:Int)==1&&(sIx items.size items.size hi-sIx items.size 0 lo)==items.size)=true then _ else _) _ _ s
 rw[if_neg hno,rJ]
 first
  |exact wpAny_bind (m:=Builtin.Tuple.tupleExact _) (wpAny_newObj_type (wpAny_pure ⟨_,rfl,wpAny_pure h⟩) htake)
  |exact wpAny_bind (m:=Builtin.Tuple.tupleExact _) (wpAny_newObj_type (wpAny_bind (wpAny_pure (wpAny_pure ⟨_,rfl,wpAny_pure h⟩))) htake)
  |exact wpAny_bind (wpAny_bind (m:=Builtin.Tuple.tupleExact _) (wpAny_newObj_type (wpAny_pure (wpAny_pure ⟨_,rfl,wpAny_pure h⟩)) htake))
  |exact wpAny_bind (wpAny_bind (m:=Builtin.Tuple.tupleExact _) (wpAny_newObj_type (wpAny_pure ⟨_,rfl,wpAny_pure h⟩) htake))
end
end HT
namespace L2
open PySem PySem.Spec PyProof.Rows
noncomputable abbrev TO:=St->Hp->(Option Int->Hp->Prop)->Prop
noncomputable def PO (X:Cx)(e:Option Expr)(t:TO):Prop:=
 ∀(pins:List (Addr×Obj))(s:Shared)(σ:St)(H:Hp)(Q:Option Int->Hp->Prop),Inv X pins σ H s->t σ H Q->
  wpAny (model X.prog X.w) X.A (evalPart e X.env) (fun u s'=>∃ o H',Inv X pins σ H' s'/\IsPart u o/\Q o H') X.xe s
noncomputable def u6:TO:=fun _ H Q=>Q none H
noncomputable def AQ (t:TE):TO:=fun σ H Q=>t σ H fun x H1=>∃ i,x=.int i/\Q (some i) H1
section
variable {X:Cx}{e:Expr}{te:TE}{lo hi:Option Expr}{tl th:TO}{pos p2:Pos}
theorem u7:PO X none u6:=by
 intro pins s σ H Q I h
 rw[evalPart_none]
 exact wpAny_pure ⟨none,H,I,.none,h⟩
theorem u8 (h:PE X e te):PO X (some e) (AQ te):=by
 intro pins s σ H Q I hw
 rw[evalPart_some]
 refine b7 (h pins s σ H _ I hw) fun u s1 ⟨x,H1,I1,r1,q1⟩=>?_
 obtain⟨i,rfl,q⟩:=q1
 obtain⟨t,rfl⟩:=r1
 exact⟨some i,H1,I1,.int i t,q⟩
noncomputable def SlR (X:Cx)(r:V->Option Int->Option Int->Hp->VK->Prop):Prop:=
 ∀(pins:List (Addr×Obj))(s:Shared)(σ:St)(H:Hp)(x:V)(v vl vu:Value)(lo hi:Option Int)(sl:Addr)(Q:VK),Inv X pins σ H s->RelV x v->s.heap.IsSliceOf sl vl vu .none->IsPart vl lo->IsPart vu hi->r x lo hi H Q->
  ∃ T id,typeLookup (.type T) "__getitem__"=pure (some (.builtin id))/\s.TypeIs v T/\wpAny (model X.prog X.w) X.A (getItem v (.ref sl)) (EP X pins σ Q) X.xe s
theorem SlR.or {r r':V->Option Int->Option Int->Hp->VK->Prop}(h:SlR X r)(h':SlR X r'):SlR X (fun x lo hi H Q=>r x lo hi H Q\/r' x lo hi H Q):=by
 intro pins s σ H x v vl vu lo hi sl Q I rx hs pl pu q
 rcases q with q|q
 ·exact h pins s σ H x v vl vu lo hi sl Q I rx hs pl pu q
 ·exact h' pins s σ H x v vl vu lo hi sl Q I rx hs pl pu q
noncomputable def DT (r:V->Option Int->Option Int->Hp->VK->Prop)(te:TE)(tl th:TO):TE:=fun σ H Q=>te σ H fun x H1=>tl σ H1 fun l H2=>th σ H2 fun u H3=>r x l u H3 Q
theorem rK {r:V->Option Int->Option Int->Hp->VK->Prop}(hr:SlR X r)(he:PE X e te)(hl:PO X lo tl)(hu:PO X hi th):PE X (.Subscript e (.Slice lo hi none p2) pos) (DT r te tl th):=by
 intro pins s σ H Q I h
 refine Subscript_ (b7 (he pins s σ H _ I h) fun v s1 ⟨x,H1,I1,r1,q1⟩=>?_)
 refine wpAny_Slice (b7 (hl pins s1 σ H1 _ I1 q1) fun vl s2 ⟨l,H2,I2,pl,q2⟩=>b7 (hu pins s2 σ H2 _ I2 q2) fun vu s3 ⟨u,H3,I3,pu,q3⟩=>?_)
 rw[evalPart_none]
 refine wpAny_pure ?_
 have I4:Inv X pins σ H3 { s3 with heap:=s3.heap.push { cls:=.type "slice",data:=.fields #[vl,vu,.none] } }:=I3.kept (t':=s3.toks) fun b ob q=>Heap.get?_push_of_some _ q
 obtain⟨T,id,hT,ht,hg⟩:=hr pins { s3 with heap:=s3.heap.push { cls:=.type "slice",data:=.fields #[vl,vu,.none] } } σ H3 x v vl vu l u s3.heap.objs.size Q I4 r1 (Heap.IsSliceOf.new ..) pl pu q3
 show wpAny (model X.prog X.w) X.A (subscriptTail e (.Slice lo hi none p2) v (.ref s3.heap.objs.size)) (EP X pins σ Q) X.xe { s3 with heap:=s3.heap.push { cls:=.type "slice",data:=.fields #[vl,vu,.none] } }
 exact tail_any (ops:=[.ref s3.heap.objs.size,v]) ht hT hg (by with_unfolding_all rfl)
noncomputable def mH (xs:List V)(lo hi:Option Int):List V:=(xs.drop (HT.sIx xs.length 0 lo)).take (HT.sIx xs.length xs.length hi-HT.sIx xs.length 0 lo)
theorem iE (xs:List V)(lo hi:Option Int):(mH xs lo hi).length<=xs.length:=by
 unfold mH
 rw[List.length_take,List.length_drop]
 omega
noncomputable def CU (K:PySem.W.Frag):V->Option Int->Option Int->Hp->VK->Prop:=fun x lo hi H Q=>∃ a xs,x=.ref a/\SqT K H a xs/\
 ¬ (HT.sIx xs.length 0 lo=0/\HT.sIx xs.length xs.length hi=xs.length)/\∀ p,H p=none->Q (.ref p) (bf H p (.tup (mH xs lo hi)))
theorem sl_tup:SlR X (CU X.K):=by
 intro pins s σ H x v vl vu lo hi sl Q I rx hs pl pu h
 obtain⟨a,xs,rfl,hx,hw,q⟩:=h
 cases rx
 obtain⟨its,r,ht,hz⟩:=I.tuple hx
 have bA:its.toArray.size=xs.length:=by rw[List.size_toArray];exact r.length.symm
 refine⟨"tuple",_,PyProof.Rows.slot_tuple_getitem.lookup,ht.typeIs,?_⟩
 refine HT.getItem_tuple_cut ht hs pl pu (by rw[bA];exact hw) ?_ (by rw[bA];exact hz)
 rw[bA]
 refine⟨.ref s.heap.objs.size,_,I.laid (t':=s.toks) (o:=.tup (mH xs lo hi)) (fun b ob q=>Heap.get?_push_of_some _ q) (Nat.le_refl _) ?_,rfl,q _ (I.hok.fresh (Nat.le_refl _))⟩
 exact⟨Nat.le_trans (iE xs lo hi) hz,_,(r.drop (HT.sIx xs.length 0 lo)).take (HT.sIx xs.length xs.length hi-HT.sIx xs.length 0 lo),IsTup.new _ _⟩
noncomputable def AR (K:PySem.W.Frag):R2:=fun x y H Q=>∃ a b xs ys,x=.ref a/\y=.ref b/\SqT K H a xs/\SqT K H b ys/\xs≠[]/\xs.length+ys.length<=sizeLine/\
 (ys=[]->Q (.ref a) H)/\(ys≠[]->∀ p,H p=none->Q (.ref p) (bf H p (.tup (xs++ys))))
theorem Vals.nil_iff {xs:List V}{us:List Value}(r:Vals xs us):us=[]↔xs=[]:=by
 cases r with
 |nil=>simp
 |cons _ _=>simp
theorem op_catT:OpR X (binaryOp .Add) (AR X.K):=by
 intro pins s σ H x y v u Q I rx ry h
 obtain⟨a,b,xs,ys,rfl,rfl,ha,hb,hx,hz,q1,q2⟩:=h
 cases rx
 cases ry
 obtain⟨its,r1,p1,_⟩:=I.tuple ha
 obtain⟨its2,r2,p2,_⟩:=I.tuple hb
 refine HT.cat_tup p1 p2 (fun z=>hx (r1.nil_iff.mp z)) (fun z=>⟨.ref a,H,I,rfl,q1 (r2.nil_iff.mp z)⟩) (fun z=>?_) (by rw[<- r1.length,<- r2.length];exact hz)
 refine⟨.ref s.heap.objs.size,_,I.laid (t':=s.toks) (o:=.tup (xs++ys)) (fun b ob q=>Heap.get?_push_of_some _ q) (Nat.le_refl _) ?_,rfl,q2 (fun w=>z (r2.nil_iff.mpr w)) _ (I.hok.fresh (Nat.le_refl _))⟩
 exact⟨by rw[List.length_append];exact hz,_,r1.append r2,IsTup.new _ _⟩
end
end L2
namespace L2
open PySem PySem.Spec PyProof.Rows
noncomputable def j_ (n:Nat)(i:Int):Option Nat:=if 0<=i then (if i<n then some i.toNat else none) else if -(n:Int)<=i then some (i+n).toNat else none
noncomputable def atI {α:Type}(xs:List α)(i:Int):Option α:=(j_ xs.length i).bind fun j=>xs[j]?
theorem u9 {n:Nat}{i:Int}{j:Nat}(h:j_ n i=some j):seqIndex? i n=some j/\j<n/\-(n:Int)<=i/\i<n:=by
 unfold j_ at h
 by_cases h0:0<=i
 ·rw[if_pos h0]at h
  by_cases h1:i<n
  ·rw[if_pos h1]at h
   have e:i.toNat=j:=Option.some.inj h
   exact⟨by rw[seqIndex_of h0 h1,e],by omega,by omega,h1⟩
  ·rw[if_neg h1]at h;cases h
 ·rw[if_neg h0]at h
  by_cases h1:-(n:Int)<=i
  ·rw[if_pos h1]at h
   have e:(i+n).toNat=j:=Option.some.inj h
   exact⟨by rw[seqIndex_neg (by omega) h1,e],by omega,h1,by omega⟩
  ·rw[if_neg h1]at h;cases h
theorem lv {α:Type}{xs:List α}{i:Int}{v:α}(h:atI xs i=some v):∃ j,seqIndex? i xs.length=some j/\xs[j]?=some v/\j<xs.length/\-(xs.length:Int)<=i/\i<xs.length:=by
 unfold atI at h
 cases e:j_ xs.length i with
 |none=>rw[e]at h;cases h
 |some j=>
  rw[e]at h
  obtain⟨h1,h2,h3,h4⟩:=u9 e
  exact⟨j,h1,h,h2,h3,h4⟩
noncomputable def i8 (b:Expr):Prop:=∀ o i,subscripted b false o i=operate [o,i] (getItem o i)
noncomputable def IxR (X:Cx)(r:R2):Prop:=
 ∀(value slice:Expr)(pins:List (Addr×Obj))(s:Shared)(σ:St)(H:Hp)(x y:V)(v u:Value)(Q:VK),Inv X pins σ H s->RelV x v->RelV y u->r x y H Q->
  subscripted slice false v u=operate [v,u] (getItem v u)->wpAny (model X.prog X.w) X.A (subscriptTail value slice v u) (EP X pins σ Q) X.xe s
noncomputable def CV (X:Cx)(id:String)(r:V->List V->Hp->VK->Prop):Prop:=
 ∀(pins:List (Addr×Obj))(s:Shared)(σ:St)(H:Hp)(x:V)(xs:List V)(v:Value)(us:List Value)(Q:VK),Inv X pins σ H s->RelV x v->Vals xs us->r x xs H Q->
  wpAny (model X.prog X.w) X.A (call (.builtin id) (v::us)) (EP X pins σ Q) X.xe s
section
variable {X:Cx}{a b:Expr}{ta tb:TE}{pos:Pos}
theorem IxR.or {r r':R2}(h:IxR X r)(h':IxR X r'):IxR X (fun x y H Q=>r x y H Q\/r' x y H Q):=by
 intro value slice pins s σ H x y v u Q I rx ry q hs
 rcases q with q|q
 ·exact h value slice pins s σ H x y v u Q I rx ry q hs
 ·exact h' value slice pins s σ H x y v u Q I rx ry q hs
theorem rL {r:R2}(hr:IxR X r)(ha:PE X a ta)(hb:PE X b tb)(hs:i8 b):PE X (.Subscript a b pos) (Au r ta tb):=by
 intro pins s σ H Q I h
 exact Subscript_ (x0 ha hb I h fun v u s2 x y H2 I2 rx ry q=>hr a b pins s2 σ H2 x y v u Q I2 rx ry q (hs _ _))
noncomputable def yh (K:PySem.W.Frag):R2:=fun x y H Q=>∃ p xs i v,x=.ref p/\y=.int i/\SqL K H p xs/\atI xs i=some v/\Q v H
noncomputable def AS (K:PySem.W.Frag):R2:=fun x y H Q=>∃ p xs i v,x=.ref p/\y=.int i/\SqT K H p xs/\atI xs i=some v/\Q v H
noncomputable def AT:R2:=fun x y H Q=>∃ z i c,x=.str z/\y=.int i/\z.length<=sizeLine/\atI z.cps.toList i=some c/\Q (.str ⟨#[c]⟩) H
theorem ix_list:IxR X (yh X.K):=by
 intro value slice pins s σ H x y v u Q I rx ry h hs
 obtain⟨p,xs,i,z,rfl,rfl,hq,he,q⟩:=h
 cases rx
 obtain⟨t,rfl⟩:=ry
 obtain⟨its,r,pl,hz⟩:=I.list hq
 obtain⟨j,h1,h2,h3,h4,h5⟩:=lv he
 obtain⟨w,ew,rw'⟩:=r.get h2
 have hl:=r.length
 have hn:=ie
 have fin:EP X pins σ Q w s:=⟨z,H,I,rw',q⟩
 by_cases h0:0<=i
 ·have hj:i.toNat=j:=by
   rw[seqIndex_of h0 h5]at h1
   exact Option.some.inj h1
  exact item_listR pl.isList h0 (by omega) (by rw[hj];simpa using ew) fin hs
 ·have hj:(i+(its.toArray.size:Int)).toNat=j:=by
   rw[seqIndex_neg (by omega) h4]at h1
   rw[List.size_toArray,<- hl]
   exact Option.some.inj h1
  exact subscriptTail_builtinR (x:=w) pl.isList.typeIs slot_list_getitem.lookup
   (wpAny_getItem_list_neg (Q:=fun r s'=>r=w/\EP X pins σ Q r s') pl.isList (by omega) (by rw[List.size_toArray]<;>omega) (by omega) (by rw[hj];simpa using ew) ⟨rfl,fin⟩) hs
theorem ix_tup:IxR X (AS X.K):=by
 intro value slice pins s σ H x y v u Q I rx ry h hs
 obtain⟨p,xs,i,z,rfl,rfl,hq,he,q⟩:=h
 cases rx
 obtain⟨t,rfl⟩:=ry
 obtain⟨its,r,pl,hz⟩:=I.tuple hq
 obtain⟨j,h1,h2,h3,h4,h5⟩:=lv he
 obtain⟨w,ew,rw'⟩:=r.get h2
 have hl:=r.length
 have hn:=ie
 have fin:EP X pins σ Q w s:=⟨z,H,I,rw',q⟩
 exact subscriptTail_builtinR (x:=w) pl.typeIs slot_tuple_getitem.lookup
  (getItem_tuple (j:=j) (Q:=fun r s'=>r=w/\EP X pins σ Q r s') pl (by omega) (by omega) (by rw[List.size_toArray,<- hl];exact h1) (by simpa using ew) ⟨rfl,fin⟩) hs
theorem yi:IxR X AT:=by
 intro value slice pins s σ H x y v u Q I rx ry h hs
 obtain⟨z,i,c,rfl,rfl,hz,he,q⟩:=h
 obtain⟨t,rfl⟩:=rx
 obtain⟨t',rfl⟩:=ry
 obtain⟨j,h1,h2,h3,h4,h5⟩:=lv he
 have hl:z.cps.toList.length=z.length:=by simp[Str.length]
 rw[hl]at h1 h4 h5
 have hn:=ie
 exact tail_any (typeIs_str s z t) slot_str_getitem.lookup (getItem_str (c:=c) (by
  have e1:decide (i < -(2 ^ 63:Int))=false:=decide_eq_false (by omega)
  have e2:decide (i>=2 ^ 63)=false:=decide_eq_false (by omega)
  rw[e1,e2,Bool.or_false]) (by rw[h1];simpa using h2) ⟨.str ⟨#[c]⟩,H,I.tok _,⟨_,rfl⟩,q⟩) hs
noncomputable def DU (K:PySem.W.Frag):R2:=fun x y H Q=>yh K x y H Q\/AS K x y H Q\/AT x y H Q
theorem yj:IxR X (DU X.K):=ix_list.or (ix_tup.or yi)
theorem Inv.lst {pins:List (Addr×Obj)}{σ:St}{H:Hp}{s:Shared}{p:Addr}{xs:List V}(I:Inv X pins σ H s)(h:H p=some (.lst xs)) :
 ∃(its:List Value)(n:Nat),Vals xs its/\s.heap.get? p=some { cls:=.type "list",data:=.seq its.toArray n }/\xs.length<=sizeLine:=by
 obtain⟨z,its,n,r,e⟩:=I.hok p _ h
 exact⟨its,n,r,e,z⟩
theorem lw (lo hi:Option Int)(n:Nat):(sliceBounds lo hi none n).1=((HT.sIx n 0 lo:Nat):Int)/\(sliceBounds lo hi none n).2.1=((HT.sIx n n hi:Nat):Int)/\(sliceBounds lo hi none n).2.2=1:=by
 refine⟨?_,?_,rfl⟩
 ·cases lo with
  |none=>simp[sliceBounds,HT.sIx]
  |some i=>
   simp only[sliceBounds,HT.sIx,Option.getD_none,show(1:Int)>0 by decide,if_true]
   by_cases h:i<0
   ·simp only[h,if_true]<;>omega
   ·simp only[h,if_false]<;>omega
 ·cases hi with
  |none=>simp[sliceBounds,HT.sIx]
  |some i=>
   simp only[sliceBounds,HT.sIx,Option.getD_none,show(1:Int)>0 by decide,if_true]
   by_cases h:i<0
   ·simp only[h,if_true]<;>omega
   ·simp only[h,if_false]<;>omega
theorem kc (its:List Value)(lo hi:Option Int):slicePick its.toArray lo hi none=((its.drop (HT.sIx its.length 0 lo)).take (HT.sIx its.length its.length hi-HT.sIx its.length 0 lo)).toArray:=by
 obtain⟨h1,h2,h3⟩:=lw lo hi its.toArray.size
 unfold slicePick
 rw[h1,h2,h3]
 simp only[sliceRange_one,pick_run,List.size_toArray]<;>rfl
noncomputable def CW (K:PySem.W.Frag):V->Option Int->Option Int->Hp->VK->Prop:=fun x lo hi H Q=>∃ a xs,x=.ref a/\SqL K H a xs/\∀ p,H p=none->Q (.ref p) (bf H p (.lst (mH xs lo hi)))
theorem sl_list:SlR X (CW X.K):=by
 intro pins s σ H x v vl vu lo hi sl Q I rx hs pl pu h
 obtain⟨a,xs,rfl,hx,q⟩:=h
 cases rx
 obtain⟨its,r,ht,hz⟩:=I.list hx
 have bA:=r.length
 refine⟨"list",_,slot_list_getitem.lookup,ht.isList.typeIs,?_⟩
 refine wpAny_getItem_list_slice ht.isList hs pl pu .none (by simp) ?_ (by rw[List.size_toArray]<;>omega)
 rw[kc,<- bA]
 refine⟨.ref s.heap.objs.size,_,I.laid (t':=s.toks) (o:=.lst (mH xs lo hi)) (fun b ob q=>Heap.get?_push_of_some _ q) (Nat.le_refl _) ?_,rfl,q _ (I.hok.fresh (Nat.le_refl _))⟩
 exact⟨Nat.le_trans (iE xs lo hi) hz,_,0,(r.drop (HT.sIx xs.length 0 lo)).take (HT.sIx xs.length xs.length hi-HT.sIx xs.length 0 lo),Heap.get?_push_size _ rfl⟩
theorem call_len_seq:CallR X (.builtin "len") (fun xs H Q=>∃ p ys,xs=[.ref p]/\(SqL X.K H p ys\/SqT X.K H p ys)/\Q (.int ys.length) H):=by
 intro pins s σ H xs us Q I r h
 obtain⟨p,ys,rfl,hq,q⟩:=h
 obtain⟨u,rfl,rx⟩:=gw r
 cases rx
 have hn:=ie
 rcases hq with hq|hq
 ·obtain⟨its,r',pl,hz⟩:=I.list hq
  have bA:=r'.length
  exact Calls.call_len_list pl.isList (by simp only[List.size_toArray]<;>omega) ⟨.int ys.length,H,I.tok _,⟨s.toks+1,by rw[List.size_toArray,bA]⟩,q⟩
 ·obtain⟨its,r',pl,hz⟩:=I.tuple hq
  have bA:=r'.length
  exact len_tuple pl (by simp only[List.size_toArray]<;>omega) ⟨.int ys.length,H,I.tok _,⟨s.toks+1,by rw[List.size_toArray,bA]⟩,q⟩
theorem lx:CallR X (.builtin "len") (fun xs H Q=>∃ z,xs=[.str z]/\z.length<=sizeLine/\Q (.int z.length) H):=by
 intro pins s σ H xs us Q I r h
 obtain⟨z,rfl,hz,q⟩:=h
 obtain⟨u,rfl,t,rfl⟩:=gw r
 have hn:=ie
 exact len_str (by omega) ⟨.int z.length,H,I.tok _,⟨_,rfl⟩,q⟩
theorem CallR.or {f:Value}{r r':List V->Hp->VK->Prop}(h:CallR X f r)(h':CallR X f r'):CallR X f (fun xs H Q=>r xs H Q\/r' xs H Q):=by
 intro pins s σ H xs us Q I rs q
 rcases q with q|q
 ·exact h pins s σ H xs us Q I rs q
 ·exact h' pins s σ H xs us Q I rs q
theorem kd:CallR X (.type "tuple") (fun xs H Q=>∃ p ys,xs=[.ref p]/\((SqL X.K H p ys/\∀ l,H l=none->Q (.ref l) (bf H l (.tup ys)))\/(SqT X.K H p ys/\Q (.ref p) H))):=by
 intro pins s σ H xs us Q I r h
 obtain⟨p,ys,rfl,h⟩:=h
 obtain⟨u,rfl,rx⟩:=gw r
 cases rx
 rcases h with⟨hq,q⟩|⟨hq,q⟩
 ·obtain⟨its,r',pl,hz⟩:=I.list hq
  have bA:=r'.length
  refine call_tuple_list pl.isList (fun h' kp=>?_) (by simp only[List.size_toArray]<;>omega)
  have I1:Inv X pins σ H { s with heap:=h' }:=I.kept (t':=s.toks) kp
  have I2:Inv X pins σ (bf H h'.objs.size (.tup ys)) { s with heap:=h'.push { cls:=.type "tuple",data:=.seq its.toArray } }:=
   I1.laid (t':=s.toks) (fun b o e=>Heap.get?_push_of_some _ e) (Nat.le_refl _) (show ObjOk X.prog X.w _ _ _ (.tup ys) from⟨hz,its,r',IsTup.new _ _⟩)
  exact⟨.ref h'.objs.size,_,I2,rfl,q _ (I1.hok.fresh (Nat.le_refl _))⟩
 ·obtain⟨its,r',pl,hz⟩:=I.tuple hq
  exact call_tuple_same pl ⟨.ref p,H,I,rfl,q⟩
noncomputable def DD (K:PySem.W.Frag)(T:String)(x:V)(H:Hp):Prop:=match x with
 | .str _=>T="str"
 | .int _=>T="int"
 | .ref p=>(T="list"/\∃ xs,SqL K H p xs)\/(T="tuple"/\∃ o,K.lookup p=some o/\o.cls=.type "tuple"/\o.dict=none)\/
  (T="dict"/\((∃ kvs,H p=some (.dK kvs))\/∃ kvs,H p=some (.dT kvs)))\/(T="set"/\∃ S n,H p=some (.set S n))
 |_=>False
theorem yk {pins:List (Addr×Obj)}{σ:St}{H:Hp}{s:Shared}{T:String}{x:V}{v:Value}(I:Inv X pins σ H s)(r:RelV x v)(ty:DD X.K T x H) :
 s.TypeIs v T/\∀ a,v=.ref a->∃ ob,s.heap.get? a=some ob/\ob.dict=none:=by
 cases x with
 |str z=>
  obtain⟨t,rfl⟩:=r
  cases (show T="str" from ty)
  exact⟨typeIs_str s z t,fun _ e=>nomatch e⟩
 |int i=>
  obtain⟨t,rfl⟩:=r
  cases (show T="int" from ty)
  exact⟨typeIs_int s i t,fun _ e=>nomatch e⟩
 |ref p=>
  cases r
  rcases ty with⟨rfl,xs,hq⟩|⟨rfl,o,hk,hc,hd⟩|⟨rfl,hk⟩|⟨rfl,S,n,hk⟩
  ·obtain⟨its,_,pl,_⟩:=I.list hq
   refine⟨pl.isList.typeIs,fun a e=>?_⟩
   cases e
   obtain⟨o,n,e,c,hd,_⟩:=pl
   exact⟨o,e,hd⟩
  ·refine⟨⟨o,I.kIn p o hk,hc⟩,fun a e=>?_⟩
   cases e
   exact⟨o,I.kIn _ o hk,hd⟩
  ·have z:∃ o,s.heap.get? p=some o/\o.ExactDict:=by
    rcases hk with⟨kvs,hk⟩|⟨kvs,hk⟩
    ·obtain⟨_,_,_,_,o,_,_,e,ex,_⟩:=I.hok p _ hk
     exact⟨o,e,ex⟩
    ·obtain⟨_,_,_,_,o,_,_,e,ex,_⟩:=I.hok p _ hk
     exact⟨o,e,ex⟩
   obtain⟨o,e,ex⟩:=z
   refine⟨⟨o,e,ex.1⟩,fun a e2=>?_⟩
   cases e2
   exact⟨o,e,ex.2.1⟩
  ·obtain⟨o,_,_,_,e,ex,_⟩:=I.hok p _ hk
   refine⟨⟨o,e,ex.1⟩,fun a e2=>?_⟩
   cases e2
   exact⟨o,e,ex.2.1⟩
 |_=>exact False.elim ty
noncomputable def DV (K:PySem.W.Frag)(T:String)(r:V->List V->Hp->VK->Prop)(to:TE)(t:TA):TE:=fun σ H Q=>to σ H fun x H1=>DD K T x H1/\t σ H1 fun xs H2=>r x xs H2 Q
variable {o e:Expr}{es:List Expr}{to:TE}{t:TA}{name:Str}{apos cpos:Pos}{T id:String}{r:V->List V->Hp->VK->Prop}
theorem oG (pa:PlainAttrs T) (slot:Slot T name id) (hty:typeOf (.builtin id)=pure (.type "method_descriptor")) (hm:CV X id r) (ho:PE X o to) (ha:PA X (e::es) t)
 (hbase:autoParam (attributeBase o name X.env (eval o X.env)=eval o X.env) autoR._auto_1)
 (hfew:autoParam (((backTo cpos (starEach (e::es) X.env)).all (fun x=>!x.1)&&(backToKw cpos (keywordEach [] X.env)).all (fun x=>x.1.isSome)
   && decide ((e::es).length+([]:List Keyword).length+(if ([]:List Keyword).isEmpty then 0 else 1)<30))=true) autoR._auto_1)
 (hline:autoParam ((apos.endLine==cpos.line)=true) autoR._auto_1) (hs:autoParam (starEach (e::es) X.env=(false,eval e X.env)::starEach es X.env) autoR._auto_1) (hplain:autoParam ((backTo cpos (starEach es X.env)).any (·.1)=false) autoR._auto_1) :
 PE X (.Call (.Attribute o name apos) (e::es) [] cpos) (DV X.K T r to t):=by
 intro pins s σ H Q I h
 refine wpAny_Call_method_late hbase hfew hline rfl (b7 (ho pins s σ H _ I h) fun v s1 ⟨x,H1,I1,r1,ty,q1⟩=>?_)
 obtain⟨h1,h2⟩:=yk I1 r1 ty
 refine⟨T,id,pa,slot,hty,h1,h2,?_⟩
 have hA:=ha cpos pins s1 σ H1 _ I1 q1
 rw[hs]at hA ⊢
 refine Calls.callWith_builtin (by show(false || (backTo cpos (starEach es X.env)).any (·.1))=false;rw[hplain]<;>rfl) (Calls.evalArgs_plain ?_)
 exact b7 hA fun us s2 ⟨vs,H2,I2,r2,q2⟩=>hm pins s2 σ H2 x vs v us Q I2 r1 r2 q2
end
end L2
namespace L2
open PySem PySem.Spec PyProof.Rows
noncomputable def DW (X:Cx)(id:String)(r:V->List V->Hp->VK->Prop):Prop:=
 ∀(pins:List (Addr×Obj))(s:Shared)(σ:St)(H:Hp)(x:V)(xs:List V)(v:Value)(us:List Value)(Q:VK),Inv X pins σ H s->RelV x v->Vals xs us->r x xs H Q->
  wpAny (model X.prog X.w) X.A (call (.builtin id) (v::us)) (EP X pins σ Q) X.xe s
theorem Vals.one:∀{x:V}{us:List Value},Vals [x] us->∃ u,us=[u]/\RelV x u
 |_,_,.cons r .nil=>⟨_,rfl,r⟩
theorem Vals.zero:∀{us:List Value},Vals [] us->us=[]
 |_,.nil=>rfl
theorem Vals.rep {xs:List V}{us:List Value}(h:Vals xs us):∀ k:Nat,Vals (List.replicate k xs).flatten (List.replicate k us).flatten
 |0=>.nil
 |k+1=>by
  rw[List.replicate_succ,List.replicate_succ,List.flatten_cons,List.flatten_cons]
  exact Vals.append h (Vals.rep h k)
section
variable {X:Cx}{pins:List (Addr×Obj)}{σ:St}{H:Hp}{s:Shared}{l b:Addr}{xs ys zs:List V}
theorem Inv.lset {its its':List Value}{n:Nat}{f:Array Value->Array Value}{t':Nat}(I:Inv X pins σ H s)(hH:H l=some (.lst xs))
 (e:s.heap.get? l=some { cls:=.type "list",data:=.seq its.toArray n }) (hf:f its.toArray=its'.toArray) (hv:Vals ys its') (hz:ys.length<=sizeLine) :
 Inv X pins σ (bf H l (.lst ys)) { s with heap:=s.heap.update l (Obj.mapSeq f),toks:=t' }:=by
 have q:=PySem.IsL.update e f
 rw[hf]at q
 refine I.write (x:=l) (e:=l) (by rw[hH];exact trivial) (.inl rfl) (fun b' u hb hu=>(Heap.get?_update_other s.heap (Obj.mapSeq f) (Ne.symm hb)).trans hu) ⟨_,q⟩ ?_
 exact⟨hz,its',_,hv,q⟩
theorem Inv.lnew {its:List Value}{t':Nat}(I:Inv X pins σ H s)(hv:Vals ys its)(hz:ys.length<=sizeLine) :
 Inv X pins σ (bf H s.heap.objs.size (.lst ys)) { s with heap:=s.heap.push { cls:=.type "list",data:=.seq its.toArray },toks:=t' }:=
 I.laid (fun _ _ q=>Heap.get?_push_of_some _ q) (Nat.le_refl _) ⟨hz,its,0,hv,Heap.get?_push_size _ rfl⟩
theorem Inv.fresh (I:Inv X pins σ H s):H s.heap.objs.size=none:=I.hok.fresh (Nat.le_refl _)
theorem Inv.lstM (I:Inv X pins σ H s) (hH:H l=some (.lst xs)):xs.length<=sizeLine/\∃(its:List Value)(n:Nat),Vals xs its/\xs.length=its.length/\s.heap.get? l=some { cls:=.type "list",data:=.seq its.toArray n }:=by
 obtain⟨z,its,n,r,e⟩:=I.hok l _ hH
 exact⟨z,its,n,r,r.length,e⟩
end
section
variable {X:Cx}
noncomputable def u_:V->List V->Hp->VK->Prop:=fun x vs H Q=>∃ l xs y,x=.ref l/\vs=[y]/\H l=some (.lst xs)/\xs.length<sizeLine/\Q .non (bf H l (.lst (xs++[y])))
theorem ig:DW X "list.append" u_:=by
 intro pins s σ H x vs v us Q I rx rv h
 obtain⟨l,xs,y,rfl,rfl,hH,hz,q⟩:=h
 cases rx
 obtain⟨u,rfl,ru⟩:=rv.one
 obtain⟨z,its,n,r,hl,e⟩:=I.lstM hH
 refine call_meets F.slot_list_append ⟨_,e,rfl⟩ F.entry_list_append (F.args_list_append_2 _ _) (PySem.list_append l its.toArray n u (by rw[List.size_toArray];omega)) ⟨e,?_⟩
 refine⟨.non,_,I.lset (its':=its++[u]) hH e (by simp) (r.append (.cons ru .nil)) ?_,rfl,q⟩
 rw[List.length_append,List.length_singleton]
 omega
end
section
variable {prog:Program}{w:World}{A:Around}{E:Value->Shared->Prop}{s:Shared}
end
section
variable {X:Cx}
end
end L2
namespace L2
open PySem PySem.Spec PyProof.Rows
section
variable {κ:Type}[DecidableEq κ]
noncomputable def ii (kvs:List (κ×V))(k:κ):Option V:=(kvs.find? fun kv=>decide (kv.1=k)).map (·.2)
noncomputable def iS (kvs:List (κ×V))(k:κ)(v:V):List (κ×V):=
 if (kvs.any fun kv=>decide (kv.1=k))=true then kvs.map (fun kv=>if kv.1=k then (kv.1,v) else kv) else kvs++[(k,v)]
theorem gx {p:κ×V}{r:List (κ×V)}{k:κ}(e:p.1=k):ii (p::r) k=some p.2:=by simp[ii,List.find?_cons,e]
theorem gy {p:κ×V}{r:List (κ×V)}{k:κ}(e:¬ p.1=k):ii (p::r) k=ii r k:=by simp[ii,List.find?_cons,e]
theorem mI (k:κ):∀ kvs:List (κ×V),(kvs.any fun kv=>decide (kv.1=k))=(ii kvs k).isSome
 | []=>rfl
 |p::r=>by
  rw[List.any_cons]
  by_cases e:p.1=k
  ·simp only[gx e,decide_eq_true e,Bool.true_or,Option.isSome_some]
  ·rw[gy e,decide_eq_false e,Bool.false_or];exact mI k r
theorem RelO.isSome_eq {o:Option V}{u:Option Value}(r:RelO o u):o.isSome=u.isSome:=by
 cases o with
 |none=>cases u with
  |none=>rfl
  |some _=>exact(show False from r).elim
 |some _=>cases u with
  |none=>exact(show False from r).elim
  |some _=>rfl
theorem KV.val {kvs:List (κ×V)}{vs:List (κ×Value)}(r:KV kvs vs)(k:κ):RelO (ii kvs k) (valueAt vs k):=by
 unfold KV at r
 induction r with
 |nil=>exact True.intro
 | @cons p q ps qs h t ih=>
  obtain⟨h1,h2⟩:=h
  by_cases e:p.1=k
  ·have e':q.1=k:=h1.symm.trans e
   have b:valueAt (q::qs) k=some q.2:=by simp[valueAt,List.find?_cons,e']
   rw[gx e,b];exact h2
  ·have e':¬ q.1=k:=fun z=>e (h1.trans z)
   have b:valueAt (q::qs) k=valueAt qs k:=by simp[valueAt,List.find?_cons,e']
   rw[gy e,b];exact ih
theorem KV.any {kvs:List (κ×V)}{vs:List (κ×Value)}(r:KV kvs vs)(k:κ):(kvs.any fun kv=>decide (kv.1=k))=vs.any fun kv=>decide (kv.1=k):=by
 unfold KV at r
 induction r with
 |nil=>rfl
 |cons h t ih=>rw[List.any_cons,List.any_cons,ih,h.1]
theorem KV.repl {kvs:List (κ×V)}{vs:List (κ×Value)}(r:KV kvs vs)(k:κ){y:V}{u:Value}(ry:RelV y u) :
 KV (kvs.map fun kv=>if kv.1=k then (kv.1,y) else kv) (vs.map fun kv=>if kv.1=k then (kv.1,u) else kv):=by
 unfold KV at r ⊢
 induction r with
 |nil=>exact .nil
 | @cons p q ps qs h t ih=>
  rw[List.map_cons,List.map_cons]
  refine .cons ?_ ih
  obtain⟨h1,h2⟩:=h
  by_cases e:p.1=k
  ·rw[if_pos e,if_pos (h1.symm.trans e)];exact⟨h1,ry⟩
  ·rw[if_neg e,if_neg (fun z=>e (h1.trans z))];exact⟨h1,h2⟩
theorem KV.put {kvs:List (κ×V)}{vs:List (κ×Value)}(r:KV kvs vs)(k:κ){y:V}{u:Value}(ry:RelV y u):KV (iS kvs k y) (stored vs k u):=by
 unfold iS stored
 rw[r.any k]
 by_cases e:(vs.any fun kv=>decide (kv.1=k))=true
 ·rw[if_pos e,if_pos e];exact r.repl k ry
 ·rw[if_neg e,if_neg e];exact Paired.snoc r ⟨rfl,ry⟩
theorem KV.keys {kvs:List (κ×V)}{vs:List (κ×Value)}(r:KV kvs vs):kvs.map (·.1)=vs.map (·.1):=by
 unfold KV at r
 induction r with
 |nil=>rfl
 |cons h t ih=>rw[List.map_cons,List.map_cons,ih,h.1]
theorem KV.length {kvs:List (κ×V)}{vs:List (κ×Value)}(r:KV kvs vs):kvs.length=vs.length:=Paired.length r
end
theorem ji {P:Program}{w:World}{k:Key}{u:Value}(r:RelV (kV k) u):(aV P w).is k u=true:=by
 cases k with
 |inl i=>obtain⟨t,e⟩:=(show ∃ t,u=Value.int i t from r);subst e;exact my P w i t
 |inr x=>obtain⟨t,e⟩:=(show ∃ t,u=Value.str x t from r);subst e;exact eY P w x t
theorem kG {P:Program}{w:World}:∀{ks:List Key}{us:List Value},Vals (ks.map kV) us->ItemsAre (aV P w) ks us
 | [],_,r=>by rw[List.map_nil]at r;cases r;exact .nil
 |k::ks,_,r=>by
  rw[List.map_cons]at r
  cases r with
  |cons h t=>exact .cons (ji h) (kG t)
noncomputable abbrev KT (H:Hp):List (List Key×V)->List (List Key×Addr×Value)->Prop:=Paired fun p q=>p.1=q.1/\H q.2.1=some (.tup (p.1.map kV))/\RelV p.2 q.2.2
theorem KT.val {H:Hp}{kvs:List (List Key×V)}{xs:List (List Key×Addr×Value)}(r:KT H kvs xs)(k:List Key):RelO (ii kvs k) ((atKey xs k).map (·.2)):=by
 induction r with
 |nil=>exact True.intro
 | @cons p q ps qs h t ih=>
  obtain⟨h1,_,h2⟩:=h
  by_cases e:p.1=k
  ·have e':q.1=k:=h1.symm.trans e
   have b:atKey (q::qs) k=some q.2:=by simp[atKey,List.find?_cons,e']
   rw[gx e,b];exact h2
  ·have e':¬ q.1=k:=fun z=>e (h1.trans z)
   have b:atKey (q::qs) k=atKey qs k:=by simp[atKey,List.find?_cons,e']
   rw[gy e,b];exact ih
theorem KT.repl {H:Hp}{kvs:List (List Key×V)}{xs:List (List Key×Addr×Value)}(r:KT H kvs xs)(k:List Key){y:V}{u:Value}(ry:RelV y u) :
 KT H (kvs.map fun kv=>if kv.1=k then (kv.1,y) else kv) (xs.map (putAt k u)):=by
 induction r with
 |nil=>exact .nil
 | @cons p q ps qs h t ih=>
  rw[List.map_cons,List.map_cons]
  refine .cons ?_ ih
  obtain⟨h1,h2,h3⟩:=h
  unfold putAt
  by_cases e:p.1=k
  ·rw[if_pos e,if_pos (h1.symm.trans e)];exact⟨h1,h2,ry⟩
  ·rw[if_neg e,if_neg (fun z=>e (h1.trans z))];exact⟨h1,h2,h3⟩
theorem KT.put {H:Hp}{kvs:List (List Key×V)}{xs:List (List Key×Addr×Value)}(r:KT H kvs xs)(k:List Key){b:Addr}{y:V}{u:Value}(hb:H b=some (.tup (k.map kV)))(ry:RelV y u) :
 KT H (iS kvs k y) (storedH xs k b u):=by
 have e:(kvs.any fun kv=>decide (kv.1=k))=(atKey xs k).isSome:=by
  rw[mI,(r.val k).isSome_eq,Option.isSome_map]
 unfold iS storedH
 rw[e]
 by_cases q:(atKey xs k).isSome=true
 ·rw[if_pos q,if_pos q];exact r.repl k ry
 ·rw[if_neg q,if_neg q];exact Paired.snoc r ⟨rfl,hb,ry⟩
section
variable {P:Program}{w:World}{H:Hp}{h:Heap}{a:Addr}
theorem rM {u:HO}(ok:HOk P w H h)(e:Rd H a u):ObjOk P w H h a u:=e.ok ok
theorem rN {kvs:List (Key×V)}(ok:HOk P w H h)(e:Rd H a (.dK kvs)):kvs.length<=sizeLine/\(a==sysModules)=false/\∃ vs,KV kvs vs/\h.DictOf (aV P w) a vs:=
 show ObjOk P w H h a (.dK kvs) from rM ok e
theorem jj {ks:List Key}(ok:HOk P w H h)(e:H a=some (.tup (ks.map kV))):(tupleKind (aV P w)).is h ks a:=by
 obtain⟨_,its,r,o,h1,h2,n,h3⟩:=(show ObjOk P w H h a (.tup (ks.map kV)) from ok a _ e)
 exact⟨o,its.toArray,n,h1,h2,h3,by simpa using kG r⟩
theorem rO {kvs:List (List Key×V)}(ok:HOk P w H h)(e:Rd H a (.dT kvs)):kvs.length<=sizeLine/\(a==sysModules)=false/\
 ∃ xs,KT H kvs xs/\h.DictOfH (tupleKind (aV P w)) a xs:=by
 obtain⟨z,y,xs,r,o,es,ep,h1,h2,h3,h4,h5⟩:=(show ObjOk P w H h a (.dT kvs) from rM ok e)
 refine⟨z,y,xs,r,o,es,ep,h1,h2,h3,h4,fun x hx=>?_,h5⟩
 have all:∀{l:List (List Key×V)}{m:List (List Key×Addr×Value)},KT H l m->∀ x∈m,(tupleKind (aV P w)).is h x.1 x.2.1:=by
  intro l m q
  induction q with
  |nil=>intro x hx;exact nomatch hx
  | @cons p q ps qs hq t ih=>
   intro x hx
   rcases List.mem_cons.mp hx with e|hx
   ·subst e
    exact jj ok (by rw[<- hq.1];exact hq.2.1)
   ·exact ih x hx
 exact all r x hx
end
noncomputable def DGet (H:Hp)(a:Addr)(y:V)(r:Option V):Prop:=
 (∃ kvs k,Rd H a (.dK kvs)/\y=kV k/\r=ii kvs k)\/∃ kvs k b,Rd H a (.dT kvs)/\y=.ref b/\H b=some (.tup (k.map kV))/\r=ii kvs k
noncomputable def DPut (H:Hp)(a:Addr)(y v:V)(H':Hp):Prop:=
 (∃ kvs k,H a=some (.dK kvs)/\y=kV k/\kvs.length<sizeLine/\H'=bf H a (.dK (iS kvs k v)))\/
 ∃ kvs k b,H a=some (.dT kvs)/\y=.ref b/\H b=some (.tup (k.map kV))/\kvs.length<sizeLine/\H'=bf H a (.dT (iS kvs k v))
theorem DGet.k {H:Hp}{a:Addr}{kvs:List (Key×V)}{k:Key}(e:H a=some (.dK kvs)):DGet H a (kV k) (ii kvs k):=.inl ⟨kvs,k,.inl e,rfl,rfl⟩
theorem DGet.t {H:Hp}{a b:Addr}{kvs:List (List Key×V)}{k:List Key}(e:H a=some (.dT kvs))(eb:H b=some (.tup (k.map kV))):DGet H a (.ref b) (ii kvs k):=.inr ⟨kvs,k,b,.inl e,rfl,eb,rfl⟩
theorem DPut.k {H:Hp}{a:Addr}{kvs:List (Key×V)}{k:Key}{v:V}(e:H a=some (.dK kvs))(hl:kvs.length<sizeLine):DPut H a (kV k) v (bf H a (.dK (iS kvs k v))):=.inl ⟨kvs,k,e,rfl,hl,rfl⟩
theorem DPut.t {H:Hp}{a b:Addr}{kvs:List (List Key×V)}{k:List Key}{v:V}(e:H a=some (.dT kvs))(eb:H b=some (.tup (k.map kV)))(hl:kvs.length<sizeLine) :
 DPut H a (.ref b) v (bf H a (.dT (iS kvs k v))):=.inr ⟨kvs,k,b,e,rfl,eb,hl,rfl⟩
section
variable {X:Cx}{pins:List (Addr×Obj)}{σ:St}{H:Hp}{s:Shared}{a:Addr}{y v:V}{u r:Value}{o:Option V}{A:Around}{E:Value->Shared->Prop}
theorem CY {Q:Value->Shared->Prop}(hu:A.units+1<cLine)(I:Inv X pins σ H s)(g:DGet H a y o)(ry:RelV y u)(h:∀ s',Inv X pins σ H s'->Q (.bool o.isSome) s') :
 wpAny (model X.prog X.w) A (compareOp .In u (.ref a)) Q E s:=by
 rcases g with⟨kvs,k,e,ey,l⟩|⟨kvs,k,b,e,ey,eb,l⟩
 ·subst ey
  obtain⟨z,hd,vs,rel,dd⟩:=rN I.hok e
  refine wpAny_in_of (ji ry) hd dd.mapOf ?_
  rw[<- (rel.val k).isSome_eq,<- l]
  exact h _ (I.tok _)
 ·subst ey
  cases (show u=Value.ref b from ry)
  obtain⟨z,hd,xs,rel,dd⟩:=rO I.hok e
  refine wpAny_in_heap (tupleKind_room_in1 hu) (jj I.hok eb) hd dd ?_
  have q:=(rel.val k).isSome_eq
  rw[Option.isSome_map]at q
  rw[<- q,<- l]
  exact h _ (I.tok _)
theorem vb {Q:Value->Shared->Prop}(hu:A.units+1<cLine)(I:Inv X pins σ H s)(g:DGet H a y o)(ry:RelV y u)(h:∀ s',Inv X pins σ H s'->Q (.bool (!o.isSome)) s') :
 wpAny (model X.prog X.w) A (compareOp .NotIn u (.ref a)) Q E s:=by
 rcases g with⟨kvs,k,e,ey,l⟩|⟨kvs,k,b,e,ey,eb,l⟩
 ·subst ey
  obtain⟨z,hd,vs,rel,dd⟩:=rN I.hok e
  refine wpAny_notIn_of (ji ry) hd dd.mapOf ?_
  rw[<- (rel.val k).isSome_eq,<- l]
  exact h _ (I.tok _)
 ·subst ey
  cases (show u=Value.ref b from ry)
  obtain⟨z,hd,xs,rel,dd⟩:=rO I.hok e
  refine wpAny_notIn_heap (tupleKind_room_in1 hu) (jj I.hok eb) hd dd ?_
  have q:=(rel.val k).isSome_eq
  rw[Option.isSome_map]at q
  rw[<- q,<- l]
  exact h _ (I.tok _)
end
section
variable {X:Cx}{pins:List (Addr×Obj)}{σ:St}{H:Hp}{s:Shared}{a:Addr}{kvs:List (Key×V)}{k:Key}{u:Value}{A:Around}{E:Value->Shared->Prop}
end
noncomputable def ym (i:Expr):Prop:=∀ ov iv,subscripted i false ov iv=operate [ov,iv] (getItem ov iv)
theorem vc {prog:Program}{w:World}{A:Around}{E:Value->Shared->Prop}{s:Shared}{env:Env}{value slice:Expr}{pos:Pos}{T id:String}{Q:Value->Shared->Prop}
 (hl:typeLookup (.type T) "__getitem__"=pure (some (.builtin id))) (hs:ym slice)
 (h:wpAny (model prog w) A (eval value env) (fun o s₁=>wpAny (model prog w) A (eval slice env) (fun i s₂=>s₂.TypeIs o T/\wpAny (model prog w) A (getItem o i) Q E s₂) E s₁) E s) :
 wpAny (model prog w) A (eval (.Subscript value slice pos) env) Q E s:=by
 refine Subscript_ (wpAny_mono h (fun o s₁ h₁=>wpAny_mono h₁ (fun i s₂ h₂=>?_) fun _ _ x=>x) fun _ _ x=>x)
 obtain⟨hT,h₂⟩:=h₂
 unfold subscriptTail
 refine wpAny_bind ?_
 rw[getitemInPython_of_ne hT.not_modules]
 refine wpAny_bind (wpAny_specialOf hT hl ?_)
 have fin:wpAny (model prog w) A (subscripted slice false o i) (fun r s₃=>wpAny (model prog w) A (letTemporaryGo value o r >>= fun _=>pure r) Q E s₃) E s₂:=by
  rw[hs o i]
  exact wpAny_operating (wpAny_mono h₂ (fun r s₃ h₃=>wpAny_bind (wpAny_letTemporaryGo (wpAny_pure h₃))) fun _ _ x=>x)
 first
  |exact wpAny_pure (wpAny_bind fin)
  |exact wpAny_bind (wpAny_pure (wpAny_bind fin))
  |exact wpAny_bind fin
section
variable {X:Cx}{o i e value:Expr}{pos pos' mr:Pos}{td ty tv:TE}
end
section
variable {X:Cx}{pos:Pos}
end
structure M1 (X:Cx) (o:Expr) (m:Str) (apos:Pos) (e:Expr) (cpos:Pos):Prop where
 base:attributeBase o m X.env (eval o X.env)=eval o X.env
 few:((backTo cpos (starEach [e] X.env)).all (fun x=>!x.1)&&(backToKw cpos (keywordEach [] X.env)).all (fun x=>x.1.isSome)
  && decide (([e]:List Expr).length+([]:List Keyword).length+(if ([]:List Keyword).isEmpty then 0 else 1)<30))=true
 line:(apos.endLine==cpos.line)=true
 trees:backTo cpos (starEach [e] X.env)=[(false,eval e X.env)]
structure M2 (X:Cx) (o:Expr) (m:Str) (apos:Pos) (e f:Expr) (cpos:Pos):Prop where
 base:attributeBase o m X.env (eval o X.env)=eval o X.env
 few:((backTo cpos (starEach [e,f] X.env)).all (fun x=>!x.1)&&(backToKw cpos (keywordEach [] X.env)).all (fun x=>x.1.isSome)
  && decide (([e,f]:List Expr).length+([]:List Keyword).length+(if ([]:List Keyword).isEmpty then 0 else 1)<30))=true
 line:(apos.endLine==cpos.line)=true
 trees:backTo cpos (starEach [e,f] X.env)=[(false,eval e X.env),(false,eval f X.env)]
noncomputable def DE (H:Hp)(a:Addr):Prop:=(∃ kvs,Rd H a (.dK kvs))\/∃ kvs,Rd H a (.dT kvs)
theorem yn {X:Cx}{pins:List (Addr×Obj)}{σ:St}{H:Hp}{s:Shared}{a:Addr}(I:Inv X pins σ H s)(d:DE H a) :
 s.TypeIs (.ref a) "dict"/\(∀ b,Value.ref a=.ref b->∃ ob,s.heap.get? b=some ob/\ob.dict=none)/\(a==sysModules)=false:=by
 rcases d with⟨kvs,e⟩|⟨kvs,e⟩
 ·obtain⟨_,hd,vs,_,dd⟩:=rN I.hok e
  refine⟨dd.typeIs,fun b q=>?_,hd⟩
  cases q
  obtain⟨ob,_,_,h1,h2,_⟩:=dd
  exact⟨ob,h1,h2.2.1⟩
 ·obtain⟨_,hd,xs,_,dd⟩:=rO I.hok e
  refine⟨dd.typeIs,fun b q=>?_,hd⟩
  cases q
  obtain⟨ob,_,_,h1,h2,_⟩:=dd
  exact⟨ob,h1,h2.2.1⟩
section
variable {X:Cx}{pins:List (Addr×Obj)}{σ:St}{H:Hp}{s:Shared}{a:Addr}{y d:V}{u r:Value}{o:Option V}{A:Around}{E:Value->Shared->Prop}
end
section
variable {X:Cx}{o e f:Expr}{apos cpos:Pos}{td ty tx:TE}
end
section
variable {X:Cx}{pins:List (Addr×Obj)}{σ:St}{H:Hp}{s:Shared}{a:Addr}{kvs:List (Key×V)}{A:Around}{E:Value->Shared->Prop}
end
section
variable {X:Cx}{pins:List (Addr×Obj)}{σ:St}{H:Hp}{s:Shared}{a:Addr}{y:V}{u:Value}{A:Around}{E:Value->Shared->Prop}
end
end L2
namespace Att
open PySem PySem.W PySem.Calls PyProof.Rows
theorem iT {P:Params}{h:Heap}:∀(ns:List Int)(vs:List Value),WellAll P h vs (ns.map WData.int)->IntsAre vs ns:=by
 intro ns
 induction ns with
 |nil=>
  intro vs w
  rw[List.map_nil]at w
  cases w
  exact .nil
 |cons n ns ih=>
  intro vs w
  rw[List.map_cons]at w
  cases w with
  |cons a b=>
   cases a
   exact .cons _ _ (ih _ b)
theorem pQ {l:OpenLaw}{n:Nat}(hn:l.most=some n){P:Params}{h:Heap}{args:List WData}{vals:List Value}
 (hpre:l.row.toRowW.claim.pre args=true) (hwl:WellAll P h vals args) :
 ∃ a vs ns,vals=[Value.ref a]/\args=[WData.list (ns.map WData.int)]/\h.get? a=some { cls:=.type "list",data:=.seq vs.toArray }/\IntsAre vs ns/\ns.length<=n:=by
 have hsh:WShape.hasAll [] args [.list .int]=true:=(pre_splitW hpre).1
 have hc:l.pre.holds [] { args:=args }=true:=(pre_splitW hpre).2
 obtain⟨d,r,rfl,h1,h2⟩:=hasAllW_cons hsh
 obtain rfl:=hasAllW_nil h2
 obtain⟨xs,rfl,h3⟩:=hasW_list h1
 obtain⟨ns,rfl⟩:=items_int h3
 have bA:ns.length<=n:=by
  unfold OpenLaw.pre at hc
  have h4:(WTm.not (.lt (.lit (.int (n:Int))) (.len (.arg 0)))).holds [] { args:=[.list (ns.map .int)] }=true:=by
   have h4:=(holds_andW hc).1
   rw[hn]at h4
   exact h4
  have h5:=condW_of h4 (w_not (w_lt w_lit (w_len_list (w_arg rfl))))
  rw[List.length_map]at h5
  refine Nat.le_of_not_lt fun q=>?_
  have q':(n:Int)<((ns.length:Nat):Int):=by omega
  first
   |(rw[decide_eq_true q']at h5;exact absurd h5 (by decide))
   |(simp at h5;omega)
 cases hwl with
 |cons w1 w2=>
  cases w2
  cases w1 with
  |list ho hall=>exact⟨_,_,ns,rfl,rfl,ho,iT ns _ hall,bA⟩
theorem pR (l:OpenLaw)(args:List WData):l.row.toRowW.claim.post args (.bool true) args=true:=
 postW_of (r:=l.row.toRowW) (X:=(true==true))
  (show WShape.has [] (.bool true) .bool=true by first|rfl|decide|simp[WShape.has,WShape.arms,WShape.armsAll])
  (show(WTm.eq .res (.lit (.bool true))).value [] { args:=args,res:=some (.bool true),after:=args }=some (.bool (true==true)) from w_eq_bool (w_res rfl) w_lit) rfl
theorem attach_call {l:OpenLaw}{n:Nat}{q:Program}{loose:List Str}{XP:(Str->Option Value)->Heap->Prop}{YP:World->Heap->Prop}{d:DefRec}
 (hn:l.most=some n) (hdf:d.params.defaults=[])
 (call:∀(w:World)(s₀ s₁:Shared)(mg mb:Str->Option Value)(fa:Addr)(o:Obj)(pm cd doc:Value)(a:Addr)(vs:List Value)(ns:List Int),
   Ground q loose [] XP w s₀ mg mb s₁.heap->YP w s₁.heap->
   s₁.heap.get? fa=some o->o.data=.func (docDef d.name d.params d.body d.scope pm cd doc)->s₁.heap.CodeRec cd d.name->mg d.name=some (.ref fa)->
   s₁.heap.get? a=some { cls:=.type "list",data:=.seq vs.toArray }->IntsAre vs ns->ns.length<=n->s₁.gens=#[]->
   codeAny (model l.prog w) callerA (.call (.ref fa) ⟨[.ref a],[]⟩) (fun r s'=>r=.ok (.ret (.bool true))/\OldK s₁.heap s'.heap/\s'.os=s₁.os/\AllBare s'.gens) s₁) :
 WalkO q loose XP YP l.row.toRowW d [] (fun f vs=>PySem.call f vs):=by
 intro w s₀ s₁ mg mb G Y fa o pm cd doc dV kV ho hd hcd hD hmg hg args vals as hpre hlay hrd hwl hlo
 obtain rfl:dV=.none:=Dflts.none hD hdf
 obtain rfl:kV=.none:=Dflts.noKw hD
 obtain⟨a,vs,ns,rfl,rfl,hobj,hints,bA⟩:=pQ hn hpre hwl
 refine enter_call (codeAny_mono (call w s₀ s₁ mg mb fa o pm cd doc a vs ns G Y ho (fd_plain hd) hcd hmg hobj hints bA hg) fun r s' hq=>?_)
 obtain⟨rfl,h2,h3,h4⟩:=hq
 exact⟨.inl ⟨.bool true,.bool true,[],rfl,fun _=>rfl,.bool true,pR l _,fun _=>⟨List.Pairwise.nil,fun _ hm=>(nomatch hm)⟩⟩,h2,h3,h4⟩
section
variable {prog:Program}{w:World}{A:Around}{E:Value->Shared->Prop}{s:Shared}{K:Frag}
end
end Att
namespace L2
open PySem PySem.Spec PyProof.Rows
end L2
namespace L2
open PySem PySem.Spec PyProof.Rows
noncomputable def defArgs (s:Stmt):Arguments:=match s with
 | .FunctionDef _ a _ _ _ _ _ _ _ _=>a
 |_=>{ posonlyargs:=[],args:=[],vararg:=none,kwonlyargs:=[],kw_defaults:=[],kwarg:=none,defaults:=[] }
noncomputable def defBody (s:Stmt):List Stmt:=match s with
 | .FunctionDef _ _ b _ _ _ _ _ _ _=>b
 |_=>[]
noncomputable def defScope (s:Stmt):Scope:=match s with
 | .FunctionDef _ _ _ _ _ _ sc _ _ _=>sc
 |_=>{ kind:=.function,names:=[],isGenerator:=false,isCoroutine:=false }
noncomputable abbrev DF:CXT:=fun _ _ _ _ _ _=>False
noncomputable abbrev E0:XK:=fun _ _ _=>False
structure Fun (K:PySem.W.Frag) (x qual:Str) (st:Stmt) (f:Addr) (fd:FuncData):Prop where
 ex:∃(oc:Value)(od:Option Addr)(kV doc pm:Value)(an:Option Addr)(cdv ct:Value)(osl:Array (Option Value)),
  fd=PySem.W.fnOf x qual (defArgs st) (defBody st) (defScope st) .none kV doc pm an cdv ct/\K.lookup f=some ⟨oc,od,.func fd,osl⟩/\PySem.W.codeIn K cdv qual=true
 kp:PySem.W.keepIn K (.ref f)=true
section
variable {P:Program}{w:World}{K:PySem.W.Frag}{mg:Str->Option Value}{base:Heap}
theorem Fun.ok {x qual:Str}{st:Stmt}{f:Addr}{fd:FuncData}{N ps:List Str}{k:Nat}{sp:Sp}(F:Fun K x qual st f fd)(S:FnScope N ps (defScope st))(len:∀ vs H Q E,sp vs H Q E->vs.length=ps.length)
 (hbody:∀(cdv:Value)(A:Around)(outer:List Env)(s:Shared)(H:Hp)(vs:List V)(Q:VK)(E:XK),Room k (A.deeper (envOfC qual (defScope st) s.heap.objs.size f cdv))->sp vs H Q E->
   ∃ t,PSs (nP DF P w K mg base N qual (defScope st) f cdv A outer s H E).nox (defBody st) t/\t { nx:=fun _ H'=>Q .non H',rt:=Q } (eI N vs) H):FnOk P w K mg base DF (k+1) f fd ps sp:=by
 obtain⟨oc,od,kV,doc,pm,an,cdv,ct,osl,rfl,lk,hcd⟩:=F.ex
 refine w4 lk hcd S len fun A outer s H vs Q E hr hsp=>?_
 obtain⟨t,h,q⟩:=hbody cdv A outer s H vs Q E hr hsp
 exact⟨t,h.nox,q⟩
theorem Fun.binds {x qual:Str}{st:Stmt}{f:Addr}{fd:FuncData}{ps:List Str}(F:Fun K x qual st f fd)
 (h:∀(kV doc pm:Value)(an:Option Addr)(cdv ct:Value)(us:List Value),us.length=ps.length->bindArgs (PySem.W.fnOf x qual (defArgs st) (defBody st) (defScope st) .none kV doc pm an cdv ct) ⟨us,[]⟩=pure (ps.zip us)):Binds K fd ps []:=by
 obtain⟨oc,od,kV,doc,pm,an,cdv,ct,osl,rfl,lk,hcd⟩:=F.ex
 exact .all (h kV doc pm an cdv ct)
theorem ax {x qual:Str}{st:Stmt}{f:Addr}{oc:Value}{od an:Option Addr}{osl:Array (Option Value)}{kV doc pm cdv ct:Value}(l:K.lookup f=some ⟨oc,od,.func (PySem.W.fnOf x qual (defArgs st) (defBody st) (defScope st) .none kV doc pm an cdv ct),osl⟩)
 (c:PySem.W.codeIn K cdv qual=true) (k:PySem.W.keepIn K (.ref f)=true):Fun K x qual st f (PySem.W.fnOf x qual (defArgs st) (defBody st) (defScope st) .none kV doc pm an cdv ct):=⟨⟨oc,od,kV,doc,pm,an,cdv,ct,osl,rfl,l,c⟩,k⟩
end
section
variable {X:Cx}
theorem pv (i:Nat) {x:Str} {pos:Pos} (hN:autoParam (X.N[i]?=some x) autoR._auto_1) (hv:autoParam (Vis X.env.scope x) autoG._auto_1) (hd:autoParam ((x==("__debug__" : Str))=false) autoD._auto_1)
 (hcd:autoParam ((x==("__classdict__" : Str))=false) autoD._auto_1):PE X (.Name x pos) (mF i):=xN hN hv hd hcd
end
theorem mJ {A B:Prop}(h:B):if false=true then A else B:=by
 rw[if_neg Bool.false_ne_true]
 exact h
theorem ly {A B:Prop}(h:A):if true=true then A else B:=by
 rw[if_pos rfl]
 exact h
noncomputable def Same (H H':Hp):Prop:=∀ b o,H b=some o->H' b=some o
theorem Same.refl (H:Hp):Same H H:=fun _ _ h=>h
theorem Same.trans {H H1 H2:Hp}(a:Same H H1)(b:Same H1 H2):Same H H2:=fun c o h=>b c o (a c o h)
theorem Same.free {H H':Hp}(e:Same H H'){l:Addr}(h:H' l=Option.none):H l=Option.none:=by
 cases q:H l with
 |none=>rfl
 |some o=>
  rw[e l o q]at h
  cases h
section
variable {κ:Type}[DecidableEq κ]
end
end L2
set_option autoImplicit false
namespace L2
open PySem PySem.Spec PyProof.Rows
noncomputable def fR (P:Program)(w:World):CXT:=fun outer H s E e s'=>
 ∃(x C t:Addr)(B:Heap)(H':Hp),e=.ref x/\s'.os=s.os/\AllBare s'.gens/\Un (frs outer) [] H H' s.heap s'.heap/\HOk P w H' s'.heap/\
  Heap.FlyingW B outer x (.ref C) (.ref t) s'.heap/\(∀ b u,H' b=some u->∃ o,B.get? b=some o)/\(∀ b o,s.heap.get? b=some o->Qt H b->b∉frs outer->B.get? b=some o)/\
  (∀ b o,s.heap.get? b=some o->b∉frs outer->∃ o',B.get? b=some o')/\H' x=none/\E (.ref C) none H'
theorem kH {P:Program}{w:World}{H:Hp}{B h1 h2:Heap}(ok:HOk P w H h1)(rj:∀ b u,H b=some u->∃ o,B.get? b=some o)(s1:B.StaysIn h1)(s2:B.StaysIn h2):HOk P w H h2:=fun a o e=>
 (ok a o e).stay (fun b u hb q=>by
   have hb':∃ v,H b=some v:=hb.elim (fun z=>⟨o,by rw[z];exact e⟩) fun z=>⟨_,z⟩
   obtain⟨v,hv⟩:=hb'
   obtain⟨o',ho⟩:=rj b v hv
   have:=s1 b o' ho
   rw[q]at this
   cases this
   exact s2 b _ ho) (fun _ q=>q) fun _ _ q=>q
theorem jk {P:Program}{w:World}{H:Hp}{h:Heap}{a:Addr}:∀{o:HO},ObjOk P w H h a o->∃ ob,h.get? a=some ob
 | .lst xs,x=>by obtain⟨_,_,_,_,e⟩:=x;exact⟨_,e⟩
 | .tup xs,x=>by obtain⟨_,_,_,⟨_,e,_⟩⟩:=x;exact⟨_,e⟩
 | .dK kvs,x=>by obtain⟨_,_,_,_,o,_,_,e,_⟩:=x;exact⟨_,e⟩
 | .dT kvs,x=>by obtain⟨_,_,_,_,o,_,_,e,_⟩:=x;exact⟨_,e⟩
 | .set S n,x=>by obtain⟨o,_,_,_,e,_⟩:=x;exact⟨_,e⟩
 | .ins C dx fs,x=>by obtain⟨_,_,_,e,_⟩:=x;exact⟨_,e⟩
 | .own y,x=>x
 | .xd fs,x=>by obtain⟨_,⟨_,_,_,e,_⟩,_⟩:=x;exact⟨_,e⟩
 | .rng lo hi,x=>by obtain⟨_,_,_,e⟩:=x;exact⟨_,e⟩
 | .frz ob u,x=>by obtain⟨e,_⟩:=x;exact⟨_,e⟩
 | .tbl ps,x=>⟨_,(show h.get? a=some _ from x)⟩
 | .met f y,x=>⟨_,(show h.get? a=some _ from x)⟩
 | .ext φ,x=>x.2.1
section
variable {P:Program}{w:World}{K:PySem.W.Frag}{mg:Str->Option Value}{base:Heap}{N:List Str}{qual:Str}{scope:Scope}{f:Addr}{cd:Value}{A:Around}{outer:List Env}{s₀:Shared}{H₀:Hp}{E:XK}
noncomputable abbrev iF (P:Program)(w:World)(K:PySem.W.Frag)(mg:Str->Option Value)(base:Heap)(N:List Str)(qual:Str)(scope:Scope)(f:Addr)(cd:Value)(A:Around)(outer:List Env)(s:Shared)(H:Hp)(E:XK):Cx:=
 nP (fR P w) P w K mg base N qual scope f cd A outer s H E
theorem mK {pins:List (Addr×Obj)}{σ:St}{H:Hp}{s:Shared}(I:Inv (iF P w K mg base N qual scope f cd A outer s₀ H₀ E) pins σ H s){b:Addr}{o:Obj}(e:s₀.heap.get? b=some o)(hb:b∉frs outer) :
 b∉frs (iF P w K mg base N qual scope f cd A outer s₀ H₀ E).stack:=fun z=>by
 rcases List.mem_cons.mp (I.stkSub b z) with q|q
 ·exact absurd (Nat.lt_of_lt_of_le (Heap.lt_size e) (Nat.le_trans I.ok.above (Nat.le_of_eq q.symm))) (Nat.lt_irrefl _)
 ·exact hb q
theorem nS {b:Addr}(hb:b∈frs outer):b∈frs (iF P w K mg base N qual scope f cd A outer s₀ H₀ E).stack:=by
 show b∈frs (envOfC qual scope s₀.heap.objs.size f cd::outer)
 unfold frs
 rw[List.filterMap_cons]
 have:(envOfC qual scope s₀.heap.objs.size f cd).frame=some s₀.heap.objs.size:=rfl
 rw[this]
 exact List.mem_cons_of_mem _ hb
theorem au:jf (fR P w) (iF P w K mg base N qual scope f cd A outer s₀ H₀ E) E:=by
 intro pins σ H s e s' I h
 obtain⟨x,C,t,B,H',rfl,os,bare,un,hok,fly,rj,unt,inB,hx,hE⟩:=h
 show wpAny _ _ (leaving _ _) _ _ s'
 have nx:∀ b:Addr,b∉(iF P w K mg base N qual scope f cd A outer s₀ H₀ E).ex:=fun b z=>absurd (show b∈([]:List Addr) from z) (by simp)
 refine wpAny_leaves_onW I.ok.frames rfl fly fun h' fly' up=>?_
 have nf:∀ b,b∈frs outer->∀ o,s'.heap.get? b=some o->∀ vs,o.data≠.fields vs:=fun b hb o e=>by
  obtain⟨_,o',e',d⟩:=fly.2.2.1.mem (nS (P:=P) (w:=w) (K:=K) (mg:=mg) (base:=base) (N:=N) (H₀:=H₀) (E:=E) (A:=A) hb)
  rw[e]at e';cases e';exact d
 refine⟨x,C,t,B,H',rfl,os.trans I.os,bare,⟨fun b o e n hb _=>?_,fun b o e n hb _=>?_,fun b o e n _=>?_,fun b o e _=>?_,fun b xs q=>un.tups b xs (I.base.tups b xs q),fun b o u q=>un.frzs b o u (I.base.frzs b o u q),fun b ps q=>?_⟩,kH hok rj fly.1 fly'.1,fly',rj,fun b o e n hb=>?_,fun b o e hb=>?_,hx,hE⟩
 ·exact fly'.1 b o (unt b o (I.base.keep b o e n hb (nx b)) (n.imp (fun n=>I.base.free b o e n (nx b)) fun⟨xs,q⟩=>⟨xs,I.base.tups b xs q⟩) (mK I e hb))
 ·obtain⟨sl,e1⟩:=I.base.slot b o e n hb (nx b)
  obtain⟨sl',e2⟩:=un.slot b _ e1 (I.base.free b o e n (nx b)) (nS hb) (by simp)
  obtain⟨sl'',e3⟩:=up b _ e2 (nf b hb _ e2)
  exact⟨sl'',e3⟩
 ·obtain⟨o1,e1⟩:=I.base.there b o e (nx b)
  exact un.free b o1 e1 (I.base.free b o e n (nx b)) (by simp)
 ·obtain⟨o1,e1⟩:=I.base.there b o e (nx b)
  by_cases hb:b∈frs outer
  ·obtain⟨o2,e2⟩:=un.there b o1 e1 (by simp)
   obtain⟨sl,e3⟩:=up b _ e2 (nf b hb _ e2)
   exact⟨_,e3⟩
  ·obtain⟨o',q⟩:=inB b o1 e1 (mK I e hb)
   exact⟨o',fly'.1 b o' q⟩
 ·obtain⟨m1,e1⟩:=I.base.tbls b ps q
  obtain⟨m2,e2⟩:=un.tbls b _ e1
  exact⟨m1++m2,by rw[e2,Array.append_assoc]⟩
 ·exact unt b o (I.base.keep b o e n hb (nx b)) (n.imp (fun n=>I.base.free b o e n (nx b)) fun⟨xs,q⟩=>⟨xs,I.base.tups b xs q⟩) (mK I e hb)
 ·obtain⟨o1,e1⟩:=I.base.there b o e (nx b)
  exact inB b o1 e1 (mK I e hb)
theorem vd {pins:List (Addr×Obj)}{σ:St}{H:Hp}{s:Shared}{h':Heap}{x C:Addr}{args:List Value}(I:Inv (iF P w K mg base N qual scope f cd A outer s₀ H₀ E) pins σ H s)(hx:Heap.MadeExcOf s.heap h' x (.ref C) args)(hE:E (.ref C) none H) :
 (iF P w K mg base N qual scope f cd A outer s₀ H₀ E).xe (.ref x) { s with heap:=h' }:=by
 show wpAny _ _ (leaving _ _) _ _ _
 have nx:∀ b:Addr,b∉(iF P w K mg base N qual scope f cd A outer s₀ H₀ E).ex:=fun b z=>absurd (show b∈([]:List Addr) from z) (by simp)
 have hin:∀ env∈(iF P w K mg base N qual scope f cd A outer s₀ H₀ E).stack,∀ b,env.frame=some b->b∈frs (iF P w K mg base N qual scope f cd A outer s₀ H₀ E).stack:=fun env he b hb=>List.mem_filterMap.mpr ⟨env,he,hb⟩
 have FF:=I.stack
 refine wpAny_leaves_madeW (base:=PySem.W.hideAll s.heap (frs (iF P w K mg base N qual scope f cd A outer s₀ H₀ E).stack)) I.ok.frames rfl (fun b o q=>PySem.W.of_hideAll _ q) (PySem.W.funFrames_hide FF hin) hx fun h'' t fly _ _ up=>?_
 have inB:∀ b o,s.heap.get? b=some o->b∉frs (iF P w K mg base N qual scope f cd A outer s₀ H₀ E).stack->(PySem.W.hideAll s.heap (frs (iF P w K mg base N qual scope f cd A outer s₀ H₀ E).stack)).get? b=some o:=fun b o e hb=>PySem.W.hideAll_get _ e hb
 have rj:∀ b u,H b=some u->∃ o,(PySem.W.hideAll s.heap (frs (iF P w K mg base N qual scope f cd A outer s₀ H₀ E).stack)).get? b=some o:=fun b u e=>by
  obtain⟨o,ho⟩:=jk (I.hok b u e)
  exact⟨o,inB b o ho fun z=>by rw[I.stkFree b z]at e;cases e⟩
 have st:(PySem.W.hideAll s.heap (frs (iF P w K mg base N qual scope f cd A outer s₀ H₀ E).stack)).StaysIn s.heap:=fun b o q=>PySem.W.of_hideAll _ q
 have nf:∀ b,b∈frs outer->∀ o,s.heap.get? b=some o->∀ vs,o.data≠.fields vs:=fun b hb o e=>by
  obtain⟨_,o',e',d⟩:=FF.mem (nS (P:=P) (w:=w) (K:=K) (mg:=mg) (base:=base) (N:=N) (H₀:=H₀) (E:=E) (A:=A) hb)
  rw[e]at e';cases e';exact d
 have hxn:H x=none:=by
  cases q:H x with
  |none=>rfl
  |some u=>
   obtain⟨o,ho⟩:=jk (I.hok x u q)
   rw[hx.new]at ho;cases ho
 refine⟨x,C,t,_,H,rfl,I.os,I.bare,⟨fun b o e n hb _=>?_,fun b o e n hb _=>?_,fun b o e n _=>I.base.free b o e n (nx b),fun b o e _=>?_,I.base.tups,I.base.frzs,I.base.tbls⟩,kH I.hok rj st fly.1,fly,rj,fun b o e n hb=>?_,fun b o e hb=>?_,hxn,hE⟩
 ·exact fly.1 b o (inB b o (I.base.keep b o e n hb (nx b)) (mK I e hb))
 ·obtain⟨sl,e1⟩:=I.base.slot b o e n hb (nx b)
  obtain⟨sl',e2⟩:=up b _ (hx.keeps b _ e1) (nf b hb _ e1)
  exact⟨sl',e2⟩
 ·obtain⟨o1,e1⟩:=I.base.there b o e (nx b)
  by_cases hb:b∈frs outer
  ·obtain⟨sl,e2⟩:=up b _ (hx.keeps b _ e1) (nf b hb _ e1)
   exact⟨_,e2⟩
  ·exact⟨o1,fly.1 b o1 (inB b o1 e1 (mK I e hb))⟩
 ·exact inB b o (I.base.keep b o e n hb (nx b)) (mK I e hb)
 ·obtain⟨o1,e1⟩:=I.base.there b o e (nx b)
  exact⟨o1,inB b o1 e1 (mK I e hb)⟩
theorem jl:PassesOwn (model P w) (iF P w K mg base N qual scope f cd A outer s₀ H₀ E).A (iF P w K mg base N qual scope f cd A outer s₀ H₀ E).env (iF P w K mg base N qual scope f cd A outer s₀ H₀ E).xe:=by
 show PassesOwn _ _ _ (fun e s'=>wpAny _ _ (leaving _ e) _ _ s')
 passes_own
end
end L2
namespace L2
open PySem PySem.Spec PyProof.Rows
abbrev vMro:List Value:=[.type "ValueError",.type "Exception",.type "BaseException",.type "object"]
noncomputable def AU (h:Heap) (C:Addr) (bm:List Value):Prop:=∃ N nm q bs hdct sn sub ab col dd k0 k1 k2 k3 k5 mN,h.get? C=some (excClassObj nm q C N bs bm hdct sn sub ab col dd k0 k1 k2 k3 k5 "ValueError.__new__")/\h.Ns N mN/\mN "__init__"=none/\OwnTail h vMro bm
noncomputable def rP (K:PySem.W.Frag)(C:Addr):List Value:=match K.lookup C with
 |some ⟨_,_,.cls cd,_⟩=>cd.mro
 |_=>[]
theorem rQ {K:PySem.W.Frag} {h:Heap} {C:Addr} (X:K.In h) (q:PySem.W.excIn K C vMro "ValueError.__new__"=true):∃ bm,rP K C=.ref C::bm/\AU h C bm:=by
 have q0:=q
 unfold PySem.W.excIn at q
 unfold rP
 cases ho:K.lookup C with
 |none=>rw[ho]at q;cases q
 |some ob=>
  rw[ho]at q
  split at q
  ·rename_i dd cd sl he
   injection he with he
   subst he
   dsimp only
   split at q
   ·rename_i D bm k0 k1 k2 k3 n k5 hm hs
    rw[hm]
    simp only[Bool.and_eq_true,beq_iff_eq,Bool.not_eq_true']at q
    obtain⟨⟨⟨⟨⟨hD,hn⟩,hdel⟩,ht⟩,hok⟩,hni⟩:=q
    refine⟨bm,by rw[hD],?_⟩
    obtain⟨nm,bs,mro,ns,qn,hd,sn,sub,ab,col,del⟩:=cd
    dsimp only at hm hdel hok hni
    have es:sl=#[k0,k1,k2,k3,some (.builtin n),k5]:=by
     cases sl with
     |mk l=>simp only at hs;rw[hs]
    rw[hn]at es
    subst es
    have hC:=X _ _ ho
    rw[hdel,hm,hD]at hC
    exact⟨ns,nm,qn,bs,hd,sn,sub,ab,col,dd,k0,k1,k2,k3,k5,_,hC,.of_isNs (PySem.W.isNs_of_in X hok),PySem.W.nsMap_none_of_in X hok hni,PySem.W.tail_of_in X ht⟩
   ·cases q
  ·cases q
structure XC (K:PySem.W.Frag) (mg:Str->Option Value) (c:Str) (C:Addr):Prop where
 gl:mg c=some (.ref C)
 ex:PySem.W.excIn K C vMro "ValueError.__new__"=true
section
variable {X:Cx}{c:Str}{C:Addr}{np cpos pos:Pos}{e₀:Expr}{aQ:List Expr}{t:TA}
noncomputable def yo (t:TA)(EW:Hp->Prop):TS:=fun _ σ H=>t σ H fun vs H'=>vs.length<=sizeLine/\EW H'
theorem rR {EW:Hp->Prop}(hc:XC X.K X.mg c C)(hg:Gl X c)(hcalm:X.calm=true)(ha:PA X (e₀::aQ) t)
 (hl:∀(pins:List (Addr×Obj))(σ:St)(H:Hp)(s:Shared)(h':Heap)(x:Addr)(args:List Value),Inv X pins σ H s->Heap.MadeExcOf s.heap h' x (.ref C) args->EW H->X.xe (.ref x) { s with heap:=h' })
 (he:autoParam (starEach (e₀::aQ) X.env=(false,eval e₀ X.env)::starEach aQ X.env) autoR._auto_1) (hpl:autoParam ((backTo cpos (starEach aQ X.env)).any (·.1)=false) autoR._auto_1) (hd:autoParam ((c==("__debug__" : Str))=false) autoD._auto_1) :
 PS X (.Raise (some (.Call (.Name c np) (e₀::aQ) [] cpos)) none pos) (yo t EW):=by
 intro pins s σ H D I h
 obtain⟨bm,_,N,nm,q,bs,hdct,sn,sub,ab,col,dd,k0,k1,k2,k3,k5,mN,hC,hN,hni,TL⟩:=rQ I.ok.mod.kin hc.ex
 have fb:=PySem.F.excBase_ValueError
 refine wpAny_Raise_call_subU (C:=C) (nm:=nm) (q:=q) (N:=N) (bs:=bs) (bm:=bm) (hdct:=hdct) (sn:=sn) (sub:=sub) (ab:=ab) (col:=col) (dd:=dd) (k0:=k0) (k1:=k1) (k2:=k2) (k3:=k3) (k5:=k5) (bmB:=vMro)
  fb (by decide +kernel) fb (mN:=mN) (TL.hasType fb.hasBase) (I.ok.hd hcalm) ?_ hni (lq I hg hc.gl ⟨rfl,?_⟩ hd)
 ·rw[he]
  show(false || (backTo cpos (starEach aQ X.env)).any (·.1))=false
  rw[hpl];rfl
 ·have ha':=ha cpos pins s σ H _ I h
  rw[he]at ha' ⊢
  refine Calls.evalArgs_plain (wpAny_mono ha' (fun us s2 ⟨vs,H2,I2,r,q2⟩=>?_) fun _ _ y=>y)
  exact⟨rfl,by rw[<- r.length];exact q2.1,I2.bk _ _ hC,hN.keeps I2.bk,TL.keeps I2.bk,fun h' e hm=>hl pins σ H2 s2 h' e us I2 hm q2.2⟩
end
section
variable {M:Model}{A:Around}{E:Value->Shared->Prop}
end
end L2
namespace L2
open PySem PySem.Spec PyProof.Rows
noncomputable abbrev TX:=St->Hp->VK->XK->Prop
section
variable {X:Cx}{k:Nat}{f:Addr}{fd:FuncData}{ps:List Str}{sp:Sp}{dvs:List V}{ds:List Value}{x:Str}{p pos:Pos}{e:Expr}{es:List Expr}{t:TA}
end
section
variable {X:Cx}{pins:List (Addr×Obj)}{σ:St}{H:Hp}{s:Shared}{x:Addr}
end
section
variable {X:Cx}{hc:Str}{Ch:Addr}{np hpos pos epos:Pos}{b₀:Stmt}{suite:List Stmt}{ts:TS}{te:TX}{e:Expr}
end
end L2
namespace L2
open PySem PySem.Spec PySem.Calls PyProof.Rows
end L2
namespace L2
open PySem PySem.Spec PySem.Calls PyProof.Rows
noncomputable abbrev w6:=List Key×Addr×Value
section
variable {prog:Program}{w:World}
noncomputable abbrev tK (prog:Program)(w:World):=tupleKind (aV prog w)
noncomputable def DRaw (prog:Program)(w:World)(h:Heap)(S:Addr)(xs:List w6):Prop:=∃ o es ep,h.get? S=some o/\o.ExactDict/\o.data=.dict es ep/\es.toList=xs.map (entryOfKey (tK prog w))/\(xs.map (·.1)).Nodup
theorem ve {h h':Heap}{k:List Key}{a:Addr}(x:(tK prog w).is h k a)(e:∀ b o,h.get? b=some o->h'.get? b=some o):(tK prog w).is h' k a:=by
 obtain⟨o,items,n,h1,r⟩:=x
 exact⟨o,items,n,e _ _ h1,r⟩
theorem DRaw.of {hb h:Heap}{S:Addr}{xs:List w6}(d:DRaw prog w h S xs)(ks:∀ x∈xs,(tK prog w).is hb x.1 x.2.1)(e:∀ b o,hb.get? b=some o->h.get? b=some o):h.DictOfH (tK prog w) S xs:=by
 obtain⟨o,es,ep,h1,h2,h3,h4,h5⟩:=d
 exact⟨o,es,ep,h1,h2,h3,h4,fun x hx=>ve (ks x hx) e,h5⟩
variable {A:Around}{R:Result->Shared->Prop}{I:Addr}{fp wr:List Addr}{G:Array GenState->Array GenState->Prop}{n:Nat}{P:Nat->Value->Prop}{St:Nat->Shared->Prop}
end
end L2
namespace L2
open PySem PySem.Spec PySem.Calls PyProof.Rows
section
variable {prog:Program}{w:World}{A:Around}{E:Value->Shared->Prop}{s:Shared}
end
end L2
namespace L2
open PySem PySem.Spec PySem.Calls PyProof.Rows
section
variable {P:Program}{w:World}{H:Hp}{h:Heap}
end
section
variable {X:Cx}
end
end L2
namespace L2
open PySem PySem.Spec PySem.Calls PyProof.Rows
section
variable {X:Cx}{pins:List (Addr×Obj)}{σ:St}{H:Hp}{s:Shared}{a:Addr}
end
end L2
namespace L2
open PySem PySem.Spec PySem.Calls PyProof.Rows
noncomputable def oH (H:Hp)(a:Addr)(y:V)(r:Option V):Prop:=
 DGet H a y r\/(Rd H a (.dT [])/\(∃ k,y=kV k)/\r=none)\/(Rd H a (.dK [])/\(∃(b:Addr)(k:List Key),y=.ref b/\H b=some (.tup (k.map kV)))/\r=none)
section
variable {X:Cx}{pins:List (Addr×Obj)}{σ:St}{H:Hp}{s:Shared}{a:Addr}{y v:V}{u r:Value}{o:Option V}{A:Around}{E:Value->Shared->Prop}
theorem rS {P:Program}{w:World}{h:Heap}(x:ObjOk P w H h a (.dT [])):(a==sysModules)=false/\h.DictOf (aV P w) a []:=by
 obtain⟨z,y,xs,r,o,es,ep,h1,h2,h3,h4,h5⟩:=x
 cases r
 have e:es=#[]:=by simpa using h4
 subst e
 exact⟨y,o,#[],ep,h1,h2,h3,fun x hx=>by simp at hx,by constructor,List.nodup_nil⟩
theorem rT {P:Program}{w:World}{h:Heap}(x:ObjOk P w H h a (.dK [])):(a==sysModules)=false/\h.DictOfH (tupleKind (aV P w)) a []:=by
 obtain⟨z,y,vs,r,o,es,ep,h1,h2,h3,h4,h5⟩:=x
 cases r
 refine⟨y,o,es,ep,h1,h2,h3,?_,fun x hx=>(nomatch hx),List.nodup_nil⟩
 generalize es.toList=l at h5
 obtain⟨h5,_⟩:=h5
 cases l with
 |nil=>rfl
 |cons x r=>cases h5
theorem AV {Q:Value->Shared->Prop}(hu:A.units+1<cLine)(I:Inv X pins σ H s)(g:oH H a y o)(ry:RelV y u)(h:∀ s',Inv X pins σ H s'->Q (.bool o.isSome) s') :
 wpAny (model X.prog X.w) A (compareOp .In u (.ref a)) Q E s:=by
 rcases g with g|⟨e,⟨k,rfl⟩,rfl⟩|⟨e,⟨b,k,rfl,eb⟩,rfl⟩
 ·exact CY hu I g ry h
 ·obtain⟨y,dd⟩:=rS (e.ok I.hok)
  exact wpAny_in_of (ji ry) y dd.mapOf (h _ (I.tok _))
 ·obtain rfl:u=Value.ref b:=ry
  obtain⟨y,dd⟩:=rT (e.ok I.hok)
  exact wpAny_in_heap (tupleKind_room_in1 hu) (jj I.hok eb) y dd (h _ (I.tok _))
theorem rV {Q:Value->Shared->Prop}(hu:A.units+1<cLine)(I:Inv X pins σ H s)(g:oH H a y o)(ry:RelV y u)(h:∀ s',Inv X pins σ H s'->Q (.bool (!o.isSome)) s') :
 wpAny (model X.prog X.w) A (compareOp .NotIn u (.ref a)) Q E s:=by
 rcases g with g|⟨e,⟨k,rfl⟩,rfl⟩|⟨e,⟨b,k,rfl,eb⟩,rfl⟩
 ·exact vb hu I g ry h
 ·obtain⟨y,dd⟩:=rS (e.ok I.hok)
  exact wpAny_notIn_of (ji ry) y dd.mapOf (h _ (I.tok _))
 ·obtain rfl:u=Value.ref b:=ry
  obtain⟨y,dd⟩:=rT (e.ok I.hok)
  exact wpAny_notIn_heap (tupleKind_room_in1 hu) (jj I.hok eb) y dd (h _ (I.tok _))
end
section
variable {X:Cx}{value o i:Expr}{td ty tv:TE}{pos pos':Pos}
end
end L2
namespace L2
open PySem PySem.Spec PySem.Calls PyProof.Rows
section
variable {X:Cx}{pins:List (Addr×Obj)}{σ:St}{H:Hp}{s:Shared}{a:Addr}{y d:V}{u r:Value}{o:Option V}{A:Around}{E:Value->Shared->Prop}
end
section
variable {X:Cx}{o e f:Expr}{apos cpos:Pos}{td ty tx:TE}
end
end L2
namespace L2
open PySem PySem.Spec PySem.Calls PyProof.Rows
noncomputable def yp:HO->Prop
 | .dK _=>True
 | .dT _=>True
 |_=>False
section
variable {X:Cx}{pins:List (Addr×Obj)}{σ:St}{H H':Hp}{s:Shared}{d:Addr}{o:Obj}{u:HO}
theorem Inv.view (I:Inv X pins σ H s)(hn:∀ b,H b=none->H' b=none)(ht:∀ b xs,H b=some (.tup xs)->H' b=some (.tup xs))(hf:∀ b o u,X.H₀ b=some (.frz o u)->H' b=some (.frz o u))
 (hb:∀ b ps,H b=some (.tbl ps)->H' b=some (.tbl ps)) (hok:HOk X.prog X.w H' s.heap):Inv X pins σ H' s where
 ok:=I.ok
 os:=I.os
 bare:=I.bare
 base:=⟨I.base.keep,I.base.slot,fun b o e n hx=>hn b (I.base.free b o e n hx),I.base.there,fun b xs e=>ht b xs (I.base.tups b xs e),hf,fun b ps e=>let ⟨m,q⟩:=I.base.tbls b ps e;⟨m,hb b _ q⟩⟩
 loc:=I.loc
 cell:=I.cell
 free:=hn _ I.free
 freeC:=fun x c e=>hn c (I.freeC x c e)
 pin:=fun p hp=>let ⟨a,b,c⟩:=I.pin p hp;⟨a,hn _ b,c⟩
 hok:=hok
 len:=I.len
theorem vf {P:Program}{w:World}{h:Heap}(ok:HOk P w H h){u':HO}(hd:∃ u,H d=some u/\(∀ y,u≠.own y)/\∀ xs,u≠.tup xs)(new:ObjOk P w (bf H d u') h d u'):HOk P w (bf H d u') h:=fun b v e=>by
 obtain⟨u,hu,h1,h2⟩:=hd
 by_cases hb:b=d
 ·subst hb;rw[aL]at e;cases e;exact new
 ·rw[aq hb]at e
  refine(ok b v e).stay (fun _ _ _ q=>q) (fun c q=>?_) fun c xs q=>?_
  ·rw[aq]
   ·exact q
   ·rintro rfl;rw[hu]at q;cases q;exact h1 _ rfl
  ·rw[aq]
   ·exact q
   ·rintro rfl;rw[hu]at q;cases q;exact h2 _ rfl
theorem vg {u:HO}(h:yp u):(∀ y,u≠.own y)/\(∀ xs,u≠.tup xs)/\(∀ ps,u≠.tbl ps)/\∀ o v,u≠.frz o v:=by
 cases u<;>first|exact h.elim|exact⟨fun _ z=>(nomatch z),fun _ z=>(nomatch z),fun _ z=>(nomatch z),fun _ _ z=>(nomatch z)⟩
theorem pS {P:Program}{w:World}{h:Heap}(hu:yp u)(x:ObjOk P w H h d u)(ht:∀ b xs,H b=some (.tup xs)->H' b=some (.tup xs)):ObjOk P w H' h d u:=by
 cases u with
 |dK kvs=>exact x
 |dT kvs=>
  obtain⟨z,y,xs,r,q⟩:=x
  exact⟨z,y,xs,Paired.mapP r fun p q z=>⟨z.1,ht _ _ z.2.1,z.2.2⟩,q⟩
 |_=>exact hu.elim
theorem Inv.frz (I:Inv X pins σ H s)(e:H d=some u)(hu:yp u)(ho:s.heap.get? d=some o):Inv X pins σ (bf H d (.frz o u)) s:=by
 obtain⟨n1,n2,n3,n4⟩:=vg hu
 have ht:∀ b xs,H b=some (.tup xs)->bf H d (.frz o u) b=some (.tup xs):=fun b xs q=>by
  rw[aq]
  ·exact q
  ·rintro rfl;rw[e]at q;cases q;exact n2 _ rfl
 refine I.view (fun b hb=>?_) ht (fun b o' u' q=>?_) (fun b ps q=>?_) (vf I.hok ⟨u,e,n1,n2⟩ ⟨ho,pS hu (I.hok d u e) ht⟩)
 ·rw[aq]
  ·exact hb
  ·rintro rfl;rw[e]at hb;cases hb
 ·have q:=I.base.frzs b o' u' q
  rw[aq]
  ·exact q
  ·rintro rfl;rw[e]at q;cases q;exact n4 _ _ rfl
 ·rw[aq]
  ·exact q
  ·rintro rfl;rw[e]at q;cases q;exact n3 _ rfl
end
section
variable {X:Cx}{tg:Expr}
end
end L2
namespace L2
open PySem PySem.Spec PySem.Calls PyProof.Rows
section
variable {prog:Program}{w:World}
variable {A:Around}{R:Result->Shared->Prop}{I:Addr}{fp wr:List Addr}{G:Array GenState->Array GenState->Prop}{n:Nat}{P:Nat->Value->Prop}{St:Nat->Shared->Prop}
end
section
variable {prog:Program}{w:World}{A:Around}{E:Value->Shared->Prop}{s:Shared}
end
section
variable {P:Program}{w:World}{H:Hp}{h:Heap}
end
section
variable {X:Cx}
end
end L2
namespace L2
open PySem PySem.Spec PySem.Calls PyProof.Rows
section
variable {prog:Program}{w:World}{A:Around}{E:Value->Shared->Prop}{s:Shared}
end
section
variable {X:Cx}
end
end L2
namespace L2
open PySem PySem.Spec PySem.Calls PyProof.Rows
section
variable {X:Cx}{tg:Expr}
end
end L2
namespace ST
open PySem PySem.SetTable
noncomputable def rs (m:Nat)(p:Nat×Nat):Probe:={ j:=p.1,more:=runEnd m p.1-p.1,i:=p.1,perturb:=p.2,dummy:=none }
structure Va (m:Nat) (p:Probe):Prop where
 i:p.i<=m
 more:p.more<=9
 j:p.j+p.more<=m
 q:p.perturb<2 ^ 64
 d:p.dummy=none
theorem rW (m i:Nat)(h:i<=m):runEnd m i-i<=9/\i+(runEnd m i-i)<=m:=by
 unfold runEnd;split<;>omega
theorem Va.rs {m:Nat}{p:Nat×Nat}(h1:p.1<=m)(h2:p.2<2 ^ 64):Va m (rs m p):=⟨h1,(rW m _ h1).1,(rW m _ h1).2,h2,rfl⟩
noncomputable def lp (m:Nat):Nat->Nat×Nat->Nat×Nat
 |0,p=>p
 |n+1,p=>lp m n (leap m p.1 p.2)
end ST
namespace ST
open PySem PySem.SetTable
end ST
namespace ST
open PySem PySem.SetTable
noncomputable def ow (owner:Array (Option Nat))(j:Nat):Prop:=∃ k,owner[j]?=some (some k)
end ST
namespace ST
open PySem PySem.SetTable
end ST
namespace ST
open PySem PySem.W PyProof.Rows
noncomputable abbrev DX:=Nat->Nat->(Bool->Shared->Prop)->Shared->Prop
noncomputable def Pm (N:Nat)(p:Array Nat):Prop:=p.toList.Perm (List.range N)
noncomputable def DG (p:Array Nat)(i:Nat):Nat:=p.getD i 0
section
variable {N:Nat}{lt:Nat->Nat->Bool}{cmp:DX}{s:Shared}{p:Array Nat}
theorem Pm.size (h:Pm N p):p.size=N:=by have:=h.length_eq;simpa using this
end
end ST
namespace L2
open PySem PySem.Spec PySem.Calls PyProof.Rows ST
noncomputable abbrev iK (ns:List Int):List Key:=ns.map Sum.inl
section
variable {prog:Program}{w:World}{A:Around}{E:Value->Shared->Prop}{s:Shared}
end
end L2
namespace L2
open PySem PySem.Spec PySem.Calls PyProof.Rows ST
section
variable {prog:Program}{w:World}{A:Around}{E:Value->Shared->Prop}{s:Shared}
end
end L2
namespace L2
open PySem PySem.Spec PySem.Calls PyProof.Rows ST
noncomputable def byT (w:World):Bool:=w.params.followText "set-order"
section
variable {prog:Program}{w:World}{A:Around}{E:Value->Shared->Prop}{s:Shared}
structure Grown (es es':Array (Int×Value)) (x:Int×Value):Prop where
 mem:∀ y,y∈es'.toList↔y=x\/y∈es.toList
 pw:∀ R:Int×Value->Int×Value->Prop,(∀ x y,R x y->R y x)->es.toList.Pairwise R->(∀ e∈es.toList,R e x)->es'.toList.Pairwise R
 size:es'.size=es.size+1
end
end L2
namespace L2
open PySem PySem.Spec PySem.Calls PyProof.Rows ST
section
variable {prog:Program}{w:World}{A:Around}{E:Value->Shared->Prop}{s:Shared}
end
end L2
namespace L2
open PySem PySem.Spec PySem.Calls PyProof.Rows ST
noncomputable abbrev TItem:=List Int×Addr
section
variable {prog:Program}{w:World}
structure SInv (prog:Program) (w:World) (es:Array (Int×Value)) (xs:List TItem):Prop where
 el:∀ e∈es.toList,∃ x∈xs,e=((tK prog w).hash (iK x.1),Value.ref x.2)
 sz:es.size<=xs.length
 pw:es.toList.Pairwise fun e e'=>∀ x x':TItem,e=((tK prog w).hash (iK x.1),Value.ref x.2)->e'=((tK prog w).hash (iK x'.1),Value.ref x'.2)->x∈xs->x'∈xs->x.1≠x'.1
 all:∀ x∈xs,∃ y∈xs,y.1=x.1/\((tK prog w).hash (iK y.1),Value.ref y.2)∈es.toList
variable {A:Around}{R:Result->Shared->Prop}{I:Addr}{fp wr:List Addr}{G:Array GenState->Array GenState->Prop}{n:Nat}{P:Nat->Value->Prop}{St:Nat->Shared->Prop}
noncomputable def DY (xs:List TItem):Prop:=∀ x∈xs,∀ y∈xs,x.2=y.2->x.1=y.1
theorem SInv.new {es es':Array (Int×Value)}{xs:List TItem}{x:TItem}(v:SInv prog w es xs)(hin:¬ ∃ y∈xs,y.1=x.1)(un:DY (xs++[x]))(g:Grown es es' ((tK prog w).hash (iK x.1),.ref x.2)):SInv prog w es' (xs++[x]):=by
 have hx:x∈xs++[x]:=List.mem_append_right _ (List.mem_singleton.mpr rfl)
 refine⟨fun e he=>?_,?_,?_,fun y hy=>?_⟩
 ·rcases (g.mem e).mp he with rfl|he
  ·exact⟨x,hx,rfl⟩
  ·obtain⟨z,h1,h2⟩:=v.el e he
   exact⟨z,List.mem_append_left _ h1,h2⟩
 ·have:=v.sz;rw[g.size];simp;omega
 ·refine g.pw _ (fun a b hab z z' e1 e2 m1 m2 h=>hab z' z e2 e1 m2 m1 h.symm) ?_ ?_
  ·refine List.Pairwise.imp_of_mem (fun{a b} ha hb hab z z' e1 e2 m1 m2=>?_) v.pw
   obtain⟨y,y1,y2⟩:=v.el a ha
   obtain⟨y',y1',y2'⟩:=v.el b hb
   have q1:z.2=y.2:=by rw[e1]at y2;simp only[Prod.mk.injEq,Value.ref.injEq]at y2;exact y2.2
   have q2:z'.2=y'.2:=by rw[e2]at y2';simp only[Prod.mk.injEq,Value.ref.injEq]at y2';exact y2'.2
   rw[un z m1 y (List.mem_append_left _ y1) q1,un z' m2 y' (List.mem_append_left _ y1') q2]
   exact hab y y' y2 y2' y1 y1'
  ·intro e he z z' e1 e2 m1 m2 h
   obtain⟨y,y1,y2⟩:=v.el e he
   have q1:z.2=y.2:=by rw[e1]at y2;simp only[Prod.mk.injEq,Value.ref.injEq]at y2;exact y2.2
   have q2:z'.2=x.2:=by simp only[Prod.mk.injEq,Value.ref.injEq]at e2;exact e2.2.symm
   have a1:=un z m1 y (List.mem_append_left _ y1) q1
   have a2:=un z' m2 x hx q2
   exact hin ⟨y,y1,by rw[<- a1,<- a2];exact h⟩
 ·rcases List.mem_append.mp hy with hy|hy
  ·obtain⟨z,h1,h2,h3⟩:=v.all y hy
   exact⟨z,List.mem_append_left _ h1,h2,(g.mem _).mpr (.inr h3)⟩
  ·rw[List.mem_singleton]at hy;subst hy
   exact⟨y,hx,rfl,(g.mem _).mpr (.inl rfl)⟩
end
end L2
namespace L2
open PySem PySem.Spec PySem.Calls PyProof.Rows ST
noncomputable abbrev setNew (led:Bool):Obj:={ cls:=.type "set",dict:=none,data:=.set #[] 0 (.fresh 0 0 led) }
section
variable {prog:Program}{w:World}{A:Around}{E:Value->Shared->Prop}{s:Shared}
theorem ke (a:Value){Q₁:Value->Shared->Prop}(h:Q₁ (.ref s.heap.objs.size) { s with heap:=s.heap.push (setNew (!byT w)) }) :
 codeAny (model prog w) A (.call (.builtin "set.__new__") ⟨[.type "set",a],[]⟩) (wants Q₁ E) s:=by
 refine codeAny_of_tree (show wpAny _ A.in1 (do checkBuiltinCall "set.__new__" ⟨[.type "set",a],[]⟩;again (.builtin "set.__new__" ⟨[.type "set",a],[]⟩)) _ _ s from ?_)
 refine wpAny_bind (wpAny_of_eq (PySem.F.newCall_set_1 a) (wpAny_pure ⟨plainId_quiet PySem.F.plain_set_new _,codeAny_builtin PySem.F.entry_set_new ?_⟩))
 rw[Around.under_plainId PySem.F.plain_set_new _];unfold Builtin.«set.__new__» Builtin.Frozenset.newClass
 have hsub:=sub_set_self
 obtain⟨hp,g,d,tk,os⟩:=s
 dsimp only;wp_walk
 refine wpAny_askSetting (wpAny_pure ?_);dsimp only;simp only[newObj]
 refine wpAny_bind (wpAny_alloc (wpAny_pure ?_));exact wpAny_pure h
end
end L2
namespace L2
open PySem PySem.Spec PySem.Calls PyProof.Rows ST
section
variable {prog:Program}{w:World}{A:Around}{E:Value->Shared->Prop}{s:Shared}
end
end L2
namespace L2
open PySem PySem.Spec PySem.Calls PyProof.Rows ST
section
variable {prog:Program}{w:World}{A:Around}{E:Value->Shared->Prop}{s:Shared}
end
end L2
namespace L2
open PySem PySem.Spec PySem.Calls PyProof.Rows ST
section
variable {prog:Program}{w:World}{A:Around}{E:Value->Shared->Prop}{s:Shared}
end
end L2
namespace L2
open PySem PySem.Spec PySem.Calls PyProof.Rows ST
section
variable {prog:Program}{w:World}{A:Around}{E:Value->Shared->Prop}{s:Shared}
end
end L2
namespace L2
open PySem PySem.Spec PySem.Calls PyProof.Rows ST
section
variable {prog:Program}{w:World}{A:Around}{E:Value->Shared->Prop}{s:Shared}
end
end L2
namespace L2
open PySem PySem.Spec PySem.Calls PyProof.Rows ST
section
variable {prog:Program}{w:World}{A:Around}{E:Value->Shared->Prop}{s:Shared}
end
end L2
namespace L2
open PySem PySem.Spec PySem.Calls PyProof.Rows ST
section
variable {X:Cx}
end
end L2
namespace L2
open PySem PySem.Spec PyProof.Rows
noncomputable def uR (a:List Str)(x:Str):List Str:=if a.contains x then a else a++[x]
noncomputable def ij (xs:List Str):List Str:=xs.foldl uR []
theorem mL (xs:List Str)(x:Str):ij (xs++[x])=uR (ij xs) x:=by unfold ij;rw[List.foldl_append];rfl
theorem oJ (a:List Str)(x:Str):(uR a x).length=if a.contains x then a.length else a.length+1:=by unfold uR;split<;>simp
theorem vh (a:List Str)(x k:Str):(uR a x).contains k=(a.contains k || decide (k=x)):=by
 unfold uR
 by_cases h:a.contains x=true
 ·rw[if_pos h]
  by_cases e:k=x
  ·subst e;rw[h];rfl
  ·simp[e]
 ·rw[if_neg h,List.contains_append,List.contains_cons]
  by_cases e:k=x
  ·subst e;simp
  ·have:(k==x)=false:=by simpa using e
   simp[this,e]
theorem rX (xs:List Str):(ij xs).length<=xs.length:=by
 have:∀(ys a:List Str),(ys.foldl uR a).length<=a.length+ys.length:=by
  intro ys
  induction ys with
  |nil=>intro a;exact Nat.le_refl _
  |cons y r ih=>
   intro a
   rw[List.foldl_cons,List.length_cons]
   refine Nat.le_trans (ih _) ?_
   rw[oJ]
   split<;>omega
 have:=this xs []
 simpa[ij] using this
section
variable {prog:Program}{w:World}{A:Around}{R:Result->Shared->Prop}{I:Addr}{fp wr:List Addr}{G:Array GenState->Array GenState->Prop}{n:Nat}{P:Nat->Value->Prop}{St:Nat->Shared->Prop}
theorem gz (W:WalksS prog w A.in1 I fp wr G n P St)(S:Addr)(hSf:S∉fp)(xs:List Str)(hn:xs.length=n)(hval:∀ i v,P i v->∃ x t,xs[i]?=some x/\v=.str x t)(hb:n+1<scanBound) :
 ∀(k i:Nat)(s:Shared),n-i=k->i<=n->St i s->s.heap.SetOf (strKind prog w) S (fun k'=>(ij (xs.take i)).contains k') (ij (xs.take i)).length->
  (∀ s',Moved (S::wr) G s s'->s'.heap.SetOf (strKind prog w) S (fun k'=>(ij xs).contains k') (ij xs).length->R (.ok (.ret .none)) s')->
  codeAny (model prog w) A (.builtin "set.update.loop" ⟨[.ref S,.ref I],[]⟩) R s:=by
 have hSw:S∉wr:=fun h=>hSf (W.sub _ h)
 have hsub:∀ b∈wr,b∈S::wr:=fun b hb=>List.mem_cons_of_mem _ hb
 have move:∀{i:Nat}{s s':Shared},Moved wr G s s'->s.heap.SetOf (strKind prog w) S (fun k'=>(ij (xs.take i)).contains k') (ij (xs.take i)).length->s'.heap.SetOf (strKind prog w) S (fun k'=>(ij (xs.take i)).contains k') (ij (xs.take i)).length:=
  fun hm ⟨o,es,ep,t,ho,aQ⟩=>⟨o,es,ep,t,hm.heap S _ hSw ho,aQ⟩
 intro k
 induction k with
 |zero=>
  intro i s hk hi hst hS hR
  have hin:i=n:=by omega
  subst hin
  refine codeAny_builtin F.entry_set_update_loop ?_
  rw[Around.under_plainId F.plain_set_update_loop _]
  show wpAny _ A.in1 (pyNext (.ref I) >>= _) _ _ s
  refine wpAny_bind (W.done s _ _ hst fun s' hm=>?_)
  show wpAny _ A.in1 (ret Value.none) _ _ s'
  have hS2:=move hm hS
  rw[<- hn,List.take_length]at hS2
  exact wpAny_pure (hR s' (hm.mono hsub) hS2)
 |succ k ih=>
  intro i s hk hi hst hS hR
  have hlt:i<n:=by omega
  refine codeAny_builtin F.entry_set_update_loop ?_
  rw[Around.under_plainId F.plain_set_update_loop _]
  show wpAny _ A.in1 (pyNext (.ref I) >>= _) _ _ s
  refine wpAny_bind (W.item i s _ _ hlt hst fun v s' hP hst' hm=>?_)
  obtain⟨x,t,hx,rfl⟩:=hval i v hP
  have hS':=move hm hS
  show wpAny _ A.in1 (holding [Value.str x t] (setAdd S (.str x t)) >>= _) _ _ s'
  refine wpAny_bind (wpAny_holding ?_)
  unfold setAdd
  refine wpAny_holding ?_
  refine wpAny_bind ((strKind prog w).pyHash (k:=x) (strKind_is _ _ _ _) ?_)
  have hroom:(ij (xs.take i)).length+1<scanBound:=by
   have:=rX (xs.take i)
   rw[List.length_take]at this
   omega
  refine wpAny_setAddHashed_of (knd:=strKind prog w) (s:={ s' with toks:=s'.toks+1 }) (strKind_is _ _ _ _) rfl hS' hroom fun h' hsb hS2=>?_
  have et:xs.take (i+1)=xs.take i++[x]:=by
   rw[List.take_add_one,hx];rfl
  have hSi:h'.SetOf (strKind prog w) S (fun k'=>(ij (xs.take (i+1))).contains k') (ij (xs.take (i+1))).length:=
   SetOf_congr hS2 (fun k'=>by rw[et,mL,vh]) (by rw[et,mL,oJ])
  refine wpAny_pure ⟨plainId_quiet F.plain_set_update_loop _,ih (i+1) _ (by omega) hlt (W.frame _ s' _ _ hst' (Nat.le_succ _) fun b hb o e=>?_) hSi fun s'' hm'' hS''=>?_⟩
  ·rw[hsb.2 b (fun h:b=S=>hSf (by rw[<- h];exact hb))];exact e
  ·refine hR s'' (Moved.trans W.gtrans ((hm.mono hsub).then_heap (Nat.le_succ _) fun b o hb e=>?_) hm'') hS''
   rw[hsb.2 b (fun h:b=S=>hb (by rw[h];exact List.mem_cons_self))];exact e
end
section
variable {prog:Program}{w:World}{A:Around}{E:Value->Shared->Prop}{s:Shared}
theorem pT {l:Addr} {items:Array Value} {nl:Nat} {xs:List Str} {Q:Value->Shared->Prop} (hh:A.handled=none) (hl:s.heap.get? l=some { cls:=.type "list",data:=.seq items nl }) (hn:xs.length=items.size) (hz:items.size<=1000)
 (hval:∀(i:Nat)(v:Value),items[i]?=some v->∃ x t,xs[i]?=some x/\v=.str x t)
 (h:∀(h':Heap)(tk:Nat),h'.SetOf (strKind prog w) s.heap.objs.size (fun k'=>(ij xs).contains k') (ij xs).length->(∀ b o,b<s.heap.objs.size->s.heap.get? b=some o->h'.get? b=some o)->Q (.ref s.heap.objs.size) { s with heap:=h',toks:=tk }) :
 wpAny (model prog w) A (call (.type "set") [.ref l]) Q E s:=by
 obtain⟨c,tl,hmro⟩:=PySem.F.called_set.mro
 have hmade:=PySem.F.called_set.made;have hsub:=PySem.F.called_set.sub
 have sb:items.size+1<scanBound:=by unfold scanBound;omega
 refine wpAny_call (codeAny_of_tree ?_);show wpAny _ _ (callAny (.type "set") _) _ _ _
 refine wpAny_pure ⟨Code.quiet_builtin _ (by decide +kernel),codeAny_builtin PySem.F.entry_type_call ?_⟩
 rw[Around.under_plain (weight_type_call_type "set" [.ref l] []) rfl]
 have h1:=PySem.F.called_set.notType;have h2:=PySem.F.called_set.canCreate;have hct:=PySem.F.typeCall_set_1 (.ref l)
 repeat (any_goals (first|assumption|wp_step))
 refine codeAny_mono (ke (.ref l) (E:=E) (Q₁:=fun obj s₁=>obj=.ref s.heap.objs.size/\s₁={ s with heap:=s.heap.push (setNew (!byT w)) }) ⟨rfl,rfl⟩) fun r s₁ hr=>?_
 rcases r with e|fl
 ·exact hr
 cases fl with
 |ret obj=>
  obtain⟨rfl,rfl⟩:=hr
  have hS:(s.heap.push (setNew (!byT w))).get? s.heap.objs.size=some (setNew (!byT w)):=Heap.get?_push_size _ rfl
  have hT:Shared.TypeIs { s with heap:=s.heap.push (setNew (!byT w)) } (.ref s.heap.objs.size) "set":=⟨_,hS,rfl⟩
  have hli:=PySem.F.called_set.init.lookup;have hbi:=PySem.F.called_set.init.bind (.ref s.heap.objs.size)
  repeat (any_goals (first|assumption|wp_step))
  refine codeAny_mono (codeAny_call_builtin (R:=wants (fun r s₂=>r=.none/\∃ h' tk,s₂={ s with heap:=h',toks:=tk }/\h'.SetOf (strKind prog w) s.heap.objs.size (fun k'=>(ij xs).contains k') (ij xs).length/\
   (∀ b o,b<s.heap.objs.size->s.heap.get? b=some o->h'.get? b=some o)) E) PySem.F.called_set.init.plain PySem.F.entry_set_init (check_set_init_1 hT ?_)) fun r₂ s₂ hr₂=>?_
  ·have hol':(s.heap.push (setNew (!byT w))).get? l=some { cls:=.type "list",data:=.seq items nl }:=Heap.get?_push_of_some _ hl
   have hsls:=PySem.F.sub_list_set;have hslf:=PySem.F.sub_list_frozenset;have hne:(Value.type "list"==Value.type "dict")=false:=by decide
   have hl1:(s.heap.push (setNew (!byT w))).IsList l items:=⟨_,hol',rfl,nl,rfl⟩
   unfold Builtin.«set.__init__» noKeywords Builtin.Frozenset.updateFrom
   generalize hPI:pyIter=PI
   wp_walk
   subst hPI
   refine wpAny_pyIter_list hl1 (wpAny_bind (wpAny_runValue ?_))
   have hlS:l<s.heap.objs.size:=Heap.lt_size hl
   have hh3:A.in1.in1.in1.handled=none:=by simp[hh]
   have hneI:l≠(s.heap.push (setNew (!byT w))).objs.size:=by rw[Heap.size_push];exact Nat.ne_of_lt (Nat.lt_succ_of_lt hlS)
   refine gz ((Walks.list hh3 _ l hneI items).toS) s.heap.objs.size ?hSf xs hn hval sb (items.size-0) 0 _ rfl (Nat.zero_le _) ⟨⟨_,Heap.get?_push_size _ rfl,rfl,rfl⟩,(hl1.push _)⟩ ?hS0 ?hR
   case hSf=>
    rw[Heap.size_push];simp only[List.mem_cons,List.not_mem_nil,or_false,not_or]
    exact⟨Nat.ne_of_lt (Nat.lt_succ_self _),Nat.ne_of_gt hlS⟩
   case hS0=>
    have hget:=Heap.get?_push_of_some (h:=s.heap.push (setNew (!byT w))) { cls:=.type "list_iterator",data:=.fields #[.ref l,.int 0 0] } hS
    exact SetOf_congr ((setObjOf_fresh (knd:=strKind prog w) (!byT w)).setOf hget (by unfold scanBound;omega)) (fun _=>rfl) rfl
   case hR=>
    intro s' hm hS'
    obtain⟨h',g',d',tk',os'⟩:=s'
    have eg:g'=s.gens:=hm.gens
    have ed:d'=s.drawn:=hm.drawn
    have eo:os'=s.os:=hm.os
    subst eg ed eo
    refine wpAny_pure (wpAny_pure ⟨rfl,h',tk',rfl,hS',fun b o hb e=>hm.heap b o ?_ (Heap.get?_push_of_some _ (Heap.get?_push_of_some _ e))⟩)
    simp only[List.mem_cons,List.not_mem_nil,or_false,not_or]
    exact⟨Nat.ne_of_lt hb,by rw[Heap.size_push];exact Nat.ne_of_lt (Nat.lt_succ_of_lt hb)⟩
  ·rcases r₂ with e|fl₂
   ·exact hr₂
   cases fl₂ with
   |ret r=>
    obtain⟨rfl,h',tk,rfl,hS',hk'⟩:=hr₂
    repeat (any_goals (first|assumption|wp_step))
    exact h _ _ hS' hk'
   |_=>exact hr₂.elim
 |_=>exact hr.elim
end
section
variable {X:Cx}
noncomputable def rY (P:Program)(w:World)(h:Heap)(a:Addr)(xs:List Str):Prop:=h.SetOf (strKind P w) a (fun k'=>(ij xs).contains k') (ij xs).length
theorem kI:∀{xs:List Str}{us:List Value},Vals (xs.map V.str) us->us.length=xs.length/\∀(i:Nat)(v:Value),us[i]?=some v->∃ x t,xs[i]?=some x/\v=.str x t
 | [],[],_=>⟨rfl,fun i v e=>by simp at e⟩
 |x::r,u::us,.cons q h=>by
  obtain⟨a,b⟩:=kI h
  refine⟨by simp[a],fun i v e=>?_⟩
  cases i with
  |zero=>
   obtain⟨t,hu⟩:=q
   simp only[List.getElem?_cons_zero,Option.some.injEq]at e
   exact⟨x,t,rfl,by rw[<- e,hu]⟩
  |succ i=>exact b i v (by simpa using e)
theorem nT (hc:X.calm=true):CallR X (.type "set") (fun vs H Q=>∃ l xs,vs=[.ref l]/\Rd H l (.lst (xs.map V.str))/\xs.length<=1000/\∀ p,H p=none->Q (.ref p) (bf H p (.ext fun h=>rY X.prog X.w h p xs))):=by
 intro pins s σ H vs us Q I r h
 obtain⟨l,xs,rfl,hl,hz,q⟩:=h
 obtain⟨u,rfl,ru⟩:=gw r
 obtain rfl:u=Value.ref l:=ru
 obtain⟨_,us,n,rv,hg⟩:=(show ObjOk X.prog X.w H s.heap l (.lst (xs.map V.str)) from hl.ok I.hok)
 obtain⟨g1,g2⟩:=kI rv
 refine pT (I.ok.hd hc) hg (xs:=xs) (by rw[List.size_toArray,g1]) (by rw[List.size_toArray,g1];exact hz) (fun i v e=>g2 i v (by simpa using e)) fun h' tk hS hk=>?_
 have hf:H s.heap.objs.size=none:=I.hok.fresh (Nat.le_refl _)
 refine⟨.ref s.heap.objs.size,_,I.laid (a:=s.heap.objs.size) (o:=.ext fun h=>rY X.prog X.w h s.heap.objs.size xs) (t':=tk) (fun b o e=>hk b o (Heap.lt_size e) e) (Nat.le_refl _) ?_,rfl,q _ hf⟩
 exact⟨hS,(let ⟨o,_,_,_,e,_⟩:=hS;⟨o,e⟩),fun h1 h2 hs k=>let ⟨o,es,ep,t,e,r⟩:=hs;⟨o,es,ep,t,k o e,r⟩⟩
theorem nU:CallR X (.builtin "len") (fun vs H Q=>∃ p xs,vs=[.ref p]/\H p=some (.ext fun h=>rY X.prog X.w h p xs)/\xs.length<=1000/\Q (.int (ij xs).length) H):=by
 intro pins s σ H vs us Q I r h
 obtain⟨p,xs,rfl,hp,hz,q⟩:=h
 obtain⟨u,rfl,ru⟩:=gw r
 obtain rfl:u=Value.ref p:=ru
 obtain⟨⟨o,es,ep,t,ho,hex,hd,_,_,_,hf,hn⟩,_,_⟩:=(show ObjOk X.prog X.w H s.heap p (.ext fun h=>rY X.prog X.w h p xs) from I.hok p _ hp)
 have hl:=rX xs
 refine call_len_set ho hex hd hf (by rw[hn];omega) ⟨.int (ij xs).length,H,I.tok _,⟨_,by rw[hn]⟩,q⟩
end
end L2
namespace L2
open PySem PySem.Spec PySem.Calls PyProof.Rows
theorem KV.at {a:List (Key×V)}{b:List (Key×Value)}(r:KV a b):∀(i:Nat) p q,a[i]?=some p->b[i]?=some q->p.1=q.1/\RelV p.2 q.2:=by
 induction r with
 |nil=>intro i p q e;simp at e
 |cons hq t ih=>
  intro i p q e1 e2
  cases i with
  |zero=>simp at e1 e2;subst e1 e2;exact hq
  |succ i=>exact ih i p q (by simpa using e1) (by simpa using e2)
section
variable {X:Cx}{es:List Expr}{k0:Nat}{mr:Pos}
end
end L2
namespace L2
open PySem PySem.Spec PySem.Calls PyProof.Rows
section
variable {X:Cx}
end
section
open PySem.MeetsSeq PySem.SeqAt
open PySem.AutoSeq1 (wpAny_loadPart')
end
end L2
namespace L2
open PySem PySem.Spec PyProof.Rows
section
variable {X:Cx}{hc hc2:Str}{Ch Ch2:Addr}{np hpos np2 hpos2 pos epos:Pos}{b₀ c₀:Stmt}{suite suite2:List Stmt}{ts ts2:TS}{te:TX}{e:Expr}
end
end L2
namespace L2
open PySem PySem.Spec PyProof.Rows
open Sem (wp)
open Builtin
section
variable {prog:Program}{w:World}{A:Around}{E:Value->Shared->Prop}{s:Shared}
theorem AW {j t:Addr}{n:Nat}{xs:Array Value}{x:Value}{Q:Value->Shared->Prop}(hj:IsTupIter s.heap j t n)(ht:IsTup s.heap t xs)(hx:xs[n]?=some x)
 (q:∀ g,IsTupIter g j t (n+1)->Heap.SameBut j s.heap g->Q x { s with heap:=g }):wpAny (model prog w) A (Builtin.SmallTypes.nextOf (.ref j)) Q E s:=by
 obtain⟨u,hu,cu,du⟩:=id hj
 obtain⟨ut,hut,_,m,dut⟩:=ht
 unfold Builtin.SmallTypes.nextOf
 refine wpAny_bind (wpAny_callSpecial?_slot (name:=Str.ofString "__next__") hj.typeIs slot_tupleiter_next (wpAny_call_entry slot_tupleiter_next hj.typeIs entry_tupleiter_next ?_ (args_tupleiter_next _)))
 show wpAny _ _ (field (.ref j) 0 >>= _) _ _ s;refine wpAny_bind (wpAny_field hu du (x:=.ref t) rfl ?_)
 show wpAny _ _ (if (Value.ref t==Value.none)=true then _ else _) _ _ s;rw[if_neg (show ¬ ((Value.ref t==Value.none)=true) from Bool.false_ne_true)]
 show wpAny _ _ (field (.ref j) 1 >>= _) _ _ s;refine wpAny_bind (wpAny_field hu du (x:=.int n 0) rfl ?_)
 show wpAny _ _ (seqItems? (.ref t) >>= _) _ _ s;refine wpAny_bind (wpAny_seqItems hut dut ?_);simp only[Int.toNat_natCast,hx]
 refine wpAny_bind (wpAny_setField hu du (by simp) (wpAny_pure ⟨x,rfl,wpAny_pure (q _ ⟨_,Heap.get?_update_self _ hu (Obj.isFreed_of_fields (Obj.data_mapFields du _)),(Obj.cls_mapFields ..).trans cu,by rw[Obj.data_mapFields du];simp[rawInt]⟩ (Heap.SameBut.update ..))⟩))
theorem AX {j t:Addr}{n:Nat}{xs:Array Value}{Q:Value->Shared->Prop}(hh:A.handled=none)(hj:IsTupIter s.heap j t n)(ht:IsTup s.heap t xs)(hx:xs[n]?=none)
 (q:∀ g e,Heap.ExtBut j s.heap g->(∃ u,g.get? e=some u/\u.cls=.type "StopIteration")->E (.ref e) { s with heap:=g }):wpAny (model prog w) A (Builtin.SmallTypes.nextOf (.ref j)) Q E s:=by
 obtain⟨u,hu,cu,du⟩:=id hj
 obtain⟨ut,hut,_,m,dut⟩:=ht
 unfold Builtin.SmallTypes.nextOf
 refine wpAny_bind (wpAny_callSpecial?_slot (name:=Str.ofString "__next__") hj.typeIs slot_tupleiter_next (wpAny_call_entry slot_tupleiter_next hj.typeIs entry_tupleiter_next ?_ (args_tupleiter_next _)))
 show wpAny _ _ (field (.ref j) 0 >>= _) _ _ s;refine wpAny_bind (wpAny_field hu du (x:=.ref t) rfl ?_)
 show wpAny _ _ (if (Value.ref t==Value.none)=true then _ else _) _ _ s;rw[if_neg (show ¬ ((Value.ref t==Value.none)=true) from Bool.false_ne_true)]
 show wpAny _ _ (field (.ref j) 1 >>= _) _ _ s;refine wpAny_bind (wpAny_field hu du (x:=.int n 0) rfl ?_)
 show wpAny _ _ (seqItems? (.ref t) >>= _) _ _ s;refine wpAny_bind (wpAny_seqItems hut dut ?_);simp only[Int.toNat_natCast,hx]
 refine wpAny_bind (wpAny_rule (wpAny_bind (wpAny_setField hu du (by simp) ?_)));show wpAny _ _ (newExc (.type "StopIteration") [] >>= _) _ _ _
 refine wpAny_bind ?_;simp only[newExc,newTuple];refine wpAny_bind (wpAny_newObj_type ?_ (by size_fits));refine wpAny_bind (m:=firstArgMember _ _) (wpAny_of_eq (a:=Value.none) (by first|rfl|(simp only[firstArgMember];rfl)) ?_)
 refine wpAny_newObj_type ?_ (by size_fits);simp only[raiseNew];refine wpAny_bind (wpAny_handled ?_);first|rw[show A.in1.handled=none from hh]|rw[hh]
 refine wpAny_bind (wpAny_pure (wpAny_throw (q _ _ (((Heap.SameBut.update ..).extBut.push _).push _) ⟨_,Heap.get?_push_size _ rfl,rfl⟩)))
theorem IsTupIter.at {h h':Heap}{a t:Addr}{i:Nat}(x:IsTupIter h a t i)(e:∀ o,h.get? a=some o->h'.get? a=some o):IsTupIter h' a t i:=let ⟨o,ho,r⟩:=x;⟨o,e o ho,r⟩
end
section
variable {prog:Program}{w:World}{A:Around}{E:Value->Shared->Prop}{s:Shared}
end
end L2
namespace L2
open PySem PySem.Spec PyProof.Rows
open Sem (wp)
open Builtin
noncomputable def SIt (k:Bool) (h:Heap) (j t:Addr) (n:Nat):Prop:=∃ o,h.get? j=some o/\o.cls=.type (if k then "tuple_iterator" else "list_iterator")/\o.data=.fields #[.ref t,.int n 0]
noncomputable def SAt (k:Bool) (h:Heap) (t:Addr) (xs:Array Value):Prop:=∃ o,h.get? t=some o/\o.cls=.type (if k then "tuple" else "list")/\∃ n,o.data=.seq xs n
theorem SIt.at {k:Bool}{h h':Heap}{a t:Addr}{i:Nat}(x:SIt k h a t i)(e:∀ o,h.get? a=some o->h'.get? a=some o):SIt k h' a t i:=let ⟨o,ho,r⟩:=x;⟨o,e o ho,r⟩
theorem SIt.extBut {k:Bool}{h h':Heap}{a b t:Addr}{i:Nat}(x:SIt k h a t i)(hs:Heap.ExtBut b h h')(hab:a≠b):SIt k h' a t i:=x.at fun o e=>hs a o hab e
theorem SAt.extBut {k:Bool}{h h':Heap}{a b:Addr}{xs:Array Value}(x:SAt k h a xs)(hs:Heap.ExtBut b h h')(hab:a≠b):SAt k h' a xs:=let ⟨o,ho,r⟩:=x;⟨o,hs a o hab ho,r⟩
section
variable {prog:Program}{w:World}{A:Around}{E:Value->Shared->Prop}{s:Shared}
theorem rZ {k:Bool}{j t:Addr}{n:Nat}{xs:Array Value}{x:Value}{Q:Value->Shared->Prop}(hj:SIt k s.heap j t n)(ht:SAt k s.heap t xs)(hx:xs[n]?=some x)
 (q:∀ g,SIt k g j t (n+1)->Heap.SameBut j s.heap g->Q x { s with heap:=g }):wpAny (model prog w) A (Builtin.SmallTypes.nextOf (.ref j)) Q E s:=by
 cases k with
 |true=>exact AW hj ht hx q
 |false=>exact wpAny_nextOf_list_item hj ht hx q
theorem w8 {k:Bool}{j t:Addr}{n:Nat}{xs:Array Value}{Q:Value->Shared->Prop}(hh:A.handled=none)(hj:SIt k s.heap j t n)(ht:SAt k s.heap t xs)(hx:xs[n]?=none)
 (q:∀ g e,Heap.ExtBut j s.heap g->(∃ u,g.get? e=some u/\u.cls=.type "StopIteration")->E (.ref e) { s with heap:=g }):wpAny (model prog w) A (Builtin.SmallTypes.nextOf (.ref j)) Q E s:=by
 cases k with
 |true=>exact AX hh hj ht hx q
 |false=>exact wpAny_nextOf_list_end hh hj ht hx q
theorem pU {z P O i j a b:Addr}{m n:Nat}{ka kb:Bool}{xs ys:Array Value}{x y c d:Value}{Q:Option Value->Shared->Prop}(N:ZipApart z P O i j a b)(hz:IsZip s.heap z P O .none)(hP:IsPair s.heap P (.ref i) (.ref j))(hO:IsPair s.heap O c d)
 (hi:SIt ka s.heap i a m) (hj:SIt kb s.heap j b n) (ha:SAt ka s.heap a xs) (hb:SAt kb s.heap b ys) (hx:xs[m]?=some x) (hy:ys[n]?=some y)
 (q:∀ g,IsZip g z P O (rawInt s.heap.objs.size)->IsPair g O x y->SIt ka g i a (m+1)->SIt kb g j b (n+1)->IsPair g s.heap.objs.size x y->g.objs.size=s.heap.objs.size+1->
   (∀ k o,k≠z->k≠O->k≠i->k≠j->s.heap.get? k=some o->g.get? k=some o)->Q (some (.ref s.heap.objs.size)) { s with heap:=g }):wpAny (model prog w) A (pyNext (.ref z)) Q E s:=by
 have hT:s.TypeIs (.ref z) "zip":=⟨_,hz,rfl⟩
 unfold pyNext
 refine wpAny_bind (wpAny_attempt (wpAny_callSpecial?_slot (name:=Str.ofString "__next__") hT F.slot_zip_next (wpAny_call_entry F.slot_zip_next hT F.entry_zip_next ?_ (F.args_zip_next_1 _))))
 show wpAny _ _ (field (.ref z) 2 >>= _) _ _ _;refine wpAny_bind (wpAny_field hz rfl (x:=.bool false) rfl ?_);show wpAny _ _ (field (.ref z) 3 >>= _) _ _ _
 refine wpAny_bind (wpAny_field hz rfl (x:=.ref P) rfl ?_);refine wpAny_bind (wpAny_seqItems hP rfl ?_);show wpAny _ _ (Builtin.SmallTypes.ownedTupleIsFree (.ref z) >>= _) _ _ _
 refine wpAny_bind ?_;unfold Builtin.SmallTypes.ownedTupleIsFree;refine wpAny_bind (wpAny_field hz rfl (x:=.none) rfl (wpAny_pure ?_));simp only[if_true];refine wpAny_bind (wpAny_rule ?_)
 refine wpAny_bind (wpAny_field hz rfl (x:=.ref O) rfl ?_);refine wpAny_bind (wpAny_setField_rec hz (by simp) fun g1 z1 k1=>?_)
 replace z1:IsZip g1 z P O .ellipsis:=z1
 refine wpAny_bind ?_;simp only[List.zipIdx_cons,List.zipIdx_nil,List.forIn_cons,List.forIn_nil]
 refine wpAny_bind (wpAny_bind (wpAny_onRaise ?_));show wpAny _ _ (Builtin.SmallTypes.nextOf (.ref i) >>= _) _ _ _
 refine wpAny_bind (rZ (hi.extBut k1.extBut N.i1z) (ha.extBut k1.extBut N.l1z) hx fun g2 i2 k2=>wpAny_pure ?_)
 have O2:IsPair g2 O c d:=k2.extBut _ _ N.TOi1 (k1.extBut _ _ N.TOz hO)
 refine wpAny_bind (wpAny_seqItems O2 rfl ?_);refine wpAny_bind (wpAny_updateSeq_pair O2 fun g3 O3 k3=>?_)
 replace O3:IsPair g3 O x d:=O3
 refine wpAny_bind (wpAny_letGo (wpAny_pure ?_));refine wpAny_bind (wpAny_bind (wpAny_onRaise ?_));show wpAny _ _ (Builtin.SmallTypes.nextOf (.ref j) >>= _) _ _ _
 refine wpAny_bind (rZ (((hj.extBut k1.extBut N.i2z).extBut k2.extBut N.i12.symm).extBut k3.extBut N.TOi2.symm) (((hb.extBut k1.extBut N.l2z).extBut k2.extBut N.l2i1).extBut k3.extBut N.l2TO) hy fun g4 j4 k4=>wpAny_pure ?_)
 have O4:IsPair g4 O x d:=k4.extBut _ _ N.TOi2 O3
 refine wpAny_bind (wpAny_seqItems O4 rfl ?_);refine wpAny_bind (wpAny_updateSeq_pair O4 fun g5 O5 k5=>?_)
 replace O5:IsPair g5 O x y:=O5
 refine wpAny_bind (wpAny_letGo (wpAny_pure (wpAny_pure ?_)));refine wpAny_bind (wpAny_seqItems O5 rfl ?_);refine wpAny_bind (wpAny_newTuple ?_)
 have sz:g5.objs.size=s.heap.objs.size:=by rw[k5.1,k4.1,k3.1,k2.1,k1.1]
 have z5:IsZip g5 z P O .ellipsis:=k5.extBut _ _ N.TOz.symm (k4.extBut _ _ N.i2z.symm (k3.extBut _ _ N.TOz.symm (k2.extBut _ _ N.i1z.symm z1)))
 have kk:∀ k o,k≠z->k≠O->k≠i->k≠j->s.heap.get? k=some o->g5.get? k=some o:=fun k o n1 n2 n3 n4 e=>k5.extBut _ _ n2 (k4.extBut _ _ n4 (k3.extBut _ _ n2 (k2.extBut _ _ n3 (k1.extBut _ _ n1 e))))
 have i5:SIt ka g5 i a (m+1):=((i2.extBut k3.extBut N.TOi1.symm).extBut k4.extBut N.i12).extBut k5.extBut N.TOi1.symm
 have j5:SIt kb g5 j b (n+1):=j4.extBut k5.extBut N.TOi2.symm
 have zlt:z<g5.objs.size:=Heap.lt_size z5
 show wpAny _ _ (Builtin.SmallTypes.ownedTupleHandOut (.ref z) (.ref g5.objs.size) >>= _) _ _ _
 refine wpAny_bind ?_;unfold Builtin.SmallTypes.ownedTupleHandOut
 have z6:IsZip (g5.push { cls:=.type "tuple",data:=.seq #[x,y] }) z P O .ellipsis:=Heap.get?_push_of_some _ z5
 refine wpAny_bind (wpAny_setField_rec z6 (by simp) fun g7 z7 k7=>?_)
 replace z7:IsZip g7 z P O (rawInt g5.objs.size):=z7
 refine wpAny_setField_rec z7 (by simp) fun g8 z8 k8=>?_
 replace z8:IsZip g8 z P O (rawInt g5.objs.size):=z8
 have up:∀ k o,k≠z->g5.get? k=some o->g8.get? k=some o:=fun k o n1 e=>k8.extBut _ _ n1 (k7.extBut _ _ n1 (Heap.get?_push_of_some _ e))
 have T8:IsPair g8 g5.objs.size x y:=k8.extBut _ _ (Nat.ne_of_gt zlt) (k7.extBut _ _ (Nat.ne_of_gt zlt) (Heap.get?_push_size _ rfl))
 have s8:g8.objs.size=g5.objs.size+1:=by rw[k8.1,k7.1,Heap.size_push]
 rw[sz]at z8 T8 s8
 refine wpAny_pure ⟨_,rfl,?_⟩
 refine wpAny_pure ?_
 show Q (some (.ref g5.objs.size)) _
 rw[sz]
 exact q g8 z8 (up _ _ N.TOz O5) (SIt.at i5 fun o e=>up _ o N.i1z e) (SIt.at j5 fun o e=>up _ o N.i2z e) T8 s8 fun k o n1 n2 n3 n4 e=>up k o n1 (kk k o n1 n2 n3 n4 e)
theorem r0 {z P O i j a b:Addr}{m n:Nat}{ka kb:Bool}{xs ys:Array Value}{c d:Value}{Q:Option Value->Shared->Prop}(hh:A.handled=none)(N:ZipApart z P O i j a b)(hz:IsZip s.heap z P O .none)(hP:IsPair s.heap P (.ref i) (.ref j))(hO:IsPair s.heap O c d)
 (hi:SIt ka s.heap i a m) (hj:SIt kb s.heap j b n) (ha:SAt ka s.heap a xs) (hb:SAt kb s.heap b ys) (hx:xs[m]?=none\/ys[n]?=none)
 (q:∀ g,(∀ k o,k≠z->k≠O->k≠i->k≠j->s.heap.get? k=some o->g.get? k=some o)->Q none { s with heap:=g }):wpAny (model prog w) A (pyNext (.ref z)) Q E s:=by
 have hT:s.TypeIs (.ref z) "zip":=⟨_,hz,rfl⟩
 have fin:∀(g:Heap)(e:Addr),(∀ k o,k≠z->k≠O->k≠i->k≠j->s.heap.get? k=some o->g.get? k=some o)->(∃ u,g.get? e=some u/\u.cls=.type "StopIteration")->wpAny (model prog w) A (do if <- isInstance (.ref e) (.type "StopIteration") then pure none else throw (.ref e):Sem (Option Value)) Q E { s with heap:=g }:=fun g e kp ⟨u,hu,cu⟩=>
  wpAny_bind (wpAny_isInstance (T:="StopIteration") (b:=true) ⟨u,hu,cu⟩ isSubtype_stop (wpAny_pure (q g kp)))
 unfold pyNext
 refine wpAny_bind (wpAny_attempt (wpAny_callSpecial?_slot (name:=Str.ofString "__next__") hT F.slot_zip_next (wpAny_call_entry F.slot_zip_next hT F.entry_zip_next ?_ (F.args_zip_next_1 _))))
 show wpAny _ _ (field (.ref z) 2 >>= _) _ _ _;refine wpAny_bind (wpAny_field hz rfl (x:=.bool false) rfl ?_);show wpAny _ _ (field (.ref z) 3 >>= _) _ _ _
 refine wpAny_bind (wpAny_field hz rfl (x:=.ref P) rfl ?_);refine wpAny_bind (wpAny_seqItems hP rfl ?_);show wpAny _ _ (Builtin.SmallTypes.ownedTupleIsFree (.ref z) >>= _) _ _ _
 refine wpAny_bind ?_;unfold Builtin.SmallTypes.ownedTupleIsFree;refine wpAny_bind (wpAny_field hz rfl (x:=.none) rfl (wpAny_pure ?_));simp only[if_true];refine wpAny_bind (wpAny_rule ?_)
 refine wpAny_bind (wpAny_field hz rfl (x:=.ref O) rfl ?_);refine wpAny_bind (wpAny_setField_rec hz (by simp) fun g1 z1 k1=>?_)
 replace z1:IsZip g1 z P O .ellipsis:=z1
 refine wpAny_bind ?_;simp only[List.zipIdx_cons,List.zipIdx_nil,List.forIn_cons,List.forIn_nil]
 refine wpAny_bind (wpAny_bind (wpAny_onRaise ?_));show wpAny _ _ (Builtin.SmallTypes.nextOf (.ref i) >>= _) _ _ _
 cases ex:xs[m]? with
 |none=>
  refine wpAny_bind (w8 hh (hi.extBut k1.extBut N.i1z) (ha.extBut k1.extBut N.l1z) ex fun g2 e k2 ⟨u,hu,cu⟩=>?_)
  have z2:IsZip g2 z P O .ellipsis:=k2 _ _ N.i1z.symm z1
  have ez:e≠z:=fun w=>by subst w;rw[z2]at hu;cases hu;simp at cu
  refine wpAny_setField_rec z2 (by simp) fun g3 _ k3=>?_
  exact fin g3 e (fun k o n1 _ n3 _ w=>k3.extBut _ _ n1 (k2 _ _ n3 (k1.extBut _ _ n1 w))) ⟨u,k3.extBut _ _ ez hu,cu⟩
 |some x=>
  have ey:ys[n]?=none:=hx.resolve_left (by rw[ex];simp)
  refine wpAny_bind (rZ (hi.extBut k1.extBut N.i1z) (ha.extBut k1.extBut N.l1z) ex fun g2 i2 k2=>wpAny_pure ?_)
  have O2:IsPair g2 O c d:=k2.extBut _ _ N.TOi1 (k1.extBut _ _ N.TOz hO)
  refine wpAny_bind (wpAny_seqItems O2 rfl ?_);refine wpAny_bind (wpAny_updateSeq_pair O2 fun g3 O3 k3=>?_)
  refine wpAny_bind (wpAny_letGo (wpAny_pure ?_));refine wpAny_bind (wpAny_bind (wpAny_onRaise ?_));show wpAny _ _ (Builtin.SmallTypes.nextOf (.ref j) >>= _) _ _ _
  refine wpAny_bind (w8 hh (((hj.extBut k1.extBut N.i2z).extBut k2.extBut N.i12.symm).extBut k3.extBut N.TOi2.symm) (((hb.extBut k1.extBut N.l2z).extBut k2.extBut N.l2i1).extBut k3.extBut N.l2TO) ey fun g4 e k4 ⟨u,hu,cu⟩=>?_)
  have z4:IsZip g4 z P O .ellipsis:=k4 _ _ N.i2z.symm (k3.extBut _ _ N.TOz.symm (k2.extBut _ _ N.i1z.symm z1))
  have ez:e≠z:=fun w=>by subst w;rw[z4]at hu;cases hu;simp at cu
  refine wpAny_setField_rec z4 (by simp) fun g5 _ k5=>?_
  exact fin g5 e (fun k o n1 n2 n3 n4 w=>k5.extBut _ _ n1 (k4 _ _ n4 (k3.extBut _ _ n2 (k2.extBut _ _ n3 (k1.extBut _ _ n1 w))))) ⟨u,k5.extBut _ _ ez hu,cu⟩
end
noncomputable abbrev AY (k:Bool) (h:Heap) (a:Addr):Heap:=h.push { cls:=.type (if k then "tuple_iterator" else "list_iterator"),data:=.fields #[.ref a,.int 0 0] }
noncomputable abbrev Cn (ka kb:Bool)(h:Heap)(a b:Addr):Heap:=AY kb (AY ka h a) b
noncomputable abbrev Co (ka kb:Bool) (h:Heap) (a b:Addr):Heap:=(Cn ka kb h a b).push { cls:=.type "tuple",data:=.seq #[.ref h.objs.size,.ref (AY ka h a).objs.size] }
noncomputable abbrev Cp (ka kb:Bool) (h:Heap) (a b:Addr):Heap:=(Co ka kb h a b).push { cls:=.type "tuple",data:=.seq #[.none,.none] }
noncomputable abbrev sz5 (ka kb:Bool) (h:Heap) (a b:Addr):Heap:=(Cp ka kb h a b).push { cls:=.type "zip",data:=.fields #[.none,.bool false,.bool false,.ref (Cn ka kb h a b).objs.size,.ref (Co ka kb h a b).objs.size] }
theorem r6 (ka kb:Bool) (a b:Addr) (xs ys:Array Value):Meets (Builtin.«zip.__new__» ⟨[.type "zip",.ref a,.ref b],[]⟩) (fun _ R s=>SAt ka s.heap a xs/\SAt kb s.heap b ys/\R (.ok (.ret (.ref (Cp ka kb s.heap a b).objs.size))) { s with heap:=sz5 ka kb s.heap a b }):=
 .of_wp fun prog w A R s h=>by
  obtain⟨hp,g,d,tk,os⟩:=s
  obtain⟨ha,hb,h⟩:=h
  have hsub:=PySem.sub_zip
  cases ka<;>cases kb
  ·have h1:Heap.IsList (Shared.heap ⟨hp,g,d,tk,os⟩) a xs:=ha
   have h2:Heap.IsList (Shared.heap ⟨hp.push { cls:=.type "list_iterator",data:=.fields #[.ref a,.int 0 0] },g,d,tk,os⟩) b ys:=Heap.IsList.push hb _
   wp_walk using wpAny_pyIter_list h1,wpAny_pyIter_list h2
   exact⟨_,rfl,h⟩
  ·have h1:Heap.IsList (Shared.heap ⟨hp,g,d,tk,os⟩) a xs:=ha
   have h2:IsTup (Shared.heap ⟨hp.push { cls:=.type "list_iterator",data:=.fields #[.ref a,.int 0 0] },g,d,tk,os⟩) b ys:=IsTup.push hb _
   wp_walk using wpAny_pyIter_list h1,iter_tuple h2
   exact⟨_,rfl,h⟩
  ·have h1:IsTup (Shared.heap ⟨hp,g,d,tk,os⟩) a xs:=ha
   have h2:Heap.IsList (Shared.heap ⟨hp.push { cls:=.type "tuple_iterator",data:=.fields #[.ref a,.int 0 0] },g,d,tk,os⟩) b ys:=Heap.IsList.push hb _
   wp_walk using iter_tuple h1,wpAny_pyIter_list h2
   exact⟨_,rfl,h⟩
  ·have h1:IsTup (Shared.heap ⟨hp,g,d,tk,os⟩) a xs:=ha
   have h2:IsTup (Shared.heap ⟨hp.push { cls:=.type "tuple_iterator",data:=.fields #[.ref a,.int 0 0] },g,d,tk,os⟩) b ys:=IsTup.push hb _
   wp_walk using iter_tuple h1,iter_tuple h2
   exact⟨_,rfl,h⟩
section
variable {prog:Program}{w:World}{A:Around}{E:Value->Shared->Prop}{s:Shared}
theorem pV {ka kb:Bool}{a b:Addr}{xs ys:Array Value}{Q:Value->Shared->Prop}(ha:SAt ka s.heap a xs)(hb:SAt kb s.heap b ys)
 (q:∀ g,IsZip g (s.heap.objs.size+4) (s.heap.objs.size+2) (s.heap.objs.size+3) .none->IsPair g (s.heap.objs.size+2) (.ref s.heap.objs.size) (.ref (s.heap.objs.size+1))->IsPair g (s.heap.objs.size+3) .none .none->
   SIt ka g s.heap.objs.size a 0->SIt kb g (s.heap.objs.size+1) b 0->(∀ c o,s.heap.get? c=some o->g.get? c=some o)->Q (.ref (s.heap.objs.size+4)) { s with heap:=g }):wpAny (model prog w) A (call (.type "zip") [.ref a,.ref b]) Q E s:=by
 refine callType_new F.called_zip (by decide) (F.typeCall_zip_2 _ _) (F.newCall_zip_2 _ _) (fun obj=>F.args_object_init_3 obj _ _) F.entry_zip_new (r6 ka kb a b xs ys) ⟨ha,hb,?_⟩
 have z1:(AY ka s.heap a).objs.size=s.heap.objs.size+1:=Heap.size_push ..
 have z2:(Cn ka kb s.heap a b).objs.size=s.heap.objs.size+2:=by rw[Heap.size_push,z1]
 have z3:(Co ka kb s.heap a b).objs.size=s.heap.objs.size+3:=by rw[Heap.size_push,z2]
 have z4:(Cp ka kb s.heap a b).objs.size=s.heap.objs.size+4:=by rw[Heap.size_push,z3]
 have pu:∀{h:Heap}{c:Addr}{o:Obj}(x:Obj),h.get? c=some o->(h.push x).get? c=some o:=fun x e=>Heap.get?_push_of_some x e
 have g5:(sz5 ka kb s.heap a b).get? (Cp ka kb s.heap a b).objs.size=some _:=Heap.get?_push_size _ rfl
 have g4:(sz5 ka kb s.heap a b).get? (Co ka kb s.heap a b).objs.size=some _:=pu _ (Heap.get?_push_size _ rfl)
 have g3:(sz5 ka kb s.heap a b).get? (Cn ka kb s.heap a b).objs.size=some _:=pu _ (pu _ (Heap.get?_push_size _ rfl))
 have g2:(sz5 ka kb s.heap a b).get? (AY ka s.heap a).objs.size=some _:=pu _ (pu _ (pu _ (Heap.get?_push_size _ rfl)))
 have g1:(sz5 ka kb s.heap a b).get? s.heap.objs.size=some _:=pu _ (pu _ (pu _ (pu _ (Heap.get?_push_size _ rfl))))
 show _/\_
 rw[z2,z3,z4]at g5
 rw[z1,z2]at g3
 rw[z3]at g4
 rw[z1]at g2
 rw[z4]
 exact⟨⟨_,g5,rfl⟩,q _ g5 g3 g4 ⟨_,g1,rfl,rfl⟩ ⟨_,g2,rfl,rfl⟩ fun c o x=>pu _ (pu _ (pu _ (pu _ (pu _ x))))⟩
end
end L2
namespace L2
open PySem PySem.Spec PyProof.Rows
noncomputable def jm (kts:List (Addr×List V))(a:Addr)(o:Obj)(ns:List Int):Hp:=fun b=>match kts.lookup b with
 |some xs=>some (.tup xs)
 |none=>if b=a then some (.frz o (.lst (ns.map V.int))) else none
section
variable {kts:List (Addr×List V)}{a b:Addr}{o:Obj}{ns:List Int}{xs:List V}
theorem vi (e:kts.lookup b=some xs):jm kts a o ns b=some (.tup xs):=by unfold jm;rw[e]
theorem vj (e:kts.lookup a=none):jm kts a o ns a=some (.frz o (.lst (ns.map V.int))):=by unfold jm;rw[e];exact if_pos rfl
theorem vk (e:kts.lookup b=none)(n:b≠a):jm kts a o ns b=none:=by unfold jm;rw[e];exact if_neg n
end
theorem gA:∀{vs:List Value}{ns:List Int},IntsAre vs ns->Vals (ns.map V.int) vs
 |_,_,.nil=>.nil
 |_,_,.cons n t h=>.cons ⟨t,rfl⟩ (gA h)
theorem pW {P:Program}{w:World}{K:PySem.W.Frag}{mg mb:Str->Option Value}{CX:CXT}{k:Nat}{fa a:Addr}{fd:FuncData}{x:Str}{sp:Sp}{s₁:Shared}{vs:List Value}{ns:List Int}{kts:List (Addr×List V)}
 (KX:K.In s₁.heap) (hns:s₁.heap.Ns mainGlobals mg) (hb:s₁.heap.Ns builtinsNs mb) (hbb:∀ x:Str,x≠"__name__"->mb x=bootBuiltins x) (hlim:s₁.heap.NoLimit) (hg:s₁.gens=#[])
 (ha:s₁.heap.get? a=some { cls:=.type "list",data:=.seq vs.toArray }) (hi:IntsAre vs ns) (hl:ns.length<=sizeLine) (hr:Room k callerA)
 (hK:∀ o,K.lookup a=some o->o.cls=.type "list"->False)
 (hT:∀ b xs,kts.lookup b=some xs->K.lookup b=none/\∃(o:Obj)(its:Array Value)(n:Nat),s₁.heap.get? b=some o/\o.cls=.type "tuple"/\o.data=.seq its n/\its.size<=sizeLine/\Vals xs its.toList)
 (hM:∀ p∈K,∀ b xs,mC p.2=some (b,xs)->kts.lookup b=some xs)
 (F:∀ base:Heap,K.In base->base.Ns mainGlobals mg->FnOk P w K mg base CX k fa fd [x] sp) (hbind:∀(s:Shared)(u:Value),BindsTo s fd ⟨[u],[]⟩ [(x,u)])
 (hsp:∀ H:Hp,(∃ o,H a=some (.frz o (.lst (ns.map V.int))))->sp [.ref a] H (fun v _=>v=.bl true) fun _ _ _=>False)
 (hCX:∀ H e s',CX [] H s₁ (fun _ _ _=>False) e s'->False) :
 codeAny (model P w) callerA (.call (.ref fa) ⟨[.ref a],[]⟩) (fun r s'=>r=.ok (.ret (.bool true))/\OldK s₁.heap s'.heap/\s'.os=s₁.os/\AllBare s'.gens) s₁:=by
 have rv:=gA hi
 have noK:K.lookup a=none:=by
  cases q:K.lookup a with
  |none=>rfl
  |some o=>
   have e:=KX a o q
   rw[ha]at e
   cases e
   exact(hK _ q rfl).elim
 have noT:kts.lookup a=none:=by
  cases q:kts.lookup a with
  |none=>rfl
  |some xs=>
   obtain⟨_,o,its,n,e,c,_⟩:=hT a xs q
   rw[ha]at e
   cases e
   exact absurd c (by simp)
 obtain⟨ob,eob⟩ : ∃ ob:Obj,ob={ cls:=.type "list",data:=.seq vs.toArray }:=⟨_,rfl⟩
 rw[<- eob]at ha
 generalize eH:jm kts a ob ns=H
 have Ha:H a=some (.frz ob (.lst (ns.map V.int))):=by rw[<- eH];exact vj noT
 have Ht:∀ b xs,kts.lookup b=some xs->H b=some (.tup xs):=fun b xs e=>by rw[<- eH];exact vi e
 have Hn:∀ b,kts.lookup b=none->b≠a->H b=none:=fun b e n=>by rw[<- eH];exact vk e n
 have freeK:∀ b o,K.lookup b=some o->H b=none:=fun b o e=>by
  refine Hn b ?_ fun z=>by rw[z,noK]at e;cases e
  cases q:kts.lookup b with
  |none=>rfl
  |some xs=>rw[(hT b xs q).1]at e;cases e
 have freeD:∀(b:Addr)(o:Obj)(es:Array DictEntry)(ep:Nat),s₁.heap.get? b=some o->o.data=.dict es ep->H b=none:=fun b o es ep e d=>by
  refine Hn b ?_ fun z=>?_
  ·cases q:kts.lookup b with
   |none=>rfl
   |some xs=>
    obtain⟨_,o',its,n,e',_,d',_⟩:=hT b xs q
    rw[e]at e';cases e'
    rw[d]at d';cases d'
  ·rw[z,ha]at e;cases e
   rw[eob]at d;cases d
 have nsK:∀{b:Addr}{m:Str->Option Value},s₁.heap.Ns b m->(mz s₁.heap H).Ns b m:=fun{b m} ⟨o,es,ep,e,d,r⟩=>⟨o,es,ep,mB e (freeD b o es ep e d),d,r⟩
 have hKb:K.In (mz s₁.heap H):=fun b o e=>mB (KX b o e) (freeK b o e)
 have hMd:Mod K mg (mz s₁.heap H):=⟨hKb,nsK hns,⟨mb,nsK hb,hbb⟩,let ⟨mc,h1,h2⟩:=hlim;⟨mc,nsK h1,h2⟩⟩
 have hok:HOk P w H s₁.heap:=fun b u e=>by
  cases q:kts.lookup b with
  |some xs=>
   rw[Ht b xs q]at e;cases e
   obtain⟨_,o,its,n,e1,c,d,z,r⟩:=hT b xs q
   refine⟨by rw[r.length];simpa using z,its.toList,r,o,e1,c,n,by simpa using d⟩
  |none=>
   by_cases hba:b=a
   ·rw[hba,Ha]at e;cases e
    rw[hba]
    exact⟨ha,by rw[List.length_map];exact hl,vs,_,rv,by rw[ha,eob]⟩
   ·rw[Hn b q hba]at e;cases e
 have e0:Env0 P w K mg (mz s₁.heap H) callerA [] s₁ H:=
  ⟨rfl,hMd,fun b o e=>uT e,Nat.le_of_eq (pJ _ _),trivial,fun b hb=>absurd (show b∈([]:List Addr) from hb) (by simp),hok,.of_eq hg,fun p hp b xs e=>Ht b xs (hM p hp b xs e)⟩
 refine codeAny_mono ((F _ hKb (nsK hns)).run callerA [] s₁ H ⟨[.ref a],[]⟩ [.ref a] [.ref a] _ _ hr e0 (hbind s₁ (.ref a)) (.cons rfl .nil) (hsp H ⟨ob,Ha⟩)) fun r s' h=>?_
 cases r with
 |error e=>exact(hCX H e s' h).elim
 |ok fl=>
  cases fl with
  |next=>exact False.elim h
  |brk=>exact False.elim h
  |cont=>exact False.elim h
  |ret u=>
   obtain⟨v,H',os,bare,un,hok',r',q⟩:=h
   have q':v=.bl true:=q
   subst q'
   obtain rfl:u=Value.bool true:=r'
   refine⟨rfl,OldK.of_keep fun b o e=>?_,os,bare⟩
   by_cases hba:b=a
   ·rw[hba]at e ⊢
    have z2:=un.frzs a ob _ Ha
    obtain⟨e2,_⟩:=hok' a _ z2
    rw[ha]at e;cases e
    exact e2
   ·refine un.keep b o e ?_ (by intro z;exact absurd (show b∈([]:List Addr) from z) (by simp)) (by simp)
    cases q:kts.lookup b with
    |none=>exact .inl (Hn b q hba)
    |some xs=>exact .inr ⟨xs,Ht b xs q⟩
noncomputable def CZ:V->Value
 | .str x=>.str x 0
 | .ref a=>.ref a
 |_=>.none
noncomputable def jo (p:Addr×List V):Obj:={ cls:=.type "kt",data:=.seq (Value.ref p.1::p.2.map CZ).toArray }
noncomputable def rk (K:PySem.W.Frag)(g:Addr)(kts:List (Addr×List V)):PySem.W.Frag:=K.filter (fun p=>(kts.lookup p.1).isNone)++kts.map fun p=>(g,jo p)
section
variable {K K':PySem.W.Frag}{g:Addr}{kts:List (Addr×List V)}
theorem cD {b:Addr}:∀{K:PySem.W.Frag},(K.filter (fun p=>(kts.lookup p.1).isNone)).lookup b=if (kts.lookup b).isNone then K.lookup b else none
 | []=>by simp
 |(c,o)::r=>by
  rw[List.filter_cons]
  by_cases hbc:b=c
  ·subst hbc
   by_cases h:(kts.lookup b).isNone=true
   ·rw[if_pos h,if_pos h,List.lookup_cons,List.lookup_cons];simp
   ·rw[if_neg h,cD,if_neg h,if_neg h]
  ·have hb':(b==c)=false:=by simpa using hbc
   have e2:List.lookup b ((c,o)::r)=List.lookup b r:=by rw[List.lookup_cons,hb']
   rw[e2]
   split
   ·rw[List.lookup_cons,hb'];exact cD
   ·exact cD
theorem gc {b:Addr}:∀{l l':PySem.W.Frag},(l++l').lookup b=(l.lookup b).or (l'.lookup b)
 | [],_=>by simp
 |(c,o)::r,l'=>by
  rw[List.cons_append,List.lookup_cons,List.lookup_cons]
  split
  ·rfl
  ·exact gc
theorem gd {b:Addr}{o:Obj}:∀{l:List (Addr×List V)},(l.map fun p=>(g,jo p)).lookup b=some o->b=g
 | [],e=>by cases e
 |p::r,e=>by
  rw[List.map_cons,List.lookup_cons]at e
  split at e
  ·rename_i h;simpa using h
  ·exact gd e
theorem r8 {b:Addr}{o:Obj}(hg:(K.lookup g).isSome=true/\kts.lookup g=none)(e:(rk K g kts).lookup b=some o):kts.lookup b=none/\K.lookup b=some o:=by
 unfold rk at e
 rw[gc,cD]at e
 cases q:kts.lookup b with
 |some xs=>
  rw[q]at e
  simp at e
  have:=gd e
  rw[this,hg.2]at q;cases q
 |none=>
  rw[q]at e
  simp only[Option.isNone_none,if_true]at e
  cases ek:K.lookup b with
  |some o'=>
   rw[ek]at e
   simp at e
   exact⟨rfl,by rw[e]⟩
  |none=>
   rw[ek]at e
   simp at e
   have hm:=gd e
   subst hm
   have:=hg.1
   rw[ek]at this;cases this
theorem r9 {b:Addr}{o:Obj}(n:kts.lookup b=none)(e:K.lookup b=some o):(rk K g kts).lookup b=some o:=by
 unfold rk
 rw[gc,cD,n,e];rfl
noncomputable def pX (K:PySem.W.Frag) (kts:List (Addr×List V)):Prop:=∀ p∈kts,p.2.map (fun v=>CA (CZ v))=p.2/\∃(o:Obj)(its:Array Value)(n:Nat),K.lookup p.1=some o/\o.cls=.type "tuple"/\o.data=.seq its n/\its.size<=sizeLine/\Vals p.2 its.toList
noncomputable def AZ (K:PySem.W.Frag):Bool:=K.all fun p=>(mC p.2).isNone
theorem eZ {b:Addr}{xs:List V}:∀{l:List (Addr×List V)},l.lookup b=some xs->(b,xs)∈l
 | [],e=>by cases e
 |(c,ys)::r,e=>by
  rw[List.lookup_cons]at e
  split at e
  ·rename_i h
   cases e
   obtain rfl:b=c:=by simpa using h
   exact List.mem_cons_self
  ·exact List.mem_cons_of_mem _ (eZ e)
theorem kJ {p:Addr×List V}(h:p.2.map (fun v=>CA (CZ v))=p.2):mC (jo p)=some p:=by
 unfold mC jo
 simp only[beq_self_eq_true,if_true]
 rw[List.map_map]
 exact congrArg some (Prod.ext rfl h)
theorem pY (hn:AZ K=true)(hk:pX K kts)(hd:(kts.map (·.1)).Nodup):∀ p∈rk K g kts,∀ b xs,mC p.2=some (b,xs)->kts.lookup b=some xs:=fun p hp b xs e=>by
 unfold rk at hp
 rcases List.mem_append.mp hp with hp|hp
 ·have h1:=List.all_eq_true.mp hn p (List.mem_filter.mp hp).1
  rw[e]at h1;cases h1
 ·obtain⟨q,hq,rfl⟩:=List.mem_map.mp hp
  rw[kJ (hk q hq).1]at e
  cases e
  clear hp hk hn
  revert hq hd
  generalize kts=ks
  intro hd hq
  induction ks with
  |nil=>cases hq
  |cons c r ih=>
   obtain⟨c1,c2⟩:=c
   rw[List.map_cons,List.nodup_cons]at hd
   rcases List.mem_cons.mp hq with z|z
   ·cases z
    rw[List.lookup_cons];simp
   ·rw[List.lookup_cons]
    have:(b==c1)=false:=by
     simp only[beq_eq_false_iff_ne,ne_eq]
     intro z'
     exact hd.1 (by rw[<- z'];exact List.mem_map.mpr ⟨_,z,rfl⟩)
    rw[this]
    exact ih hd.2 z
theorem bx {a:Addr}{xs:List V}(h:(a,xs)∈kts)(hk:pX K kts):∃ p∈rk K g kts,mC p.2=some (a,xs):=
 ⟨(g,jo (a,xs)),by unfold rk;exact List.mem_append.mpr (.inr (List.mem_map.mpr ⟨_,h,rfl⟩)),kJ (hk _ h).1⟩
structure SubK (K K':PySem.W.Frag):Prop where
 look:∀ b o,K.lookup b=some o->(∀ its n,o.data≠.seq its n)->K'.lookup b=some o
theorem vm (hk:pX K kts):SubK K (rk K g kts):=⟨fun b o e d=>r9 (by
 cases q:kts.lookup b with
 |none=>rfl
 |some xs=>
  obtain⟨_,o',its,n,e',_,d',_⟩:=hk _ (eZ q)
  have e'':K.lookup b=some o':=e'
  rw[e]at e'';cases e''
  exact(d its n d').elim) e⟩
theorem SubK.code (S:SubK K K'){cd:Value}{q:Str}(h:PySem.W.codeIn K cd q=true):PySem.W.codeIn K' cd q=true:=by
 unfold PySem.W.codeIn at h ⊢
 cases cd with
 |ref c=>
  dsimp only at h ⊢
  cases e:K.lookup c with
  |none=>rw[e]at h;cases h
  |some o=>
   obtain⟨o1,o2,o3,o4⟩:=o
   cases o3 with
   |fields vs=>rw[S.look c _ e (fun _ _ z=>nomatch z)];rw[e]at h;exact h
   |_=>rw[e]at h;cases h
 |_=>cases h
theorem SubK.keep (S:SubK K K'){f:Addr}{o1:Value}{o2:Option Addr}{fd:FuncData}{o4:Array (Option Value)}(e:K.lookup f=some ⟨o1,o2,.func fd,o4⟩):PySem.W.keepIn K' (.ref f)=true:=by
 unfold PySem.W.keepIn
 dsimp only
 rw[S.look f _ e (fun _ _ z=>nomatch z)]
theorem SubK.ns (S:SubK K K'){n:Addr}{x:Str}{r:Option Value}(h:PySem.W.nsIn K n x=some r):PySem.W.nsIn K' n x=some r:=by
 unfold PySem.W.nsIn at h ⊢
 cases e:K.lookup n with
 |none=>rw[e]at h;cases h
 |some o=>
  obtain⟨o1,o2,o3,o4⟩:=o
  cases o3 with
  |dict es ep=>rw[S.look n _ e (fun _ _ z=>nomatch z)];rw[e]at h;exact h
  |_=>rw[e]at h;cases h
theorem SubK.nsOk (S:SubK K K'){n:Addr}(h:PySem.W.nsOkIn K n=true):PySem.W.nsOkIn K' n=true:=by
 unfold PySem.W.nsOkIn at h ⊢
 cases e:K.lookup n with
 |none=>rw[e]at h;cases h
 |some o=>
  obtain⟨o1,o2,o3,o4⟩:=o
  cases o3 with
  |dict es ep=>rw[S.look n _ e (fun _ _ z=>nomatch z)];rw[e]at h;exact h
  |_=>rw[e]at h;cases h
theorem SubK.tail (S:SubK K K'){bm:List Value}:∀{l:List Value},PySem.W.tailIn K bm l=true->PySem.W.tailIn K' bm l=true
 | [],h=>h
 |v::r,h=>by
  unfold PySem.W.tailIn at h ⊢
  rw[Bool.or_eq_true]at h ⊢
  refine h.imp id fun h=>?_
  cases v with
  |ref A=>
   dsimp only at h ⊢
   cases e:K.lookup A with
   |none=>rw[e]at h;cases h
   |some o=>
    obtain⟨o1,o2,o3,o4⟩:=o
    cases o3 with
    |cls cd=>
     rw[S.look A _ e (fun _ _ z=>nomatch z)];rw[e]at h
     dsimp only at h ⊢
     simp only[Bool.and_eq_true,beq_iff_eq]at h ⊢
     exact⟨⟨S.nsOk h.1.1,S.ns h.1.2⟩,S.tail h.2⟩
    |_=>rw[e]at h;cases h
  |_=>cases h
theorem SubK.exc (S:SubK K K'){C:Addr}{bm:List Value}{i:String}(h:PySem.W.excIn K C bm i=true):PySem.W.excIn K' C bm i=true/\rP K' C=rP K C:=by
 unfold PySem.W.excIn at h ⊢
 unfold rP
 cases e:K.lookup C with
 |none=>rw[e]at h;cases h
 |some o=>
  obtain⟨o1,o2,o3,o4⟩:=o
  rw[e]at h
  cases o3 with
  |cls cd=>
   rw[S.look C _ e (fun _ _ z=>nomatch z)]
   refine⟨?_,rfl⟩
   split at h
   ·rename_i dd cd' sl he
    injection he with he
    injection he with he1 he2 he3 he4
    injection he3 with he3
    subst he1 he2 he3 he4
    try dsimp only at h
    try dsimp only
    split at h
    ·rename_i hm hs
     simp only[Bool.and_eq_true,beq_iff_eq]at h ⊢
     exact⟨⟨⟨h.1.1.1,S.tail h.1.1.2⟩,S.nsOk h.1.2⟩,S.ns h.2⟩
    ·cases h
   ·cases h
  |_=>split at h<;>first|cases h|(rename_i he;injection he with he;injection he with _ _ he _;cases he)
end
noncomputable def oK:Value->Bool
 | .type n=>n=="list"
 |_=>false
noncomputable def C0 (K:PySem.W.Frag):Bool:=K.all fun p=>!oK p.2.cls
theorem r_ {a:Addr} {o:Obj}:∀{K:PySem.W.Frag},C0 K=true->K.lookup a=some o->o.cls=.type "list"->False
 | [],_,e,_=>by cases e
 |(b,x)::r,h,e,c=>by
  unfold C0 at h
  rw[List.all_cons,Bool.and_eq_true]at h
  rw[List.lookup_cons]at e
  split at e
  ·cases e
   rw[c]at h
   have h1:=h.1
   simp[oK]at h1
  ·exact r_ (K:=r) h.2 e c
section
variable {l:PySem.W.OpenLaw}{n k:Nat}{q:Program}{loose:List Str}{XP:(Str->Option Value)->Heap->Prop}{YP:World->Heap->Prop}{d:DefRec}{K:Params->PySem.W.Frag}{CX:World->CXT}{sp:World->Sp}{x:Str}
theorem sd {kts:List (Addr×List V)}(hn:l.most=some n)(hn2:n<=sizeLine)(hdf:d.params.defaults=[])(hr:Room k callerA)(hY:∀(w:World)(h:Heap),YP w h->(K w.params).In h)
 (hT:∀ w:World,pX (K w.params) kts) (hd:decide (kts.map (·.1)).Nodup=true/\(kts.lookup mainGlobals).isNone=true)
 (hL:∀ w:World,C0 (K w.params)=true/\AZ (K w.params)=true/\((K w.params).lookup mainGlobals).isSome=true)
 (F:∀(w:World)(mg:Str->Option Value)(fa:Addr)(h:Heap),(K w.params).In h->h.Ns mainGlobals mg->mg d.name=some (.ref fa)->pX (K w.params) kts->
   ∃ fd:FuncData,(∀(s:Shared)(u:Value),BindsTo s fd ⟨[u],[]⟩ [(x,u)])/\∀ base:Heap,FnOk l.prog w (rk (K w.params) mainGlobals kts) mg base (CX w) k fa fd [x] (sp w))
 (hsp:∀(w:World)(H:Hp)(a:Addr)(ns:List Int),ns.length<=n->(∃ o,H a=some (.frz o (.lst (ns.map V.int))))->sp w [.ref a] H (fun v _=>v=.bl true) fun _ _ _=>False)
 (hCX:∀(w:World)(H:Hp)(s:Shared)(e:Value)(s':Shared),CX w [] H s (fun _ _ _=>False) e s'->False) :
 PySem.W.WalkO q loose XP YP l.row.toRowW d [] (fun f vs=>PySem.call f vs):=by
 refine Att.attach_call hn hdf fun w s₀ s₁ mg mb fa o pm cd doc a vs ns G Y ho hd' hcd hmg hobj hints bA hg=>?_
 have KX:=hY w _ Y
 obtain⟨fd,hb,hF⟩:=F w mg fa _ KX G.T.g hmg (hT w)
 have g0:((K w.params).lookup mainGlobals).isSome=true/\kts.lookup mainGlobals=none:=⟨(hL w).2.2,Option.isNone_iff_eq_none.mp hd.2⟩
 have lk:∀ b o,(rk (K w.params) mainGlobals kts).lookup b=some o->kts.lookup b=none/\(K w.params).lookup b=some o:=fun b o e=>r8 g0 e
 refine pW (kts:=kts) (fun b o e=>KX b o (lk b o e).2) G.T.g G.T.b G.T.builtins G.T.nolimit hg hobj hints (Nat.le_trans bA hn2) hr (fun o e c=>r_ (hL w).1 (lk _ _ e).2 c) (fun b xs e=>⟨?_,?_⟩)
  (pY (hL w).2.1 (hT w) (of_decide_eq_true hd.1)) (fun base _ _=>hF base) hb (fun H hS=>hsp w H a ns bA hS) fun H e s'=>hCX w H s₁ e s'
 ·cases z:(rk (K w.params) mainGlobals kts).lookup b with
  |none=>rfl
  |some o=>rw[(lk b o z).1]at e;cases e
 ·obtain⟨_,o,its,n,e1,r⟩:=hT w _ (eZ e)
  exact⟨o,its,n,KX _ _ e1,r⟩
end
end L2
set_option autoImplicit true
namespace L3
open PySem PySem.Spec PyProof.Rows L2
noncomputable abbrev DK:=Sum Key (List Key)
inductive D where
 |non|bl (b:Bool)|int (i:Int)|str (x:Str)|tup (ds:List D)|lst (ds:List D)|dic (ks:List DK) (ds:List D)
mutual
noncomputable def D.flat:D->Bool
 | .lst _=>false
 | .dic _ _=>false
 | .tup ds=>D.flats ds
 |_=>true
noncomputable def D.flats:List D->Bool
 | []=>true
 |d::ds=>d.flat&&D.flats ds
end
mutual
noncomputable def D.dep:D->Nat
 | .lst ds=>D.deps ds+1
 | .tup ds=>D.deps ds+1
 | .dic _ ds=>D.deps ds+1000
 |_=>0
noncomputable def D.deps:List D->Nat
 | []=>0
 |d::ds=>max d.dep (D.deps ds)
end
mutual
noncomputable def cq:D->D->Bool
 | .non,e=>match e with|.non=>true|_=>false
 | .bl a,e=>match e with|.bl b=>a==b|.int b=>(if a then 1 else 0)==b|_=>false
 | .int a,e=>match e with|.int b=>a==b|.bl b=>a==(if b then 1 else 0)|_=>false
 | .str a,e=>match e with|.str b=>a==b|_=>false
 | .tup as,e=>match e with|.tup bs=>eqDs as bs|_=>false
 | .lst as,e=>match e with|.lst bs=>eqDs as bs|_=>false
 | .dic ks as,e=>match e with|.dic ls bs=>decide (ks=ls)&&eqDs as bs|_=>false
noncomputable def eqDs:List D->List D->Bool
 | [],bs=>match bs with|[]=>true|_=>false
 |a::as,bs=>match bs with|b::r=>cq a b&&eqDs as r|[]=>false
end
mutual
theorem cc:∀ d:D,cq d d=true
 | .non=>rfl
 | .bl a=>by simp[cq]
 | .int a=>by simp[cq]
 | .str a=>by simp[cq]
 | .tup as=>by simp only[cq];exact eqDs_refl as
 | .lst as=>by simp only[cq];exact eqDs_refl as
 | .dic ks as=>by simp only[cq,decide_true,Bool.true_and];exact eqDs_refl as
theorem eqDs_refl:∀ ds:List D,eqDs ds ds=true
 | []=>rfl
 |d::ds=>by simp only[eqDs,cc d,eqDs_refl ds,Bool.and_self]
end
noncomputable def DAt (H:Hp)(a:Addr)(ks:List DK)(vs:List V):Prop:=
 (∃ kvs:List (Key×V),Rd H a (.dK kvs)/\ks=kvs.map (fun p=>.inl p.1)/\vs=kvs.map Prod.snd)\/∃ kvs:List (List Key×V),Rd H a (.dT kvs)/\ks=kvs.map (fun p=>.inr p.1)/\vs=kvs.map Prod.snd
noncomputable def A0:HO->Prop
 | .lst _=>True
 | .dK _=>True
 | .dT _=>True
 |_=>False
noncomputable def Mu (H:Hp)(a:Addr):Prop:=∃ o,H a=some o/\A0 o
theorem Mu.lst {H:Hp}{a:Addr}{vs:List V}(h:H a=some (.lst vs)):Mu H a:=⟨_,h,True.intro⟩
theorem Mu.same {H H':Hp}{a:Addr}(h:Mu H a)(s:∀ o,H a=some o->H' a=some o):Mu H' a:=let ⟨o,e,m⟩:=h;⟨o,s o e,m⟩
theorem Mu.some {H:Hp}{a:Addr}(h:Mu H a):H a≠none:=by obtain⟨o,e,_⟩:=h;rw[e];simp
theorem sf {H:Hp}{a:Addr}{u:HO}(h:Rd H a u):∃ o,H a=some o:=h.elim (fun e=>⟨_,e⟩) fun⟨_,e⟩=>⟨_,e⟩
theorem sj {H H':Hp}{a:Addr}{u:HO}(h:Rd H a u)(s:∀ o,H a=some o->H' a=some o):Rd H' a u:=h.imp (s _) fun⟨o,e⟩=>⟨o,s _ e⟩
theorem DAt.obj {H:Hp}{a:Addr}{ks:List DK}{vs:List V}(h:DAt H a ks vs):∃ o,H a=some o:=h.elim (fun⟨_,e,_⟩=>sf e) fun⟨_,e,_⟩=>sf e
theorem DAt.keep {H H':Hp}{a:Addr}{ks:List DK}{vs:List V}(h:DAt H a ks vs)(s:∀ o,H a=some o->H' a=some o):DAt H' a ks vs:=
 h.imp (fun⟨kvs,e,r⟩=>⟨kvs,sj e s,r⟩) fun⟨kvs,e,r⟩=>⟨kvs,sj e s,r⟩
theorem DAt.inj {H:Hp}{a:Addr}{ks ls:List DK}{vs ws:List V}(h:DAt H a ks vs)(g:DAt H a ls ws):ks=ls/\vs=ws:=by
 rcases h with⟨k1,e1|⟨o1,e1⟩,r1,r2⟩|⟨k1,e1|⟨o1,e1⟩,r1,r2⟩<;>rcases g with⟨k2,e2|⟨o2,e2⟩,q1,q2⟩|⟨k2,e2|⟨o2,e2⟩,q1,q2⟩<;>(rw[e1]at e2;cases e2;try exact⟨r1.trans q1.symm,r2.trans q2.symm⟩)
noncomputable def C1:HO->Prop
 | .dK _=>False
 | .dT _=>False
 | .frz _ (.dK _)=>False
 | .frz _ (.dT _)=>False
 |_=>True
theorem DAt.no {H:Hp}{a:Addr}{ks:List DK}{vs:List V}{o:HO}(h:DAt H a ks vs)(e:H a=some o)(n:C1 o):False:=by
 rcases h with⟨k,z|⟨o',z⟩,_⟩|⟨k,z|⟨o',z⟩,_⟩<;>(rw[e]at z;cases z;exact n)
mutual
noncomputable def Is (H:Hp)(m:Addr->Prop):D->V->Prop
 | .non,v=>v=.non
 | .bl b,v=>v=.bl b
 | .int i,v=>v=.int i
 | .str x,v=>v=.str x
 | .tup ds,v=>∃ a vs,v=.ref a/\H a=some (.tup vs)/\IsAll H m ds vs
 | .lst ds,v=>∃ a vs,v=.ref a/\((H a=some (.lst vs)/\m a)\/∃ o,H a=some (.frz o (.lst vs))/\m a)/\IsAll H m ds vs
 | .dic ks ds,v=>∃ a vs,v=.ref a/\(DAt H a ks vs/\m a)/\IsAll H m ds vs
noncomputable def IsAll (H:Hp)(m:Addr->Prop):List D->List V->Prop
 | [],vs=>vs=[]
 |d::ds,vs=>∃ v r,vs=v::r/\Is H m d v/\IsAll H m ds r
end
noncomputable def fixd:HO->Prop
 | .tup _=>True
 | .frz _ _=>True
 |_=>False
section
variable {H H':Hp}{m m':Addr->Prop}
mutual
theorem Is.mono (kp:∀ a o,H a=some o->(m a\/fixd o)->H' a=some o)(mm:∀ a o,H a=some o->m a->m' a):∀{d:D}{v:V},Is H m d v->Is H' m' d v
 | .non,_,h=>h
 | .bl _,_,h=>h
 | .int _,_,h=>h
 | .str _,_,h=>h
 | .tup ds,_,h=>by
  obtain⟨a,vs,e,h1,h2⟩:=h
  exact⟨a,vs,e,kp a _ h1 (.inr True.intro),IsAll.mono kp mm h2⟩
 | .lst ds,_,h=>by
  obtain⟨a,vs,e,h1,h2⟩:=h
  refine⟨a,vs,e,?_,IsAll.mono kp mm h2⟩
  rcases h1 with⟨h1,h3⟩|⟨o,h1,h3⟩
  ·exact .inl ⟨kp a _ h1 (.inl h3),mm a _ h1 h3⟩
  ·exact .inr ⟨o,kp a _ h1 (.inr True.intro),mm a _ h1 h3⟩
 | .dic ks ds,_,h=>by
  obtain⟨a,vs,e,h1,h2⟩:=h
  obtain⟨o,eo⟩:=h1.1.obj
  exact⟨a,vs,e,⟨h1.1.keep fun o e=>kp a o e (.inl h1.2),mm a o eo h1.2⟩,IsAll.mono kp mm h2⟩
theorem IsAll.mono (kp:∀ a o,H a=some o->(m a\/fixd o)->H' a=some o)(mm:∀ a o,H a=some o->m a->m' a):∀{ds:List D}{vs:List V},IsAll H m ds vs->IsAll H' m' ds vs
 | [],_,h=>h
 |d::ds,_,h=>by
  obtain⟨v,r,e,h1,h2⟩:=h
  exact⟨v,r,e,Is.mono kp mm h1,IsAll.mono kp mm h2⟩
end
theorem Is.weak (mm:∀ a,m a->m' a){d:D}{v:V}(h:Is H m d v):Is H m' d v:=h.mono (fun _ _ e _=>e) fun a _ _=>mm a
theorem IsAll.weak (mm:∀ a,m a->m' a){ds:List D}{vs:List V}(h:IsAll H m ds vs):IsAll H m' ds vs:=h.mono (fun _ _ e _=>e) fun a _ _=>mm a
theorem Is.same (s:Same H H'){d:D}{v:V}(h:Is H m d v):Is H' m d v:=h.mono (fun a o e _=>s a o e) fun _ _ _ z=>z
theorem IsAll.same (s:Same H H'){ds:List D}{vs:List V}(h:IsAll H m ds vs):IsAll H' m ds vs:=h.mono (fun a o e _=>s a o e) fun _ _ _ z=>z
mutual
theorem Is.flat:∀{d:D}{v:V},d.flat=true->Is H m d v->Is H m' d v
 | .non,_,_,h=>h
 | .bl _,_,_,h=>h
 | .int _,_,_,h=>h
 | .str _,_,_,h=>h
 | .tup ds,_,f,h=>by
  obtain⟨a,vs,e,h1,h2⟩:=h
  exact⟨a,vs,e,h1,IsAll.flat (by simpa only[D.flat] using f) h2⟩
 | .lst ds,_,f,_=>by simp[D.flat]at f
 | .dic ks ds,_,f,_=>by simp[D.flat]at f
theorem IsAll.flat:∀{ds:List D}{vs:List V},D.flats ds=true->IsAll H m ds vs->IsAll H m' ds vs
 | [],_,_,h=>h
 |d::ds,_,f,h=>by
  obtain⟨v,r,e,h1,h2⟩:=h
  simp only[D.flats,Bool.and_eq_true]at f
  exact⟨v,r,e,Is.flat f.1 h1,IsAll.flat f.2 h2⟩
end
mutual
theorem Is.inj:∀{d e:D}{v:V},Is H m d v->Is H m' e v->d=e
 | .non,e,_,h,g=>by cases e<;>first|rfl|(cases h;first|(obtain⟨_,_,z,_⟩:=g;cases z;done)|cases g)
 | .bl _,e,_,h,g=>by cases e<;>(cases h;first|(obtain⟨_,_,z,_⟩:=g;cases z;done)|(cases g;rfl)|cases g)
 | .int _,e,_,h,g=>by cases e<;>(cases h;first|(obtain⟨_,_,z,_⟩:=g;cases z;done)|(cases g;rfl)|cases g)
 | .str _,e,_,h,g=>by cases e<;>(cases h;first|(obtain⟨_,_,z,_⟩:=g;cases z;done)|(cases g;rfl)|cases g)
 | .tup ds,e,_,h,g=>by
  obtain⟨a,vs,rfl,h1,h2⟩:=h
  cases e with
  |tup es=>
   obtain⟨b,ws,z,g1,g2⟩:=g
   cases z
   rw[h1]at g1;cases g1
   rw[IsAll.inj h2 g2]
  |lst es=>
   obtain⟨b,ws,z,g1,g2⟩:=g
   cases z
   rcases g1 with⟨g1,_⟩|⟨o,g1,_⟩<;>(rw[h1]at g1;cases g1)
  |dic ls es=>
   obtain⟨b,ws,z,g1,g2⟩:=g
   cases z
   exact(g1.1.no h1 True.intro).elim
  |_=>cases g
 | .lst ds,e,_,h,g=>by
  obtain⟨a,vs,rfl,h1,h2⟩:=h
  cases e with
  |tup es=>
   obtain⟨b,ws,z,g1,g2⟩:=g
   cases z
   rcases h1 with⟨h1,_⟩|⟨o,h1,_⟩<;>(rw[h1]at g1;cases g1)
  |lst es=>
   obtain⟨b,ws,z,g1,g2⟩:=g
   cases z
   have e:vs=ws:=by
    rcases h1 with⟨h1,_⟩|⟨o,h1,_⟩<;>rcases g1 with⟨g1,_⟩|⟨o',g1,_⟩<;>(rw[h1]at g1;cases g1;try rfl)
   subst e
   rw[IsAll.inj h2 g2]
  |dic ls es=>
   obtain⟨b,ws,z,g1,g2⟩:=g
   cases z
   rcases h1 with⟨h1,_⟩|⟨o,h1,_⟩<;>exact(g1.1.no h1 True.intro).elim
  |_=>cases g
 | .dic ks ds,e,_,h,g=>by
  obtain⟨a,vs,rfl,h1,h2⟩:=h
  cases e with
  |tup es=>
   obtain⟨b,ws,z,g1,g2⟩:=g
   cases z
   exact(h1.1.no g1 True.intro).elim
  |lst es=>
   obtain⟨b,ws,z,g1,g2⟩:=g
   cases z
   rcases g1 with⟨g1,_⟩|⟨o,g1,_⟩<;>exact(h1.1.no g1 True.intro).elim
  |dic ls es=>
   obtain⟨b,ws,z,g1,g2⟩:=g
   cases z
   obtain⟨e1,e2⟩:=h1.1.inj g1.1
   subst e1 e2
   rw[IsAll.inj h2 g2]
  |_=>cases g
theorem IsAll.inj:∀{ds es:List D}{vs:List V},IsAll H m ds vs->IsAll H m' es vs->ds=es
 | [],es,_,h,g=>by
  cases h
  cases es with
  |nil=>rfl
  |cons e es=>obtain⟨_,_,z,_⟩:=g;cases z
 |d::ds,es,_,h,g=>by
  obtain⟨v,r,rfl,h1,h2⟩:=h
  cases es with
  |nil=>cases g
  |cons e es=>
   obtain⟨w,q,z,g1,g2⟩:=g
   cases z
   rw[Is.inj h1 g1,IsAll.inj h2 g2]
end
theorem IsAll.length:∀{ds:List D}{vs:List V},IsAll H m ds vs->vs.length=ds.length
 | [],_,h=>by cases h;rfl
 |d::ds,_,h=>by
  obtain⟨v,r,rfl,_,h2⟩:=h
  simp[IsAll.length h2]
theorem IsAll.append:∀{ds es:List D}{vs ws:List V},IsAll H m ds vs->IsAll H m es ws->IsAll H m (ds++es) (vs++ws)
 | [],_,_,_,h,g=>by cases h;exact g
 |d::ds,_,_,_,h,g=>by
  obtain⟨v,r,rfl,h1,h2⟩:=h
  exact⟨v,r++_,rfl,h1,IsAll.append h2 g⟩
theorem IsAll.snoc {ds:List D}{d:D}{vs:List V}{v:V}(h:IsAll H m ds vs)(g:Is H m d v):IsAll H m (ds++[d]) (vs++[v]):=h.append ⟨v,[],rfl,g,rfl⟩
theorem IsAll.get:∀{ds:List D}{vs:List V}{i:Nat}{d:D},IsAll H m ds vs->ds[i]?=some d->∃ v,vs[i]?=some v/\Is H m d v
 | [],_,_,_,_,e=>by simp at e
 |d::ds,_,0,_,h,e=>by
  obtain⟨v,r,rfl,h1,h2⟩:=h
  simp at e;subst e
  exact⟨v,rfl,h1⟩
 |d::ds,_,i+1,_,h,e=>by
  obtain⟨v,r,rfl,h1,h2⟩:=h
  obtain⟨w,a,b⟩:=IsAll.get (i:=i) h2 (by simpa using e)
  exact⟨w,by simpa using a,b⟩
theorem IsAll.set:∀{ds:List D}{vs:List V}{d:D}{v:V}(i:Nat),IsAll H m ds vs->Is H m d v->IsAll H m (ds.set i d) (vs.set i v)
 | [],_,_,_,_,h,_=>by cases h;exact rfl
 |x::ds,_,d,v,0,h,g=>by
  obtain⟨w,r,rfl,h1,h2⟩:=h
  exact⟨v,r,rfl,g,h2⟩
 |x::ds,_,d,v,i+1,h,g=>by
  obtain⟨w,r,rfl,h1,h2⟩:=h
  exact⟨w,r.set i v,rfl,h1,IsAll.set i h2 g⟩
theorem IsAll.take:∀{ds:List D}{vs:List V}(n:Nat),IsAll H m ds vs->IsAll H m (ds.take n) (vs.take n)
 |_,_,0,_=>rfl
 | [],_,n+1,h=>by cases h;exact rfl
 |d::ds,_,n+1,h=>by
  obtain⟨v,r,rfl,h1,h2⟩:=h
  exact⟨v,r.take n,rfl,h1,IsAll.take n h2⟩
theorem IsAll.drop:∀{ds:List D}{vs:List V}(n:Nat),IsAll H m ds vs->IsAll H m (ds.drop n) (vs.drop n)
 |_,_,0,h=>h
 | [],_,n+1,h=>by cases h;exact rfl
 |d::ds,_,n+1,h=>by
  obtain⟨v,r,rfl,h1,h2⟩:=h
  exact IsAll.drop n h2
end
section
variable {P:Program}{w:World}{H:Hp}{s:Shared}{m m':Addr->Prop}
theorem yq (ok:HOk P w H s.heap){a:Addr}{vs:List V}(h:(H a=some (.lst vs)/\m a)\/∃ o,H a=some (.frz o (.lst vs))/\m a) :
 ∃ its:List Value,Vals vs its/\s.heap.IsList a its.toArray:=by
 have key:ObjOk P w H s.heap a (.lst vs)->∃ its:List Value,Vals vs its/\s.heap.IsList a its.toArray:=fun⟨_,its,n,r,e⟩=>⟨its,r,⟨_,e,rfl,n,rfl⟩⟩
 rcases h with⟨h,_⟩|⟨o,h,_⟩
 ·exact key (ok a _ h)
 ·exact key (ok a _ h).2
theorem yr (ok:HOk P w H s.heap){a:Addr}{vs:List V}(h:H a=some (.tup vs)):∃ its:List Value,Vals vs its/\s.heap.IsTuple a its.toArray:=by
 obtain⟨_,its,r,e⟩:=ok a _ h
 exact⟨its,r,e⟩
theorem pZ (n:Nat)(e:Nat->Bool):(List.range n).all e=true↔∀ j,j<n->e j=true:=by
 simp[List.all_eq_true,List.mem_range]
theorem jp:∀(ds es:List D),eqDs ds es=true↔ds.length=es.length/\∀(j:Nat)(d e:D),ds[j]?=some d->es[j]?=some e->cq d e=true
 | [],[]=>by simp[eqDs]
 | [],e::es=>by simp[eqDs]
 |d::ds,[]=>by simp[eqDs]
 |d::ds,e::es=>by
  simp only[eqDs,Bool.and_eq_true,jp ds es,List.length_cons,Nat.add_right_cancel_iff]
  constructor
  ·rintro⟨h1,h2,h3⟩
   refine⟨h2,fun j x y ex ey=>?_⟩
   cases j with
   |zero=>simp at ex ey;subst ex;subst ey;exact h1
   |succ j=>exact h3 j x y (by simpa using ex) (by simpa using ey)
  ·rintro⟨h2,h3⟩
   exact⟨h3 0 d e rfl rfl,h2,fun j x y ex ey=>h3 (j+1) x y (by simpa using ex) (by simpa using ey)⟩
theorem cQ:∀{ds:List D}{j:Nat}{d:D},ds[j]?=some d->d.dep<=D.deps ds
 | [],_,_,e=>by simp at e
 |d::ds,0,_,e=>by simp at e;subst e;simp only[D.deps];omega
 |d::ds,j+1,x,e=>by
  have:=cQ (ds:=ds) (j:=j) (d:=x) (by simpa using e)
  simp only[D.deps];omega
theorem lz (ok:HOk P w H s.heap){A:Around}{ds es:List D}{vs ws:List V}{its its2:List Value}(h1:IsAll H m ds vs)(h2:IsAll H m' es ws)(r1:Vals vs its)(r2:Vals ws its2)
 (rec:∀ d∈ds,∀ e∈es,∀(v w:V)(u u':Value),Is H m d v->Is H m' e w->RelV v u->RelV w u'->SeqAt.EqAt A.in1 s u u' (cq d e)) :
 ∀ j (z1:j<its.toArray.size) (z2:j<its2.toArray.size),SeqAt.EqAt A.in1 s its.toArray[j] its2.toArray[j] (match ds[j]?,es[j]? with|some d,some e=>cq d e|_,_=>true):=by
 intro j z1 z2
 have l1:=r1.length
 have l2:=r2.length
 have l3:=h1.length
 have l4:=h2.length
 have y1:j<its.length:=by simpa using z1
 have y2:j<its2.length:=by simpa using z2
 have k1:j<ds.length:=by omega
 have k2:j<es.length:=by omega
 obtain⟨v,ev,iv⟩:=h1.get (i:=j) (d:=ds[j]) (by simp[k1])
 obtain⟨v',ev',iv'⟩:=h2.get (i:=j) (d:=es[j]) (by simp[k2])
 obtain⟨u,eu,ru⟩:=r1.get ev
 obtain⟨u',eu',ru'⟩:=r2.get ev'
 have q1:its.toArray[j]=u:=by
  have:its[j]?=some its[j]:=by simp[y1]
  rw[this]at eu;simpa using Option.some.inj eu
 have q2:its2.toArray[j]=u':=by
  have:its2[j]?=some its2[j]:=by simp[y2]
  rw[this]at eu';simpa using Option.some.inj eu'
 have g1:ds[j]?=some ds[j]:=by simp[k1]
 have g2:es[j]?=some es[j]:=by simp[k2]
 rw[q1,q2,g1,g2]
 exact rec ds[j] (List.getElem_mem _) es[j] (List.getElem_mem _) v v' u u' iv iv' ru ru'
theorem nV {ds es:List D}(hl:ds.length=es.length) :
 ((List.range ds.length).all fun j=>match ds[j]?,es[j]? with|some d,some e=>cq d e|_,_=>true)=eqDs ds es:=by
 rw[Bool.eq_iff_iff,pZ,jp]
 constructor
 ·intro h
  refine⟨hl,fun j d e ed ee=>?_⟩
  have:=h j (List.getElem?_eq_some_iff.mp ed).1
  rw[ed,ee]at this
  exact this
 ·rintro⟨_,h⟩ j hj
  have e1:ds[j]?=some ds[j]:=by simp[hj]
  have hj':j<es.length:=by omega
  have e2:es[j]?=some es[j]:=by simp[hj']
  rw[e1,e2]
  exact h j _ _ e1 e2
theorem lA {ds es:List D}(hl:ds.length≠es.length):eqDs ds es=false:=by
 cases h:eqDs ds es with
 |false=>rfl
 |true=>exact absurd ((jp ds es).mp h).1 hl
end
section
variable {P:Program}{w:World}{H:Hp}{s:Shared}{m m':Addr->Prop}
noncomputable abbrev iG (H:Hp)(s:Shared)(m m':Addr->Prop)(A:Around)(n:Nat):Prop:=
 ∀(d e:D)(v w:V)(u u':Value),d.dep<n->e.dep<1000->Is H m d v->Is H m' e w->RelV v u->RelV w u'->SeqAt.EqAt A.in1 s u u' (cq d e)
section
variable {A:Around}{n:Nat}{l1 l2:List D}{vs1 vs2:List V}{its1 its2:List Value}{a1 a2:Addr}
theorem jq (ok:HOk P w H s.heap)(hn:(D.lst l1).dep<=n)(hE:(D.lst l2).dep<1000)(hu:A.units<cLine)(q1:IsAll H m l1 vs1)(q2:IsAll H m' l2 vs2)(y1:Vals vs1 its1)(y2:Vals vs2 its2)(p1:s.heap.IsList a1 its1.toArray)(p2:s.heap.IsList a2 its2.toArray)
 (rec:iG H s m m' A n):SeqAt.RcAt A s (.ref a1) (.ref a2) (cq (.lst l1) (.lst l2)):=by
 have e1:its1.toArray.size=l1.length:=by rw[List.size_toArray,<- y1.length,q1.length]
 have e2:its2.toArray.size=l2.length:=by rw[List.size_toArray,<- y2.length,q2.length]
 have hd:∀ d∈l1,d.dep<n:=fun d hd=>by
  obtain⟨j,hj⟩:=List.mem_iff_getElem?.mp hd
  have:=cQ hj
  simp only[D.dep]at hn;omega
 have he:∀ e∈l2,e.dep<1000:=fun d hd=>by
  obtain⟨j,hj⟩:=List.mem_iff_getElem?.mp hd
  have:=cQ hj
  simp only[D.dep]at hE;omega
 by_cases hl:l1.length=l2.length
 ·have z:=SeqAt.RcAt.lists p1 p2 (by rw[e1,e2,hl]) hu (lz ok q1 q2 y1 y2 fun d hm e hm2 v w u u' i1 i2 r1 r2=>rec d e v w u u' (hd d hm) (he e hm2) i1 i2 r1 r2)
  rw[e1,nV hl]at z
  exact z
 ·have z:=SeqAt.RcAt.lists_lengths p1 p2 (by rw[e1,e2];simpa using hl) hu
  rw[show cq (.lst l1) (.lst l2)=eqDs l1 l2 from rfl,lA hl]
  exact z
theorem lB (ok:HOk P w H s.heap)(hn:(D.lst l1).dep<=n)(hE:(D.lst l2).dep<1000)(hu:A.units<cLine)(q1:IsAll H m l1 vs1)(q2:IsAll H m' l2 vs2)(y1:Vals vs1 its1)(y2:Vals vs2 its2)(p1:s.heap.IsList a1 its1.toArray)(p2:s.heap.IsList a2 its2.toArray)
 (rec:iG H s m m' A n):SeqAt.RcNeAt A s (.ref a1) (.ref a2) (!cq (.lst l1) (.lst l2)):=by
 have e1:its1.toArray.size=l1.length:=by rw[List.size_toArray,<- y1.length,q1.length]
 have e2:its2.toArray.size=l2.length:=by rw[List.size_toArray,<- y2.length,q2.length]
 have hd:∀ d∈l1,d.dep<n:=fun d hd=>by
  obtain⟨j,hj⟩:=List.mem_iff_getElem?.mp hd
  have:=cQ hj
  simp only[D.dep]at hn;omega
 have he:∀ e∈l2,e.dep<1000:=fun d hd=>by
  obtain⟨j,hj⟩:=List.mem_iff_getElem?.mp hd
  have:=cQ hj
  simp only[D.dep]at hE;omega
 by_cases hl:l1.length=l2.length
 ·have z:=SeqAt.RcNeAt.lists p1 p2 (by rw[e1,e2,hl]) hu (lz ok q1 q2 y1 y2 fun d hm e hm2 v w u u' i1 i2 r1 r2=>rec d e v w u u' (hd d hm) (he e hm2) i1 i2 r1 r2)
  rw[e1,nV hl]at z
  exact z
 ·have z:=SeqAt.RcNeAt.lists_lengths p1 p2 (by rw[e1,e2];simpa using hl) hu
  rw[show cq (.lst l1) (.lst l2)=eqDs l1 l2 from rfl,lA hl]
  exact z
theorem oM:((List.range (min l1.length l2.length)).all (fun j=>match l1[j]?,l2[j]? with|some d,some e=>cq d e|_,_=>true)&&l1.length==l2.length)=eqDs l1 l2:=by
 by_cases hl:l1.length=l2.length
 ·rw[hl,Nat.min_self,<- hl,nV hl];simp[hl]
 ·rw[lA hl];simp[hl]
theorem kK (ok:HOk P w H s.heap)(hn:(D.tup l1).dep<=n)(hE:(D.tup l2).dep<1000)(hu:A.units<cLine)(q1:IsAll H m l1 vs1)(q2:IsAll H m' l2 vs2)(y1:Vals vs1 its1)(y2:Vals vs2 its2)(p1:s.heap.IsTuple a1 its1.toArray)(p2:s.heap.IsTuple a2 its2.toArray)
 (rec:iG H s m m' A n):SeqAt.RcAt A s (.ref a1) (.ref a2) (cq (.tup l1) (.tup l2)):=by
 have e1:its1.toArray.size=l1.length:=by rw[List.size_toArray,<- y1.length,q1.length]
 have e2:its2.toArray.size=l2.length:=by rw[List.size_toArray,<- y2.length,q2.length]
 have hd:∀ d∈l1,d.dep<n:=fun d hd=>by
  obtain⟨j,hj⟩:=List.mem_iff_getElem?.mp hd
  have:=cQ hj
  simp only[D.dep]at hn;omega
 have he:∀ e∈l2,e.dep<1000:=fun d hd=>by
  obtain⟨j,hj⟩:=List.mem_iff_getElem?.mp hd
  have:=cQ hj
  simp only[D.dep]at hE;omega
 have z:=SeqAt.RcAt.tuples p1 p2 hu (lz ok q1 q2 y1 y2 fun d hm e hm2 v w u u' i1 i2 r1 r2=>rec d e v w u u' (hd d hm) (he e hm2) i1 i2 r1 r2)
 rw[e1,e2,oM]at z
 exact z
theorem mM (ok:HOk P w H s.heap)(hn:(D.tup l1).dep<=n)(hE:(D.tup l2).dep<1000)(hu:A.units<cLine)(q1:IsAll H m l1 vs1)(q2:IsAll H m' l2 vs2)(y1:Vals vs1 its1)(y2:Vals vs2 its2)(p1:s.heap.IsTuple a1 its1.toArray)(p2:s.heap.IsTuple a2 its2.toArray)
 (rec:iG H s m m' A n):SeqAt.RcNeAt A s (.ref a1) (.ref a2) (!cq (.tup l1) (.tup l2)):=by
 have e1:its1.toArray.size=l1.length:=by rw[List.size_toArray,<- y1.length,q1.length]
 have e2:its2.toArray.size=l2.length:=by rw[List.size_toArray,<- y2.length,q2.length]
 have hd:∀ d∈l1,d.dep<n:=fun d hd=>by
  obtain⟨j,hj⟩:=List.mem_iff_getElem?.mp hd
  have:=cQ hj
  simp only[D.dep]at hn;omega
 have he:∀ e∈l2,e.dep<1000:=fun d hd=>by
  obtain⟨j,hj⟩:=List.mem_iff_getElem?.mp hd
  have:=cQ hj
  simp only[D.dep]at hE;omega
 have z:=SeqAt.RcNeAt.tuples p1 p2 hu (lz ok q1 q2 y1 y2 fun d hm e hm2 v w u u' i1 i2 r1 r2=>rec d e v w u u' (hd d hm) (he e hm2) i1 i2 r1 r2)
 rw[e1,e2,oM]at z
 exact z
theorem mO (h:SeqAt.RcAt A s (.ref a1) (.ref a2) k)(hs:a1=a2->k=true):SeqAt.EqAt A s (.ref a1) (.ref a2) k:=by
 by_cases e:a1=a2
 ·subst e;rw[hs rfl];exact SeqAt.EqAt.same _
 ·exact SeqAt.EqAt.of_refs e h
end
theorem Is.shape (ok:HOk P w H s.heap){d:D}{v:V}{u:Value}(hE:d.dep<1000)(h:Is H m d v)(r:RelV v u):(d=.non/\u=.none)\/(∃ b,d=.bl b/\u=.bool b)\/(∃ i t,d=.int i/\u=.int i t)\/(∃ x t,d=.str x/\u=.str x t)\/
 (∃ l a vs its,d=.lst l/\v=.ref a/\u=.ref a/\IsAll H m l vs/\Vals vs its/\s.heap.IsList a its.toArray)\/∃ l a vs its,d=.tup l/\v=.ref a/\u=.ref a/\IsAll H m l vs/\Vals vs its/\s.heap.IsTuple a its.toArray:=by
 cases d with
 |non=>cases h;cases r;exact .inl ⟨rfl,rfl⟩
 |bl b=>cases h;cases r;exact .inr (.inl ⟨b,rfl,rfl⟩)
 |int i=>cases h;obtain⟨t,rfl⟩:=r;exact .inr (.inr (.inl ⟨i,t,rfl,rfl⟩))
 |str x=>cases h;obtain⟨t,rfl⟩:=r;exact .inr (.inr (.inr (.inl ⟨x,t,rfl,rfl⟩)))
 |lst l=>
  obtain⟨a,vs,rfl,g,q⟩:=h;cases r;obtain⟨its,y,p⟩:=yq ok g
  exact .inr (.inr (.inr (.inr (.inl ⟨l,a,vs,its,rfl,rfl,rfl,q,y,p⟩))))
 |tup l=>
  obtain⟨a,vs,rfl,g,q⟩:=h;cases r;obtain⟨its,y,p⟩:=yr ok g
  exact .inr (.inr (.inr (.inr (.inr ⟨l,a,vs,its,rfl,rfl,rfl,q,y,p⟩))))
 |dic k l=>exact absurd hE (by simp only[D.dep];omega)
theorem vn (ok:HOk P w H s.heap){A:Around}{n:Nat}(hu:A.units<cLine)(rec:iG H s m m' A n){d e:D}{v w':V}{u u':Value}(hn:d.dep<=n)(hN:n<1000)(hE:e.dep<1000)(h1:Is H m d v)(h2:Is H m' e w')(r1:RelV v u)(r2:RelV w' u') :
 SeqAt.RcAt A s u u' (cq d e):=by
 rcases h1.shape ok (by omega) r1 with⟨rfl,rfl⟩|⟨b1,rfl,rfl⟩|⟨i1,t1,rfl,rfl⟩|⟨x1,t1,rfl,rfl⟩|⟨l1,a1,vs1,its1,rfl,rfl,rfl,q1,y1,p1⟩|⟨l1,a1,vs1,its1,rfl,rfl,rfl,q1,y1,p1⟩<;>rcases h2.shape ok hE r2 with⟨rfl,rfl⟩|⟨b2,rfl,rfl⟩|⟨i2,t2,rfl,rfl⟩|⟨x2,t2,rfl,rfl⟩|⟨l2,a2,vs2,its2,rfl,rfl,rfl,q2,y2,p2⟩|⟨l2,a2,vs2,its2,rfl,rfl,rfl,q2,y2,p2⟩
 exact .none_none;exact .none_bool b2;exact .none_int i2 t2;exact .none_str x2 t2;exact .none_list p2 hu;exact .none_tuple p2 hu;exact .bool_none b1;exact .bool_bool b1 b2;exact .bool_int b1 i2 t2;exact .bool_str b1 x2 t2;exact .bool_list b1 p2 hu;exact .bool_tuple b1 p2 hu;exact .int_none i1 t1;exact .int_bool i1 t1 b2;exact .int_int i1 t1 i2 t2;exact .int_str i1 t1 x2 t2;exact .int_list i1 t1 p2 hu;exact .int_tuple i1 t1 p2 hu;exact .str_none x1 t1;exact .str_bool x1 t1 b2;exact .str_int x1 t1 i2 t2;exact .str_str x1 t1 x2 t2;exact .str_list x1 t1 p2 hu;exact .str_tuple x1 t1 p2 hu;exact .list_none p1 hu;exact .list_bool b2 p1 hu;exact .list_int i2 t2 p1 hu;exact .list_str x2 t2 p1 hu;exact jq ok hn hE hu q1 q2 y1 y2 p1 p2 rec;exact .list_tuple p1 p2 hu;exact .tuple_none p1 hu;exact .tuple_bool b2 p1 hu;exact .tuple_int i2 t2 p1 hu;exact .tuple_str x2 t2 p1 hu;exact .tuple_list p1 p2 hu;exact kK ok hn hE hu q1 q2 y1 y2 p1 p2 rec
theorem vo (ok:HOk P w H s.heap){A:Around}{n:Nat}(hu:A.units<cLine)(rec:iG H s m m' A n){d e:D}{v w':V}{u u':Value}(hn:d.dep<=n)(hN:n<1000)(hE:e.dep<1000)(h1:Is H m d v)(h2:Is H m' e w')(r1:RelV v u)(r2:RelV w' u') :
 SeqAt.RcNeAt A s u u' (!cq d e):=by
 rcases h1.shape ok (by omega) r1 with⟨rfl,rfl⟩|⟨b1,rfl,rfl⟩|⟨i1,t1,rfl,rfl⟩|⟨x1,t1,rfl,rfl⟩|⟨l1,a1,vs1,its1,rfl,rfl,rfl,q1,y1,p1⟩|⟨l1,a1,vs1,its1,rfl,rfl,rfl,q1,y1,p1⟩<;>rcases h2.shape ok hE r2 with⟨rfl,rfl⟩|⟨b2,rfl,rfl⟩|⟨i2,t2,rfl,rfl⟩|⟨x2,t2,rfl,rfl⟩|⟨l2,a2,vs2,its2,rfl,rfl,rfl,q2,y2,p2⟩|⟨l2,a2,vs2,its2,rfl,rfl,rfl,q2,y2,p2⟩
 exact .none_none;exact .none_bool b2;exact .none_int i2 t2;exact .none_str x2 t2;exact .none_list p2 hu;exact .none_tuple p2 hu;exact .bool_none b1;exact .bool_bool b1 b2;exact .bool_int b1 i2 t2;exact .bool_str b1 x2 t2;exact .bool_list b1 p2 hu;exact .bool_tuple b1 p2 hu;exact .int_none i1 t1;exact .int_bool i1 t1 b2;exact .int_int i1 t1 i2 t2;exact .int_str i1 t1 x2 t2;exact .int_list i1 t1 p2 hu;exact .int_tuple i1 t1 p2 hu;exact .str_none x1 t1;exact .str_bool x1 t1 b2;exact .str_int x1 t1 i2 t2;exact .str_str x1 t1 x2 t2;exact .str_list x1 t1 p2 hu;exact .str_tuple x1 t1 p2 hu;exact .list_none p1 hu;exact .list_bool b2 p1 hu;exact .list_int i2 t2 p1 hu;exact .list_str x2 t2 p1 hu;exact lB ok hn hE hu q1 q2 y1 y2 p1 p2 rec;exact .list_tuple p1 p2 hu;exact .tuple_none p1 hu;exact .tuple_bool b2 p1 hu;exact .tuple_int i2 t2 p1 hu;exact .tuple_str x2 t2 p1 hu;exact .tuple_list p1 p2 hu;exact mM ok hn hE hu q1 q2 y1 y2 p1 p2 rec
theorem oN (ok:HOk P w H s.heap){A:Around}{n:Nat}(hu:A.units<cLine)(rec:iG H s m m' A n){d e:D}{v w':V}{u u':Value}(hn:d.dep<=n)(hN:n<1000)(hE:e.dep<1000)(h1:Is H m d v)(h2:Is H m' e w')(r1:RelV v u)(r2:RelV w' u') :
 SeqAt.EqAt A s u u' (cq d e):=by
 rcases h1.shape ok (by omega) r1 with⟨rfl,rfl⟩|⟨b1,rfl,rfl⟩|⟨i1,t1,rfl,rfl⟩|⟨x1,t1,rfl,rfl⟩|⟨l1,a1,vs1,its1,rfl,rfl,rfl,q1,y1,p1⟩|⟨l1,a1,vs1,its1,rfl,rfl,rfl,q1,y1,p1⟩<;>rcases h2.shape ok hE r2 with⟨rfl,rfl⟩|⟨b2,rfl,rfl⟩|⟨i2,t2,rfl,rfl⟩|⟨x2,t2,rfl,rfl⟩|⟨l2,a2,vs2,its2,rfl,rfl,rfl,q2,y2,p2⟩|⟨l2,a2,vs2,its2,rfl,rfl,rfl,q2,y2,p2⟩
 exact .same _;exact .none_bool b2;exact .none_int i2 t2;exact .none_str x2 t2;exact .none_list p2 hu;exact .none_tuple p2 hu;exact .bool_none b1;exact .bool_bool b1 b2;exact .bool_int b1 i2 t2;exact .bool_str b1 x2 t2;exact .bool_list b1 p2 hu;exact .bool_tuple b1 p2 hu;exact .int_none i1 t1;exact .int_bool i1 t1 b2;exact .int_int i1 t1 i2 t2;exact .int_str i1 t1 x2 t2;exact .int_list i1 t1 p2 hu;exact .int_tuple i1 t1 p2 hu;exact .str_none x1 t1;exact .str_bool x1 t1 b2;exact .str_int x1 t1 i2 t2;exact .str_str x1 t1 x2 t2;exact .str_list x1 t1 p2 hu;exact .str_tuple x1 t1 p2 hu;exact .list_none p1 hu;exact .list_bool b2 p1 hu;exact .list_int i2 t2 p1 hu;exact .list_str x2 t2 p1 hu;exact mO (jq ok hn hE hu q1 q2 y1 y2 p1 p2 rec) (fun z=>by subst z;rw[Is.inj h1 h2];exact cc _);exact .list_tuple p1 p2 hu;exact .tuple_none p1 hu;exact .tuple_bool b2 p1 hu;exact .tuple_int i2 t2 p1 hu;exact .tuple_str x2 t2 p1 hu;exact .tuple_list p1 p2 hu;exact mO (kK ok hn hE hu q1 q2 y1 y2 p1 p2 rec) (fun z=>by subst z;rw[Is.inj h1 h2];exact cc _)
theorem sk (ok:HOk P w H s.heap):∀(n:Nat)(A:Around){d e:D}{v w':V}{u u':Value},A.units+n<cLine->n<1000->d.dep<=n->e.dep<1000->Is H m d v->Is H m' e w'->RelV v u->RelV w' u'->SeqAt.EqAt A s u u' (cq d e)
 |0,A,d,e,v,w',u,u',hu,hN,hn,hE,h1,h2,r1,r2=>oN ok (by omega) (fun d e v w u u' hd=>absurd hd (by omega)) hn hN hE h1 h2 r1 r2
 |n+1,A,d,e,v,w',u,u',hu,hN,hn,hE,h1,h2,r1,r2=>oN ok (by omega) (fun d e v w u u' hd he i1 i2 r1 r2=>sk ok n A.in1 (by show A.units+1+n<cLine;omega) (by omega) (by omega) he i1 i2 r1 r2) hn hN hE h1 h2 r1 r2
theorem so (ok:HOk P w H s.heap){A:Around}{n:Nat}(hu:A.units+n<cLine)(hN:n<1000):iG H s m m' A n:=fun d e v w u u' hd he i1 i2 r1 r2=>
 sk ok (n-1) A.in1 (by show A.units+1+(n-1)<cLine;omega) (by omega) (by omega) he i1 i2 r1 r2
end
end L3
set_option autoImplicit false
namespace L3
open PySem PySem.Spec PyProof.Rows L2
noncomputable abbrev St:=L2.St
inductive Res (α:Type) where
 |stuck|ok (a:α)|exc (c:Str)
noncomputable def Res.bind {α β:Type}:Res α->(α->Res β)->Res β
 | .stuck,_=>.stuck
 | .exc c,_=>.exc c
 | .ok a,k=>k a
@[simp] theorem Res.bind_ok {α β:Type}(a:α)(k:α->Res β):(Res.ok a).bind k=k a:=rfl
inductive Sl where
 |val (d:D) (fr:Bool)|own (ds:List D) (fr:Bool)|tre (d:D)|mes (d:D)|pin (d:D)|dis (d:D)|kon (a:Addr)
noncomputable abbrev En:=List (Option Sl)
inductive R where
 |val (d:D) (fr:Bool) (al:List Nat)|new (ds:List D) (fr:Bool)|fre (d:D)
noncomputable def R.d:R->D
 | .val d _ _=>d
 | .new ds _=>.lst ds
 | .fre d=>d
noncomputable def R.fr:R->Bool
 | .val _ f _=>f
 | .new _ f=>f
 | .fre _=>true
noncomputable def R.al:R->List Nat
 | .val _ _ al=>al
 | .new _ _=>[]
 | .fre _=>[]
noncomputable def mkV (d:D)(fr:Bool)(al:List Nat):R:=if d.flat then .val d true [] else .val d fr al
structure Gd where
 H₀:Hp
 Ma:Addr->Prop
 Z:Addr->Prop
 root:Option V
noncomputable abbrev A1 (H:Hp)(Ma:Addr->Prop):Gd:=⟨H,Ma,fun _=>False,none⟩
noncomputable def MuZ (g:Gd)(H:Hp)(a:Addr):Prop:=Mu H a\/(g.Z a/\∃ o u,H a=some (.frz o u))
theorem MuZ.same {g:Gd}{H H':Hp}{a:Addr}(h:MuZ g H a)(s:∀ o,H a=some o->H' a=some o):MuZ g H' a:=h.imp (fun z=>z.same s) fun⟨z,o,u,e⟩=>⟨z,o,u,s _ e⟩
noncomputable def msk (g:Gd)(M:Addr->Prop)(fr:Bool)(a:Addr):Prop:=M a/\(fr=true->g.H₀ a=none)
noncomputable abbrev Pr:=Nat->Addr->Prop
noncomputable def vmsk (g:Gd)(M:Addr->Prop)(fr:Bool)(ρ:Pr)(al:List Nat)(a:Addr):Prop:=msk g M fr a\/∃ i,i∈al/\ρ i a
mutual
noncomputable def IsSh (H:Hp)(m:Addr->Prop):D->V->Prop
 | .tup ds,v=>∃ a vs,v=.ref a/\H a=some (.tup vs)/\IsShs H m ds vs
 | .lst _,v=>∃ a vs,v=.ref a/\H a=some (.lst vs)/\m a
 |_,_=>True
noncomputable def IsShs (H:Hp)(m:Addr->Prop):List D->List V->Prop
 | [],_=>True
 |d::ds,vs=>∃ v r,vs=v::r/\IsSh H m d v/\IsShs H m ds r
end
noncomputable def Dst (H:Hp)(T:Addr->Prop)(v:V):Prop:=∃(a:Addr)(vs:List V),v=.ref a/\T a/\(H a=some (.lst vs)\/(∃ kvs,H a=some (.dK kvs)/\vs=kvs.map Prod.snd)\/(H a=some (.dT [])/\vs=[]))/\V.ref a∉vs/\∀(i j:Nat)(b:Addr),vs[i]?=some (V.ref b)->vs[j]?=some (V.ref b)->i=j
theorem Dst.mono {H H':Hp}{T T':Addr->Prop}{v:V}(kp:∀ a o,T a->H a=some o->H' a=some o)(mm:∀ a,T a->T' a)(h:Dst H T v):Dst H' T' v:=by
 obtain⟨a,vs,e,ta,h1,h2⟩:=h
 exact⟨a,vs,e,mm a ta,h1.imp (kp a _ ta) (.imp (fun⟨kvs,q,z⟩=>⟨kvs,kp a _ ta q,z⟩) fun⟨q,z⟩=>⟨kp a _ ta q,z⟩),h2⟩
noncomputable def SlOk (g:Gd)(M T:Addr->Prop)(H:Hp)(v:V):Sl->Prop
 | .val d fr=>Is H (msk g M fr) d v
 | .own ds fr=>∃ a vs,v=.ref a/\H a=some (.lst vs)/\(∀ b,T b↔b=a)/\IsAll H (msk g M fr) ds vs
 | .tre d=>Is H T d v
 | .mes d=>IsSh H T d v
 | .pin d=>Is H T d v/\g.root=some v
 | .dis d=>Is H T d v/\Dst H T v
 | .kon a=>v=.ref a
noncomputable def Sl.isO:Sl->Bool
 | .val _ _=>false
 | .kon _=>false
 |_=>true
noncomputable def isOwn (env:En)(j:Nat):Bool:=match env[j]? with
 |some (some sl)=>sl.isO
 |_=>false
structure Rep (g:Gd) (M:Addr->Prop) (ρ:Pr) (env:En) (σ:St) (H:Hp):Prop where
 same:Same g.H₀ H
 froz:∀ a,M a->H a≠none
 inn:∀ a,M a->g.H₀ a=none\/g.Ma a
 fl:∀ a,M a->g.H₀ a=none->MuZ g H a
 slot:∀(i:Nat)(sl:Sl),env[i]?=some (some sl)->∃ v,σ[i]?=some (some v)/\SlOk g M (ρ i) H v sl
 priv:∀(i:Nat)(a:Addr),ρ i a->¬ M a/\g.H₀ a=none/\Mu H a
 apart:∀(i j:Nat)(a:Addr),ρ i a->ρ j a->i=j
 ow:∀(i:Nat)(a:Addr),ρ i a->isOwn env i=true
 len:env.length=σ.length
 zz:∀ a,g.Z a->H a≠none
noncomputable def ROk (g:Gd)(M:Addr->Prop)(ρ:Pr)(H0 H:Hp)(v:V):R->Prop
 | .val d fr al=>Is H (vmsk g M fr ρ al) d v
 | .new ds fr=>∃ a vs,v=.ref a/\H a=some (.lst vs)/\¬ M a/\H0 a=none/\(∀ i,¬ ρ i a)/\IsAll H (msk g M fr) ds vs
 | .fre d=>∃ T:Addr->Prop,(∀ a,T a->¬ M a/\H0 a=none/\Mu H a/\∀ i,¬ ρ i a)/\Is H T d v
structure Ext (M:Addr->Prop) (H:Hp) (M':Addr->Prop) (H':Hp):Prop where
 m:∀ a,M a->M' a
 h:Same H H'
 n:∀ a,M' a->M a\/H a=none
theorem Ext.refl (M:Addr->Prop)(H:Hp):Ext M H M H:=⟨fun _ z=>z,Same.refl H,fun _ z=>.inl z⟩
theorem Ext.trans {M M1 M2:Addr->Prop}{H H1 H2:Hp}(a:Ext M H M1 H1)(b:Ext M1 H1 M2 H2):Ext M H M2 H2:=
 ⟨fun x z=>b.m x (a.m x z),a.h.trans b.h,fun x z=>(b.n x z).elim (a.n x) fun w=>.inr (a.h.free w)⟩
section
variable {g:Gd}{M M':Addr->Prop}{ρ:Pr}{env:En}{σ:St}{H H' H0:Hp}{fr:Bool}{al:List Nat}
mutual
theorem IsSh.mono {m m':Addr->Prop}(kp:∀ a o,H a=some o->fixd o->H' a=some o)(kl:∀ a vs,m a->H a=some (.lst vs)->∃ vs',H' a=some (.lst vs'))(mm:∀ a,m a->m' a):∀{d:D}{v:V},IsSh H m d v->IsSh H' m' d v
 | .non,_,h=>h
 | .bl _,_,h=>h
 | .int _,_,h=>h
 | .str _,_,h=>h
 | .tup ds,_,h=>by
  obtain⟨a,vs,e,h1,h2⟩:=h
  exact⟨a,vs,e,kp a _ h1 True.intro,IsShs.mono kp kl mm h2⟩
 | .lst ds,_,h=>by
  obtain⟨a,vs,e,h1,h2⟩:=h
  obtain⟨vs',h3⟩:=kl a vs h2 h1
  exact⟨a,vs',e,h3,mm a h2⟩
 | .dic _ _,_,h=>h
theorem IsShs.mono {m m':Addr->Prop}(kp:∀ a o,H a=some o->fixd o->H' a=some o)(kl:∀ a vs,m a->H a=some (.lst vs)->∃ vs',H' a=some (.lst vs'))(mm:∀ a,m a->m' a):∀{ds:List D}{vs:List V},IsShs H m ds vs->IsShs H' m' ds vs
 | [],_,h=>h
 |d::ds,_,h=>by
  obtain⟨v,r,e,h1,h2⟩:=h
  exact⟨v,r,e,IsSh.mono kp kl mm h1,IsShs.mono kp kl mm h2⟩
end
theorem msk.mono (mm:∀ a,M a->M' a){a:Addr}(h:msk g M fr a):msk g M' fr a:=⟨mm a h.1,h.2⟩
theorem vmsk.mono (mm:∀ a,M a->M' a){a:Addr}(h:vmsk g M fr ρ al a):vmsk g M' fr ρ al a:=h.imp (msk.mono mm) id
theorem Is.ext {d:D}{v:V}(e:Ext M H M' H')(h:Is H (vmsk g M fr ρ al) d v):Is H' (vmsk g M' fr ρ al) d v:=
 h.mono (fun a o q _=>e.h a o q) fun _ _ _ z=>z.mono e.m
theorem IsAll.ext {ds:List D}{vs:List V}(e:Ext M H M' H')(h:IsAll H (vmsk g M fr ρ al) ds vs):IsAll H' (vmsk g M' fr ρ al) ds vs:=
 h.mono (fun a o q _=>e.h a o q) fun _ _ _ z=>z.mono e.m
theorem SlOk.weak {T:Addr->Prop}{v:V}{sl:Sl}(mm:∀ a,M a->M' a)(h:SlOk g M T H v sl):SlOk g M' T H v sl:=by
 cases sl with
 |val d fr=>exact Is.weak (fun b z=>msk.mono mm z) h
 |own ds fr=>
  obtain⟨b,vs,rfl,h1,h2,h4⟩:=h
  exact⟨b,vs,rfl,h1,h2,IsAll.weak (fun b z=>msk.mono mm z) h4⟩
 |tre d=>exact h
 |mes d=>exact h
 |pin d=>exact h
 |dis d=>exact h
 |kon a=>exact h
theorem SlOk.same {T:Addr->Prop}{v:V}{sl:Sl}(s:Same H H')(h:SlOk g M T H v sl):SlOk g M T H' v sl:=by
 cases sl with
 |val d fr=>exact Is.same s h
 |own ds fr=>
  obtain⟨b,vs,rfl,h1,h2,h4⟩:=h
  exact⟨b,vs,rfl,s _ _ h1,h2,IsAll.same s h4⟩
 |tre d=>exact Is.same s h
 |mes d=>exact IsSh.mono (fun a o e _=>s a o e) (fun a vs _ e=>⟨vs,s _ _ e⟩) (fun _ z=>z) h
 |pin d=>exact⟨Is.same s h.1,h.2⟩
 |dis d=>exact⟨Is.same s h.1,h.2.mono (fun a o _ e=>s a o e) fun _ z=>z⟩
 |kon a=>exact h
theorem Rep.moreT {T:Addr->Prop}(r:Rep g M ρ env σ H)(ht:∀ a,T a->Mu H a/\g.H₀ a=none/\∀ i,¬ ρ i a):Rep g (fun b=>M b\/T b) ρ env σ H where
 same:=r.same
 froz:=fun b hb=>hb.elim (r.froz b) fun e=>(ht b e).1.some
 inn:=fun b hb=>hb.elim (r.inn b) fun e=>.inl (ht b e).2.1
 fl:=fun b hb h0=>hb.elim (fun z=>r.fl b z h0) fun e=>.inl (ht b e).1
 slot:=fun i sl e=>by
  obtain⟨v,ev,s⟩:=r.slot i sl e
  exact⟨v,ev,SlOk.weak (fun _=>.inl) s⟩
 priv:=fun i a h=>⟨fun z=>z.elim (r.priv i a h).1 fun z=>(ht a z).2.2 i h,(r.priv i a h).2⟩
 apart:=r.apart
 ow:=r.ow
 len:=r.len
 zz:=r.zz
theorem Rep.more {a:Addr}{ws:List V}(r:Rep g M ρ env σ H)(ha:H a=some (.lst ws))(h0:g.H₀ a=none)(no:∀ i,¬ ρ i a):Rep g (fun b=>M b\/b=a) ρ env σ H:=
 r.moreT fun b e=>by subst e;exact⟨Mu.lst ha,h0,no⟩
theorem Rep.grow (r:Rep g M ρ env σ H)(s:Same H H'):Rep g M ρ env σ H' where
 same:=r.same.trans s
 froz:=fun a ha e=>by
  cases q:H a with
  |none=>exact r.froz a ha q
  |some o=>rw[s a o q]at e;cases e
 inn:=r.inn
 fl:=fun a ha h0=>(r.fl a ha h0).same fun o e=>s a o e
 slot:=fun i sl e=>by
  obtain⟨v,ev,k⟩:=r.slot i sl e
  exact⟨v,ev,SlOk.same s k⟩
 priv:=fun i a h=>let ⟨a1,a2,a3⟩:=r.priv i a h;⟨a1,a2,a3.same fun o e=>s a o e⟩
 apart:=r.apart
 ow:=r.ow
 len:=r.len
 zz:=fun a z e=>by
  cases q:H a with
  |none=>exact r.zz a z q
  |some o=>rw[s a o q]at e;cases e
theorem Rep.free {a:Addr}(r:Rep g M ρ env σ H)(h:H a=none):g.H₀ a=none/\¬ M a/\∀ i,¬ ρ i a:=by
 refine⟨r.same.free h,fun z=>r.froz a z h,fun i o=>?_⟩
 exact(r.priv i a o).2.2.some h
theorem bz {a:Addr}{o:HO}(h:H a=none):Same H (bf H a o):=fun b u e=>by rw[aq (ak e h)];exact e
theorem ROk.is {v:V}{r:R}{M0:Addr->Prop}(rep:Rep g M ρ env σ H)(x:Ext M0 H0 M H)(h0:Same g.H₀ H0)(h:ROk g M ρ H0 H v r):∃ M',Ext M0 H0 M' H/\(∀ a,M a->M' a)/\Rep g M' ρ env σ H/\Is H (vmsk g M' r.fr ρ r.al) r.d v:=by
 cases r with
 |val d fr al=>exact⟨M,x,fun _ z=>z,rep,h⟩
 |new ds fr=>
  obtain⟨a,vs,rfl,h1,h2,h3,h4,h5⟩:=h
  have z0:g.H₀ a=none:=h0.free h3
  exact⟨fun b=>M b\/b=a,⟨fun b z=>.inl (x.m b z),x.h,fun b z=>z.elim (x.n b) fun e=>.inr (e▸h3)⟩,fun _=>.inl,rep.more h1 z0 h4,a,vs,rfl,.inl ⟨h1,.inl ⟨.inr rfl,fun _=>z0⟩⟩,IsAll.weak (fun b z=>.inl (msk.mono (fun _=>.inl) z)) h5⟩
 |fre d=>
  obtain⟨T,ht,is⟩:=h
  exact⟨fun b=>M b\/T b,⟨fun b z=>.inl (x.m b z),x.h,fun b z=>z.elim (x.n b) fun e=>.inr (ht b e).2.1⟩,fun _=>.inl,rep.moreT fun a z=>let ⟨a1,a2,a3,a4⟩:=ht a z;⟨a3,h0.free a2,a4⟩,Is.weak (fun b z=>.inl ⟨.inr z,fun _=>h0.free (ht b z).2.1⟩) is⟩
theorem ROk.mkV {d:D}{v:V}(h:Is H (vmsk g M fr ρ al) d v):ROk g M ρ H0 H v (mkV d fr al):=by
 unfold L3.mkV
 split
 ·exact Is.flat (by assumption) h
 ·exact h
theorem ROk.back {v:V}{r:R}{H1:Hp}(s:Same H1 H0)(h:ROk g M ρ H0 H v r):ROk g M ρ H1 H v r:=by
 cases r with
 |val d fr al=>exact h
 |new ds fr=>
  obtain⟨a,vs,rfl,h1,h2,h3,h4,h5⟩:=h
  exact⟨a,vs,rfl,h1,h2,s.free h3,h4,h5⟩
 |fre d=>
  obtain⟨T,ht,is⟩:=h
  exact⟨T,fun a z=>let ⟨a1,a2,a3⟩:=ht a z;⟨a1,s.free a2,a3⟩,is⟩
end
noncomputable def vp (mg:Str->Option Value)(E:XK)(g:Gd)(c:Str):Prop:=∀ cls dx H',mg c=some cls->Same g.H₀ H'->E cls dx H'
section
variable (mg:Str->Option Value)(E:XK)(g:Gd)(M:Addr->Prop)(ρ:Pr)(env:En)(σ:St)(H:Hp)
noncomputable def PostE (Q:VK):Res R->Prop
 | .stuck=>False
 | .exc c=>vp mg E g c
 | .ok r=>∀ v M' H',Ext M H M' H'->Rep g M' ρ env σ H'->ROk g M' ρ H H' v r->Q v H'
noncomputable def aT (rs:List R):Bool:=rs.all R.fr
noncomputable def bh (rs:List R):List Nat:=rs.flatMap R.al
noncomputable def PostA (Q:List V->Hp->Prop):Res (List R)->Prop
 | .stuck=>False
 | .exc c=>vp mg E g c
 | .ok rs=>∀ vs M' H',Ext M H M' H'->Rep g M' ρ env σ H'->IsAll H' (vmsk g M' (aT rs) ρ (bh rs)) (rs.map R.d) vs->Q vs H'
noncomputable def PostT (Q:Bool->Hp->Prop):Res Bool->Prop
 | .stuck=>False
 | .exc c=>vp mg E g c
 | .ok b=>∀ M' H',Ext M H M' H'->Rep g M' ρ env σ H'->Q b H'
end
noncomputable def Snd (mg:Str->Option Value)(E:XK)(t:TE)(f:En->Res R):Prop:=∀ g M ρ env σ H Q,Rep g M ρ env σ H->PostE mg E g M ρ env σ H Q (f env)->t σ H Q
noncomputable def SndA (mg:Str->Option Value)(E:XK)(t:TA)(f:En->Res (List R)):Prop:=∀ g M ρ env σ H Q,Rep g M ρ env σ H->PostA mg E g M ρ env σ H Q (f env)->t σ H Q
noncomputable def SndT (mg:Str->Option Value)(E:XK)(t:TT)(f:En->Res Bool):Prop:=∀ g M ρ env σ H Q,Rep g M ρ env σ H->PostT mg E g M ρ env σ H Q (f env)->t σ H Q
noncomputable def PD (X:Cx)(E:XK)(e:Expr)(f:En->Res R):Prop:=∃ t,PE X e t/\Snd X.mg E t f
noncomputable def rn (X:Cx)(E:XK)(es:List Expr)(f:En->Res (List R)):Prop:=∃ t,PA X es t/\SndA X.mg E t f
noncomputable def rp (X:Cx)(E:XK)(e:Expr)(f:En->Res Bool):Prop:=∃ t,PT X e t/\SndT X.mg E t f
noncomputable def PWD (X:Cx)(E:XK)(e:Expr)(f:En->Res Bool):Prop:=∃ t,PW X e t/\SndT X.mg E t f
theorem PWD.pt {X:Cx}{E:XK}{e:Expr}{f:En->Res Bool}(h:PWD X E e f):rp X E e f:=let ⟨t,a,b⟩:=h;⟨t,a.pt,b⟩
section
variable {mg:Str->Option Value}{E:XK}{g:Gd}{M M':Addr->Prop}{ρ:Pr}{env:En}{σ:St}{H H':Hp}
theorem PostE.ext {Q:VK}{r:Res R}(e:Ext M H M' H')(p:PostE mg E g M ρ env σ H Q r):PostE mg E g M' ρ env σ H' Q r:=by
 cases r with
 |stuck=>exact p
 |exc c=>exact p
 |ok r=>exact fun v M2 H2 e2 rep2 ro=>p v M2 H2 (e.trans e2) rep2 (ro.back e.h)
theorem PostA.ext {Q:List V->Hp->Prop}{r:Res (List R)}(e:Ext M H M' H')(p:PostA mg E g M ρ env σ H Q r):PostA mg E g M' ρ env σ H' Q r:=by
 cases r with
 |stuck=>exact p
 |exc c=>exact p
 |ok r=>exact fun v M2 H2 e2=>p v M2 H2 (e.trans e2)
theorem PostT.ext {Q:Bool->Hp->Prop}{r:Res Bool}(e:Ext M H M' H')(p:PostT mg E g M ρ env σ H Q r):PostT mg E g M' ρ env σ H' Q r:=by
 cases r with
 |stuck=>exact p
 |exc c=>exact p
 |ok r=>exact fun M2 H2 e2=>p M2 H2 (e.trans e2)
theorem PostE.val {Q:VK}{d:D}{fr:Bool}{al:List Nat}{v:V}(p:PostE mg E g M ρ env σ H Q (.ok (mkV d fr al)))(rep:Rep g M ρ env σ H)(h:Is H (vmsk g M fr ρ al) d v):Q v H:=
 p v M H (Ext.refl M H) rep (ROk.mkV h)
theorem PostE.new {Q:VK}{ds:List D}{fr:Bool}{vs:List V}{a:Addr}(p:PostE mg E g M ρ env σ H Q (.ok (.new ds fr)))(rep:Rep g M ρ env σ H)(ha:H a=none)(h:IsAll H (msk g M fr) ds vs):Q (.ref a) (bf H a (.lst vs)):=by
 have s:Same H (bf H a (.lst vs)):=bz ha
 obtain⟨h0,hm,ho⟩:=rep.free ha
 exact p _ M _ ⟨fun _ z=>z,s,fun _ z=>.inl z⟩ (rep.grow s) ⟨a,vs,rfl,aL,hm,ha,ho,IsAll.same s h⟩
theorem PostE.tup {Q:VK}{ds:List D}{fr:Bool}{al:List Nat}{vs:List V}{a:Addr}(p:PostE mg E g M ρ env σ H Q (.ok (mkV (.tup ds) fr al)))(rep:Rep g M ρ env σ H)(ha:H a=none)(h:IsAll H (vmsk g M fr ρ al) ds vs):Q (.ref a) (bf H a (.tup vs)):=by
 have s:Same H (bf H a (.tup vs)):=bz ha
 exact p _ M _ ⟨fun _ z=>z,s,fun _ z=>.inl z⟩ (rep.grow s) (ROk.mkV ⟨a,vs,rfl,aL,IsAll.same s h⟩)
theorem Snd.one {t:TE}{f:En->Res R}(h:Snd mg E t f)(rep:Rep g M ρ env σ H){α:Type}{K:R->Res α}{P:(M:Addr->Prop)->(H:Hp)->Res α->Prop}{Q:VK}
 (hp:P M H ((f env).bind K)) (hs:∀ M H,P M H .stuck->False) (hx:∀ M H c,P M H (.exc c)->vp mg E g c) (he:∀ M H M' H' r,Ext M H M' H'->P M H r->P M' H' r)
 (k:∀ r v M' H',Ext M H M' H'->Rep g M' ρ env σ H'->Is H' (vmsk g M' r.fr ρ r.al) r.d v->P M' H' (K r)->Q v H'):t σ H Q:=by
 refine h g M ρ env σ H Q rep ?_
 cases e:f env with
 |stuck=>rw[e]at hp;exact hs _ _ hp
 |exc c=>rw[e]at hp;exact hx _ _ c hp
 |ok r=>
  rw[e]at hp
  intro v M1 H1 e1 rep1 ro
  obtain⟨M2,e2,_,rep2,is⟩:=ro.is rep1 e1 rep.same
  exact k r v M2 H1 e2 rep2 is (he _ _ _ _ _ e2 hp)
theorem Snd.oneE {t:TE}{f:En->Res R}(h:Snd mg E t f)(rep:Rep g M ρ env σ H){K:R->Res R}{Q':VK}{Q:VK}(hp:PostE mg E g M ρ env σ H Q' ((f env).bind K))
 (k:∀ r v M' H',Ext M H M' H'->Rep g M' ρ env σ H'->Is H' (vmsk g M' r.fr ρ r.al) r.d v->PostE mg E g M' ρ env σ H' Q' (K r)->Q v H'):t σ H Q:=
 h.one rep (P:=fun M H r=>PostE mg E g M ρ env σ H Q' r) hp (fun _ _ z=>z) (fun _ _ _ z=>z) (fun _ _ _ _ _ e p=>p.ext e) k
theorem Snd.oneA {t:TE}{f:En->Res R}(h:Snd mg E t f)(rep:Rep g M ρ env σ H){K:R->Res (List R)}{Q':List V->Hp->Prop}{Q:VK}(hp:PostA mg E g M ρ env σ H Q' ((f env).bind K))
 (k:∀ r v M' H',Ext M H M' H'->Rep g M' ρ env σ H'->Is H' (vmsk g M' r.fr ρ r.al) r.d v->PostA mg E g M' ρ env σ H' Q' (K r)->Q v H'):t σ H Q:=
 h.one rep (P:=fun M H r=>PostA mg E g M ρ env σ H Q' r) hp (fun _ _ z=>z) (fun _ _ _ z=>z) (fun _ _ _ _ _ e p=>p.ext e) k
theorem Snd.oneT {t:TE}{f:En->Res R}(h:Snd mg E t f)(rep:Rep g M ρ env σ H){K:R->Res Bool}{Q':Bool->Hp->Prop}{Q:VK}(hp:PostT mg E g M ρ env σ H Q' ((f env).bind K))
 (k:∀ r v M' H',Ext M H M' H'->Rep g M' ρ env σ H'->Is H' (vmsk g M' r.fr ρ r.al) r.d v->PostT mg E g M' ρ env σ H' Q' (K r)->Q v H'):t σ H Q:=
 h.one rep (P:=fun M H r=>PostT mg E g M ρ env σ H Q' r) hp (fun _ _ z=>z) (fun _ _ _ z=>z) (fun _ _ _ _ _ e p=>p.ext e) k
theorem Snd.twoE {ta tb:TE}{fa fb:En->Res R}(ha:Snd mg E ta fa)(hb:Snd mg E tb fb)(rep:Rep g M ρ env σ H){K:R->R->Res R}{Q':VK}{S:V->V->Hp->Prop}
 (hp:PostE mg E g M ρ env σ H Q' ((fa env).bind fun ra=>(fb env).bind fun rb=>K ra rb))
 (k:∀ ra rb x y M' H',Rep g M' ρ env σ H'->Is H' (vmsk g M' ra.fr ρ ra.al) ra.d x->Is H' (vmsk g M' rb.fr ρ rb.al) rb.d y->PostE mg E g M' ρ env σ H' Q' (K ra rb)->S x y H') :
 ta σ H fun x H1=>tb σ H1 fun y H2=>S x y H2:=
 ha.oneE rep hp fun ra x M1 H1 e1 rep1 i1 p1=>hb.oneE rep1 p1 fun rb y M2 H2 e2 rep2 i2 p2=>k ra rb x y M2 H2 rep2 (i1.ext e2) i2 p2
end
end L3
namespace L3
open PySem PySem.Spec PyProof.Rows L2
noncomputable def lim:Nat:=1000000
theorem dl {n:Nat}(h:n<=lim):n<=sizeLine:=by rw[sizeLine_eq];unfold lim at h;omega
theorem lC {n:Nat}(h:n<lim):n<sizeLine:=by rw[sizeLine_eq];unfold lim at h;omega
noncomputable def jr (ds:List D)(fr:Bool)(al:List Nat):R:=if D.flats ds then .new ds true else if al.isEmpty then .new ds fr else .val (.lst ds) fr al
section
variable {mg:Str->Option Value}{E:XK}{g:Gd}{M M':Addr->Prop}{ρ:Pr}{env:En}{σ:St}{H H':Hp}
theorem vmsk.nil {fr:Bool}{a:Addr}(h:vmsk g M fr ρ [] a):msk g M fr a:=h.elim id fun⟨_,z,_⟩=>absurd z (by simp)
theorem PostE.lst {Q:VK}{ds:List D}{fr:Bool}{al:List Nat}{vs:List V}{a:Addr}(p:PostE mg E g M ρ env σ H Q (.ok (jr ds fr al)))(rep:Rep g M ρ env σ H)(ha:H a=none)(h:IsAll H (vmsk g M fr ρ al) ds vs):Q (.ref a) (bf H a (.lst vs)):=by
 unfold jr at p
 by_cases hf:D.flats ds=true
 ·rw[if_pos hf]at p
  exact p.new rep ha (IsAll.flat hf h)
 ·rw[if_neg hf]at p
  cases al with
  |nil=>
   exact PostE.new (p:=p) rep ha (IsAll.weak (fun _ z=>z.nil) h)
  |cons i al=>
   have p:PostE mg E g M ρ env σ H Q (.ok (.val (.lst ds) fr (i::al))):=p
   have s:Same H (bf H a (.lst vs)):=bz ha
   obtain⟨h0,hm,ho⟩:=rep.free ha
   refine p _ (fun b=>M b\/b=a) _ ⟨fun _=>.inl,s,fun b z=>z.imp id fun(e:b=a)=>by rw[e];exact ha⟩ ((rep.grow s).more aL h0 ho) ⟨a,vs,rfl,.inl ⟨aL,.inl ⟨.inr rfl,fun _=>h0⟩⟩,?_⟩
   exact(IsAll.same s h).weak fun b z=>z.mono fun _=>.inl
theorem Is.rd {m:Addr->Prop}{ds:List D}{v:V}(h:Is H m (.lst ds) v):∃ a vs,v=.ref a/\Rd H a (.lst vs)/\IsAll H m ds vs:=by
 obtain⟨a,vs,e,h1,h2⟩:=h
 exact⟨a,vs,e,h1.imp (·.1) fun⟨o,z,_⟩=>⟨o,z⟩,h2⟩
end
section
variable {X:Cx}{E:XK}
noncomputable def ah (i:Nat):En->Res R:=fun env=>match env[i]? with
 |some (some (.val d fr))=>.ok (mkV d fr [])
 |some (some (.own ds fr))=>.ok (.val (.lst ds) fr [i])
 |some (some (.tre d))=>.ok (.val d true [i])
 |some (some (.pin d))=>.ok (.val d true [i])
 |some (some (.dis d))=>.ok (.val d true [i])
 |_=>.stuck
theorem oO {mg:Str->Option Value}{i:Nat}:Snd mg E (mF i) (ah i):=by
 intro g M ρ env σ H Q rep p
 unfold ah at p
 cases e1:env[i]? with
 |none=>rw[e1]at p;exact p.elim
 |some o=>
  cases o with
  |none=>rw[e1]at p;exact p.elim
  |some sl=>
   obtain⟨v,ev,k⟩:=rep.slot i sl e1
   rw[e1]at p
   refine⟨v,ev,?_⟩
   cases sl with
   |val d fr=>exact PostE.val p rep (Is.weak (fun _ z=>.inl z) k)
   |own ds fr=>
    obtain⟨a,vs,rfl,h1,h2,h4⟩:=k
    exact p _ M H (Ext.refl M H) rep ⟨a,vs,rfl,.inl ⟨h1,.inr ⟨i,by simp,(h2 a).mpr rfl⟩⟩,IsAll.weak (fun _ z=>.inl z) h4⟩
   |tre d=>exact p _ M H (Ext.refl M H) rep (Is.weak (fun a z=>.inr ⟨i,by simp,z⟩) k)
   |mes d=>exact p.elim
   |pin d=>exact p _ M H (Ext.refl M H) rep (Is.weak (fun a z=>.inr ⟨i,by simp,z⟩) k.1)
   |dis d=>exact p _ M H (Ext.refl M H) rep (Is.weak (fun a z=>.inr ⟨i,by simp,z⟩) k.1)
   |kon a=>exact p.elim
theorem yt {i:Nat}{e:Expr}(h:PE X e (mF i)):PD X E e (ah i):=⟨_,h,oO⟩
noncomputable def vC (d:D):En->Res R:=fun _=>.ok (.val d true [])
theorem sq {mg:Str->Option Value}{d:D}{v:V}(h:∀ H m,Is H m d v):Snd mg E (tC v) (vC d):=fun g M ρ env σ H Q rep p=>p v M H (Ext.refl M H) rep (h H _)
theorem af {i j pos}:PD X E (.Constant (.int i) j pos) (vC (.int i)):=⟨_,xO,sq fun _ _=>rfl⟩
theorem e9 {b j pos}:PD X E (.Constant (.bool b) j pos) (vC (.bl b)):=⟨_,Ax,sq fun _ _=>rfl⟩
theorem aj {x j pos}:PD X E (.Constant (.str x) j pos) (vC (.str x)):=⟨_,rz,sq fun _ _=>rfl⟩
noncomputable def v2 (op:R->R->Res R)(fa fb:En->Res R):En->Res R:=fun env=>(fa env).bind fun ra=>(fb env).bind fun rb=>op ra rb
noncomputable def ib (X:Cx)(E:XK)(f:Value->Value->Sem Value)(op:R->R->Res R):Prop:=∃ r:R2,OpR X f r/\
 ∀ g M ρ env σ H Q ra rb x y,Rep g M ρ env σ H->Is H (vmsk g M ra.fr ρ ra.al) ra.d x->Is H (vmsk g M rb.fr ρ rb.al) rb.d y->PostE X.mg E g M ρ env σ H Q (op ra rb)->r x y H Q
theorem aF {a b:Expr}{fa fb:En->Res R}{op:Operator}{k:R->R->Res R}{pos:Pos}(ho:ib X E (binaryOp op) k)(ha:PD X E a fa)(hb:PD X E b fb):PD X E (.BinOp a op b pos) (v2 k fa fb):=by
 obtain⟨r,h1,h2⟩:=ho
 obtain⟨ta,pa,sa⟩:=ha
 obtain⟨tb,pb,sb⟩:=hb
 exact⟨_,AG h1 pa pb,fun g M ρ env σ H Q rep p=>sa.twoE sb rep p fun ra rb x y M' H' rep' i1 i2 p'=>h2 g M' ρ env σ H' Q ra rb x y rep' i1 i2 p'⟩
theorem js {a b:Expr}{fa fb:En->Res R}{op:CmpOp}{k:R->R->Res R}{pos:Pos}(ho:ib X E (compareOp op) k)(ha:PD X E a fa)(hb:PD X E b fb)(hm:behindInMarks op b=false):PD X E (.Compare a [op] [b] pos) (v2 k fa fb):=by
 obtain⟨r,h1,h2⟩:=ho
 obtain⟨ta,pa,sa⟩:=ha
 obtain⟨tb,pb,sb⟩:=hb
 exact⟨_,oE h1 pa pb hm,fun g M ρ env σ H Q rep p=>sa.twoE sb rep p fun ra rb x y M' H' rep' i1 i2 p'=>h2 g M' ρ env σ H' Q ra rb x y rep' i1 i2 p'⟩
noncomputable def oI (C:Int->Int->Bool)(k:Int->Int->D)(a b:R):Res R:=match a.d,b.d with
 | .int i,.int j=>if C i j then .ok (.val (k i j) true []) else .stuck
 |_,_=>.stuck
theorem mP {f:Value->Value->Sem Value}{C:Int->Int->Prop}{kV:Int->Int->V}(c:Int->Int->Bool)(k:Int->Int->D)(ho:OpR X f (rI C kV))(hc:∀ i j,c i j=true->C i j)(hk:∀ H m i j,Is H m (k i j) (kV i j)):ib X E f (oI c k):=by
 refine⟨_,ho,fun g M ρ env σ H Q ra rb x y rep i1 i2 p=>?_⟩
 unfold oI at p
 cases e1:ra.d with
 |int i=>
  rw[e1]at p i1
  cases e2:rb.d with
  |int j=>
   rw[e2]at p i2
   cases i1;cases i2
   by_cases h:c i j=true
   ·simp only[h,if_true]at p
    exact⟨i,j,rfl,rfl,hc i j h,p _ M H (Ext.refl M H) rep (hk H _ i j)⟩
   ·simp only[h]at p
    exact p.elim
  |_=>rw[e2]at p;exact p.elim
 |_=>rw[e1]at p;exact p.elim
theorem lD {f:Value->Value->Sem Value}{kV:Int->Int->V}(k:Int->Int->D)(ho:OpR X f (wW kV))(hk:∀ H m i j,Is H m (k i j) (kV i j)):ib X E f (oI (fun _ _=>true) k):=by
 refine mP (C:=fun _ _=>True) (kV:=kV) _ k (fun pins s σ H x y v u Q I rx ry h=>?_) (fun _ _ _=>True.intro) hk
 obtain⟨i,j,a,b,_,q⟩:=h
 exact ho pins s σ H x y v u Q I rx ry ⟨i,j,a,b,q⟩
noncomputable def nW:R->R->Res R:=oI (fun _ _=>true) fun i j=>.int (i-j)
noncomputable def sr (i j:Int):Bool:=(decide (-(2 ^ 64)<i)&&decide (i<2 ^ 64)) || (decide (-(2 ^ 64)<j)&&decide (j<2 ^ 64))
noncomputable def jt:R->R->Res R:=oI sr fun i j=>.int (i*j)
noncomputable def ss:R->R->Res R:=oI (fun _ j=>decide (0<j)&&decide (j<1073741824)) fun i j=>.int (i / j)
noncomputable def kf:R->R->Res R:=oI (fun _ j=>decide (0<j)) fun i j=>.int (i % j)
theorem ju:ib X E (binaryOp .Sub) nW:=lD _ x6 fun _ _ _ _=>rfl
theorem dS:ib X E (binaryOp .Mult) jt:=mP _ _ x8 (fun i j h=>by
 simp only[sr,Bool.or_eq_true,Bool.and_eq_true,decide_eq_true_eq]at h
 exact h) fun _ _ _ _=>rfl
theorem nX:ib X E (binaryOp .FloorDiv) ss:=mP _ _ u0 (fun i j h=>by
 simp only[Bool.and_eq_true,decide_eq_true_eq]at h
 exact h) fun _ _ _ _=>rfl
theorem e_:ib X E (binaryOp .Mod) kf:=mP _ _ x9 (fun i j h=>by simpa using h) fun _ _ _ _=>rfl
noncomputable def Cq:R->R->Res R:=oI (fun _ _=>true) fun i j=>.bl (decide (i<j))
noncomputable def su:R->R->Res R:=oI (fun _ _=>true) fun i j=>.bl (decide (i<=j))
noncomputable def vq:R->R->Res R:=oI (fun _ _=>true) fun i j=>.bl (decide (j<=i))
theorem w_:ib X E (compareOp .Lt) Cq:=lD _ AJ fun _ _ _ _=>rfl
theorem mQ:ib X E (compareOp .LtE) su:=lD _ AK fun _ _ _ _=>rfl
theorem mR:ib X E (compareOp .GtE) vq:=lD _ AL fun _ _ _ _=>rfl
theorem Inv.rdL {pins:List (Addr×Obj)}{σ:St}{H:Hp}{s:Shared}{l:Addr}{xs:List V}(I:L2.Inv X pins σ H s)(h:Rd H l (.lst xs)) :
 xs.length<=sizeLine/\∃(its:List Value)(n:Nat),Vals xs its/\xs.length=its.length/\s.heap.get? l=some { cls:=.type "list",data:=.seq its.toArray n }:=by
 obtain⟨z,its,n,r,e⟩:=(h.ok I.hok:ObjOk X.prog X.w H s.heap l (.lst xs))
 exact⟨z,its,n,r,r.length,e⟩
noncomputable def A2:R2:=fun x y H Q=>∃ l b xs zs,x=.ref l/\y=.ref b/\Rd H l (.lst xs)/\Rd H b (.lst zs)/\xs.length+zs.length<=sizeLine/\∀ p,H p=none->Q (.ref p) (bf H p (.lst (xs++zs)))
theorem op_catS:OpR X (binaryOp .Add) A2:=by
 intro pins s σ H x y v u Q I rx ry h
 obtain⟨l,b,xs,zs,rfl,rfl,hH,hB,hz,q⟩:=h
 cases rx
 cases ry
 obtain⟨z,its,n,r,hl,e⟩:=Inv.rdL I hH
 obtain⟨z2,its2,n2,r2,hl2,e2⟩:=Inv.rdL I hB
 refine PySem.P.add_list e e2 ?_ (by rw[List.size_toArray,List.size_toArray];omega)
 have ea:its.toArray++its2.toArray=(its++its2).toArray:=by simp
 rw[ea]
 exact⟨.ref _,_,I.lnew (t':=s.toks) (r.append r2) (by rw[List.length_append];omega),rfl,q _ I.fresh⟩
noncomputable def bc (a b:R):Res R:=match a.d,b.d with
 | .int i,.int j=>.ok (.val (.int (i+j)) true [])
 | .lst xs,.lst ys=>if xs.length+ys.length<=lim then .ok (jr (xs++ys) (a.fr&&b.fr) (a.al++b.al)) else .stuck
 | .tup xs,.tup ys=>if xs.length+ys.length<=lim/\xs≠[] then .ok (mkV (.tup (xs++ys)) (a.fr&&b.fr) (a.al++b.al)) else .stuck
 | .str x,.str y=>if x.length+y.length<=lim then .ok (.val (.str (x++y)) true []) else .stuck
 |_,_=>.stuck
section
variable {g:Gd}{M:Addr->Prop}{ρ:Pr}{env:En}{σ:St}
theorem vmsk.l {f1 f2:Bool}{l1 l2:List Nat}{a:Addr}(h:vmsk g M f1 ρ l1 a):vmsk g M (f1&&f2) ρ (l1++l2) a:=
 h.imp (fun z=>⟨z.1,fun e=>z.2 (by cases f1<;>simp_all)⟩) fun⟨i,hi,o⟩=>⟨i,by simp[hi],o⟩
theorem vmsk.r {f1 f2:Bool}{l1 l2:List Nat}{a:Addr}(h:vmsk g M f2 ρ l2 a):vmsk g M (f1&&f2) ρ (l1++l2) a:=
 h.imp (fun z=>⟨z.1,fun e=>z.2 (by cases f2<;>simp_all)⟩) fun⟨i,hi,o⟩=>⟨i,by simp[hi],o⟩
end
theorem aN:ib X E (binaryOp .Add) bc:=by
 refine⟨_,op_add.or (op_catS.or (op_catT.or nO)),fun g M ρ env σ H Q ra rb x y rep i1 i2 p=>?_⟩
 unfold bc at p
 cases e1:ra.d with
 |int i=>
  rw[e1]at p i1
  cases e2:rb.d with
  |int j=>
   rw[e2]at p i2
   cases i1;cases i2
   exact .inl ⟨i,j,rfl,rfl,p _ M H (Ext.refl M H) rep rfl⟩
  |_=>rw[e2]at p;exact p.elim
 |lst xs=>
  rw[e1]at p i1
  cases e2:rb.d with
  |lst ys=>
   rw[e2]at p i2
   obtain⟨a,vs,rfl,h1,h2⟩:=i1.rd
   obtain⟨b,ws,rfl,h3,h4⟩:=i2.rd
   by_cases hz:xs.length+ys.length<=lim
   ·simp only[hz,if_true]at p
    refine .inr (.inl ⟨a,b,vs,ws,rfl,rfl,h1,h3,by rw[h2.length,h4.length];exact dl hz,fun q hq=>?_⟩)
    exact p.lst rep hq ((h2.weak fun _ z=>z.l).append (h4.weak fun _ z=>z.r))
   ·simp only[hz,if_false]at p
    exact p.elim
  |_=>rw[e2]at p;exact p.elim
 |tup xs=>
  rw[e1]at p i1
  cases e2:rb.d with
  |tup ys=>
   rw[e2]at p i2
   obtain⟨a,vs,rfl,h1,h2⟩:=i1
   obtain⟨b,ws,rfl,h3,h4⟩:=i2
   dsimp only at p
   by_cases hz:xs.length+ys.length<=lim/\xs≠[]
   ·rw[if_pos hz]at p
    have n1:vs≠[]:=fun z=>hz.2 (by have:=h2.length;rw[z]at this;exact List.eq_nil_of_length_eq_zero this.symm)
    refine .inr (.inr (.inl ⟨a,b,vs,ws,rfl,rfl,SqT.of h1,SqT.of h3,n1,by rw[h2.length,h4.length];exact dl hz.1,fun z=>?_,fun _ q hq=>?_⟩))
    ·have ey:ys=[]:=by have:=h4.length;rw[z]at this;exact List.eq_nil_of_length_eq_zero this.symm
     rw[ey,List.append_nil]at p
     exact p.val rep (Is.weak (d:=.tup xs) (fun _ z=>z.l) ⟨a,vs,rfl,h1,h2⟩)
    ·exact p.tup rep hq ((h2.weak fun _ z=>z.l).append (h4.weak fun _ z=>z.r))
   ·rw[if_neg hz]at p
    exact p.elim
  |_=>rw[e2]at p;exact p.elim
 |str xs=>
  rw[e1]at p i1
  cases e2:rb.d with
  |str ys=>
   rw[e2]at p i2
   cases i1;cases i2
   by_cases hz:xs.length+ys.length<=lim
   ·simp only[hz,if_true]at p
    exact .inr (.inr (.inr ⟨xs,ys,rfl,rfl,dl hz,p _ M H (Ext.refl M H) rep rfl⟩))
   ·simp only[hz,if_false]at p
    exact p.elim
  |_=>rw[e2]at p;exact p.elim
 |_=>rw[e1]at p;exact p.elim
noncomputable def jv (a b:R):Res R:=if a.d.dep<=50/\b.d.dep<=50 then .ok (.val (.bl (cq a.d b.d)) true []) else .stuck
noncomputable def nJ (a b:R):Res R:=if a.d.dep<=50/\b.d.dep<=50 then .ok (.val (.bl (!cq a.d b.d)) true []) else .stuck
noncomputable def C2:R2:=fun x y H Q=>∃ d e m m',Is H m d x/\Is H m' e y/\(d.dep<=50/\e.dep<=50)/\Q (.bl (cq d e)) H
noncomputable def C3:R2:=fun x y H Q=>∃ d e m m',Is H m d x/\Is H m' e y/\(d.dep<=50/\e.dep<=50)/\Q (.bl (!cq d e)) H
theorem yu (hu:X.A.units+64<cLine):OpR X (compareOp .Eq) C2:=by
 intro pins s σ H x y v u Q I rx ry h
 obtain⟨d,e,m,m',h1,h2,hd,q⟩:=h
 exact vn I.hok (by omega) (so I.hok (A:=X.A) (n:=50) (by omega) (by omega)) hd.1 (by omega) (by omega) h1 h2 rx ry X.prog X.w X.xe _ ⟨.bl _,H,I,rfl,q⟩
theorem yw (hu:X.A.units+64<cLine):OpR X (compareOp .NotEq) C3:=by
 intro pins s σ H x y v u Q I rx ry h
 obtain⟨d,e,m,m',h1,h2,hd,q⟩:=h
 exact vo I.hok (by omega) (so I.hok (A:=X.A) (n:=50) (by omega) (by omega)) hd.1 (by omega) (by omega) h1 h2 rx ry X.prog X.w X.xe _ ⟨.bl _,H,I,rfl,q⟩
theorem ce (hu:X.A.units+64<cLine):ib X E (compareOp .Eq) jv:=by
 refine⟨_,yu hu,fun g M ρ env σ H Q ra rb x y rep i1 i2 p=>?_⟩
 unfold jv at p
 by_cases h:ra.d.dep<=50/\rb.d.dep<=50
 ·rw[if_pos h]at p
  exact⟨_,_,_,_,i1,i2,h,p _ M H (Ext.refl M H) rep rfl⟩
 ·rw[if_neg h]at p;exact p.elim
theorem eJ (hu:X.A.units+64<cLine):ib X E (compareOp .NotEq) nJ:=by
 refine⟨_,yw hu,fun g M ρ env σ H Q ra rb x y rep i1 i2 p=>?_⟩
 unfold nJ at p
 by_cases h:ra.d.dep<=50/\rb.d.dep<=50
 ·rw[if_pos h]at p
  exact⟨_,_,_,_,i1,i2,h,p _ M H (Ext.refl M H) rep rfl⟩
 ·rw[if_neg h]at p;exact p.elim
end
end L3
namespace L3
open PySem PySem.Spec PyProof.Rows L2
section
variable {X:Cx}{E:XK}
noncomputable def D.isNon:D->Bool
 | .non=>true
 |_=>false
noncomputable def yx (fa:En->Res R):En->Res R:=fun env=>(fa env).bind fun ra=>match ra.d with
 | .bl b=>.ok (.val (.bl (!b)) true [])
 |_=>.stuck
noncomputable def sw (fa fb:En->Res R):En->Res R:=fun env=>(fa env).bind fun ra=>match ra.d with
 | .bl true=>fb env
 | .bl false=>.ok (.val (.bl false) true [])
 |_=>.stuck
noncomputable def C4 (fa fb:En->Res R):En->Res R:=fun env=>(fa env).bind fun ra=>match ra.d with
 | .bl true=>.ok (.val (.bl true) true [])
 | .bl false=>fb env
 |_=>.stuck
theorem yz {a:Expr}{fa:En->Res R}{pos:Pos}(ha:PD X E a fa):PD X E (.UnaryOp .Not a pos) (yx fa):=by
 obtain⟨ta,pa,sa⟩:=ha
 refine⟨_,xU pa,fun g M ρ env σ H Q rep p=>sa.oneE rep p fun r v M' H' e rep' i p'=>?_⟩
 cases q:r.d with
 |bl b=>
  rw[q]at i
  simp only[q]at p'
  cases i
  exact⟨b,rfl,p' _ M' H' (Ext.refl _ _) rep' rfl⟩
 |_=>simp only[q]at p';exact p'.elim
theorem lE {op:BoolOp}{a:Expr}{fa:En->Res R}{pos:Pos}(ha:PD X E a fa):PD X E (.BoolOp op [a] pos) fa:=let ⟨t,pa,sa⟩:=ha;⟨t,xS pa,sa⟩
theorem nY {a b:Expr}{aQ:List Expr}{fa fb:En->Res R}{pos:Pos}(ha:PD X E a fa)(hb:PD X E (.BoolOp .And (b::aQ) pos) fb):PD X E (.BoolOp .And (a::b::aQ) pos) (sw fa fb):=by
 obtain⟨ta,pa,sa⟩:=ha
 obtain⟨tb,pb,sb⟩:=hb
 refine⟨_,xT pa pb,fun g M ρ env σ H Q rep p=>sa.oneE rep p fun r v M' H' e rep' i p'=>?_⟩
 cases q:r.d with
 |bl b=>
  rw[q]at i
  simp only[q]at p'
  cases i
  refine⟨b,rfl,?_⟩
  cases b with
  |true=>exact ly (sb g M' ρ env σ H' Q rep' p')
  |false=>exact mJ (p' _ M' H' (Ext.refl _ _) rep' rfl)
 |_=>simp only[q]at p';exact p'.elim
theorem A3 {a b:Expr}{aQ:List Expr}{fa fb:En->Res R}{pos:Pos}(ha:PD X E a fa)(hb:PD X E (.BoolOp .Or (b::aQ) pos) fb):PD X E (.BoolOp .Or (a::b::aQ) pos) (C4 fa fb):=by
 obtain⟨ta,pa,sa⟩:=ha
 obtain⟨tb,pb,sb⟩:=hb
 refine⟨_,AB pa pb,fun g M ρ env σ H Q rep p=>sa.oneE rep p fun r v M' H' e rep' i p'=>?_⟩
 cases q:r.d with
 |bl b=>
  rw[q]at i
  simp only[q]at p'
  cases i
  refine⟨b,rfl,?_⟩
  cases b with
  |true=>exact ly (p' _ M' H' (Ext.refl _ _) rep' rfl)
  |false=>exact mJ (sb g M' ρ env σ H' Q rep' p')
 |_=>simp only[q]at p';exact p'.elim
noncomputable def tru:D->Res Bool
 | .non=>.ok false
 | .bl b=>.ok b
 | .int i=>.ok (i != 0)
 | .str y=>if y.length<=lim then .ok ((y.length:Int) != 0) else .stuck
 | .tup ds=>.ok (!ds.isEmpty)
 | .lst ds=>.ok (!ds.isEmpty)
 | .dic _ _=>.stuck
theorem Is.tru {H:Hp}{m:Addr->Prop}{d:D}{v:V}{k:Bool}(h:Is H m d v)(e:tru d=.ok k):yc X.K v H k:=by
 cases d with
 |non=>cases h;cases e;rfl
 |bl b=>cases h;cases e;rfl
 |int b=>cases h;cases e;rfl
 |str b=>
  cases h
  unfold L3.tru at e
  dsimp only at e
  by_cases hl:b.length<=lim
  ·rw[if_pos hl]at e;cases e;exact⟨dl hl,rfl⟩
  ·rw[if_neg hl]at e;cases e
 |tup ds=>
  obtain⟨a,vs,rfl,h1,h2⟩:=h
  cases e
  refine .inr (.inl ⟨vs,SqT.of h1,?_⟩)
  have:=h2.length
  cases ds<;>cases vs<;>simp_all
 |lst ds=>
  obtain⟨a,vs,rfl,h1,h2⟩:=h.rd
  cases e
  refine .inl ⟨vs,.inl h1,?_⟩
  have:=h2.length
  cases ds<;>cases vs<;>simp_all
 |dic ks ds=>cases e
noncomputable def dB (fa:En->Res R):En->Res Bool:=fun env=>(fa env).bind fun ra=>tru ra.d
theorem bC {a:Expr}{fa:En->Res R}(ha:PD X E a fa)(he:autoParam (∀ whole,isTrue a X.env whole=(do let v <- whole;standAt a.pos;holding [v] (truthy v))) autoI._auto_1):rp X E a (dB fa):=by
 obtain⟨ta,pa,sa⟩:=ha
 refine⟨_,rG pa he,fun g M ρ env σ H Q rep p=>sa.oneT rep p fun r v M' H' e rep' i p'=>?_⟩
 cases q:tru r.d with
 |stuck=>rw[q]at p';exact p'.elim
 |exc c=>
  exfalso
  unfold tru at q
  cases z:r.d<;>simp only[z]at q<;>first|cases q|(split at q<;>cases q)
 |ok k=>
  rw[q]at p'
  exact⟨k,i.tru q,p' M' H' (Ext.refl _ _) rep'⟩
noncomputable def vB (fa:En->Res R):En->Res Bool:=fun env=>(fa env).bind fun ra=>match ra.d with
 | .bl b=>.ok b
 |_=>.stuck
theorem az {a b:Expr}{fa fb:En->Res R}{op:CmpOp}{k:R->R->Res R}{pos:Pos}(ho:ib X E (compareOp op) k)(ha:PD X E a fa)(hb:PD X E b fb)(hm:behindInMarks op b=false):rp X E (.Compare a [op] [b] pos) (vB (v2 k fa fb)):=by
 obtain⟨r,h1,h2⟩:=ho
 obtain⟨ta,pa,sa⟩:=ha
 obtain⟨tb,pb,sb⟩:=hb
 have S:Snd X.mg E (Au r ta tb) (v2 k fa fb):=fun g M ρ env σ H Q rep p=>sa.twoE sb rep p fun ra rb x y M' H' rep' i1 i2 p'=>h2 g M' ρ env σ H' Q ra rb x y rep' i1 i2 p'
 refine⟨_,u3 h1 pa pb hm,fun g M ρ env σ H Q rep p=>S.oneT rep p fun r v M' H' e rep' i p'=>?_⟩
 cases q:r.d with
 |bl b=>
  rw[q]at i
  simp only[q]at p'
  cases i
  exact⟨b,rfl,p' M' H' (Ext.refl _ _) rep'⟩
 |_=>simp only[q]at p';exact p'.elim
noncomputable def ff (fa:En->Res Bool):En->Res Bool:=fun env=>(fa env).bind fun b=>.ok (!b)
noncomputable def iU (fa fb:En->Res Bool):En->Res Bool:=fun env=>(fa env).bind fun b=>if b then fb env else .ok false
noncomputable def ms (fa fb:En->Res Bool):En->Res Bool:=fun env=>(fa env).bind fun b=>if b then .ok true else fb env
section
variable {mg:Str->Option Value}{g:Gd}{M M':Addr->Prop}{ρ:Pr}{env:En}{σ:St}{H H':Hp}
theorem SndT.oneT {t:TT}{f:En->Res Bool}(h:SndT mg E t f)(rep:Rep g M ρ env σ H){K:Bool->Res Bool}{Q':Bool->Hp->Prop}{Q:Bool->Hp->Prop}(hp:PostT mg E g M ρ env σ H Q' ((f env).bind K))
 (k:∀ b M' H',Ext M H M' H'->Rep g M' ρ env σ H'->PostT mg E g M' ρ env σ H' Q' (K b)->Q b H'):t σ H Q:=by
 refine h g M ρ env σ H Q rep ?_
 cases e:f env with
 |stuck=>rw[e]at hp;exact hp
 |exc c=>rw[e]at hp;exact hp
 |ok b=>rw[e]at hp;exact fun M1 H1 e1 rep1=>k b M1 H1 e1 rep1 (PostT.ext e1 hp)
theorem SndT.oneE {t:TT}{f:En->Res Bool}(h:SndT mg E t f)(rep:Rep g M ρ env σ H){K:Bool->Res R}{Q':VK}{Q:Bool->Hp->Prop}(hp:PostE mg E g M ρ env σ H Q' ((f env).bind K))
 (k:∀ b M' H',Ext M H M' H'->Rep g M' ρ env σ H'->PostE mg E g M' ρ env σ H' Q' (K b)->Q b H'):t σ H Q:=by
 refine h g M ρ env σ H Q rep ?_
 cases e:f env with
 |stuck=>rw[e]at hp;exact hp
 |exc c=>rw[e]at hp;exact hp
 |ok b=>rw[e]at hp;exact fun M1 H1 e1 rep1=>k b M1 H1 e1 rep1 (PostE.ext e1 hp)
end
theorem br {a:Expr}{fa:En->Res Bool}{pos:Pos}(ha:rp X E a fa):rp X E (.UnaryOp .Not a pos) (ff fa):=by
 obtain⟨ta,pa,sa⟩:=ha
 exact⟨_,xR pa,fun g M ρ env σ H Q rep p=>sa.oneT rep p fun b M' H' e rep' p'=>p' M' H' (Ext.refl _ _) rep'⟩
theorem cY {a:Expr}{fa:En->Res Bool}{pos:Pos}(ha:rp X E a fa):PWD X E (.BoolOp .And [a] pos) fa:=let ⟨t,pa,sa⟩:=ha;⟨t,uW pa,sa⟩
theorem bJ {a:Expr}{fa:En->Res Bool}{pos:Pos}(ha:rp X E a fa):PWD X E (.BoolOp .Or [a] pos) fa:=let ⟨t,pa,sa⟩:=ha;⟨t,xP pa,sa⟩
theorem dU {a b:Expr}{aQ:List Expr}{fa fb:En->Res Bool}{pos:Pos}(ha:rp X E a fa)(hb:PWD X E (.BoolOp .And (b::aQ) pos) fb):PWD X E (.BoolOp .And (a::b::aQ) pos) (iU fa fb):=by
 obtain⟨ta,pa,sa⟩:=ha
 obtain⟨tb,pb,sb⟩:=hb
 refine⟨_,xQ pa pb,fun g M ρ env σ H Q rep p=>sa.oneT rep p fun b M' H' e rep' p'=>?_⟩
 cases b with
 |true=>exact ly (sb g M' ρ env σ H' Q rep' p')
 |false=>exact mJ (p' M' H' (Ext.refl _ _) rep')
theorem bS {a b:Expr}{aQ:List Expr}{fa fb:En->Res Bool}{pos:Pos}(ha:rp X E a fa)(hb:PWD X E (.BoolOp .Or (b::aQ) pos) fb):PWD X E (.BoolOp .Or (a::b::aQ) pos) (ms fa fb):=by
 obtain⟨ta,pa,sa⟩:=ha
 obtain⟨tb,pb,sb⟩:=hb
 refine⟨_,Ay pa pb,fun g M ρ env σ H Q rep p=>sa.oneT rep p fun b M' H' e rep' p'=>?_⟩
 cases b with
 |true=>exact ly (p' M' H' (Ext.refl _ _) rep')
 |false=>exact mJ (sb g M' ρ env σ H' Q rep' p')
noncomputable def DH (fc:En->Res Bool)(fa fb:En->Res R):En->Res R:=fun env=>(fc env).bind fun b=>if b then fa env else fb env
theorem A4 {c a b:Expr}{fc:En->Res Bool}{fa fb:En->Res R}{pos:Pos}(hc:rp X E c fc)(ha:PD X E a fa)(hb:PD X E b fb):PD X E (.IfExp c a b pos) (DH fc fa fb):=by
 obtain⟨tc,pc,sc⟩:=hc
 obtain⟨ta,pa,sa⟩:=ha
 obtain⟨tb,pb,sb⟩:=hb
 refine⟨_,rA pc pa pb,fun g M ρ env σ H Q rep p=>sc.oneE rep p fun b M' H' e rep' p'=>?_⟩
 cases b with
 |true=>exact ly (sa g M' ρ env σ H' Q rep' p')
 |false=>exact mJ (sb g M' ρ env σ H' Q rep' p')
noncomputable def mt (a b:R):Res R:=match a.d,b.d with
 | .lst xs,.int i=>match atI xs i with
  |some d=>.ok (mkV d a.fr a.al)
  |none=>.stuck
 | .tup xs,.int i=>match atI xs i with
  |some d=>.ok (mkV d a.fr a.al)
  |none=>.stuck
 | .str z,.int i=>if z.length<=lim then (match atI z.cps.toList i with
  |some c=>.ok (.val (.str ⟨#[c]⟩) true [])
  |none=>.stuck) else .stuck
 |_,_=>.stuck
theorem IsAll.atI {H:Hp}{m:Addr->Prop}{ds:List D}{vs:List V}{i:Int}{d:D}(h:IsAll H m ds vs)(e:L2.atI ds i=some d):∃ v,L2.atI vs i=some v/\Is H m d v:=by
 unfold L2.atI at e ⊢
 rw[h.length]
 cases q:j_ ds.length i with
 |none=>rw[q]at e;cases e
 |some j=>
  rw[q]at e
  exact h.get e
theorem xa:∃ r:R2,IxR X r/\∀ g M ρ env σ H Q ra rb x y,Rep g M ρ env σ H->Is H (vmsk g M ra.fr ρ ra.al) ra.d x->Is H (vmsk g M rb.fr ρ rb.al) rb.d y->PostE X.mg E g M ρ env σ H Q (mt ra rb)->r x y H Q:=by
 refine⟨_,yj,fun g M ρ env σ H Q ra rb x y rep i1 i2 p=>?_⟩
 unfold mt at p
 cases e1:ra.d with
 |lst xs=>
  rw[e1]at p i1
  cases e2:rb.d with
  |int i=>
   rw[e2]at p i2
   cases i2
   obtain⟨a,vs,rfl,h1,h2⟩:=i1.rd
   cases q:atI xs i with
   |none=>simp only[q]at p;exact p.elim
   |some d=>
    simp only[q]at p
    obtain⟨v,ev,iv⟩:=h2.atI q
    exact .inl ⟨a,vs,i,v,rfl,rfl,.inl h1,ev,p.val rep iv⟩
  |_=>rw[e2]at p;exact p.elim
 |tup xs=>
  rw[e1]at p i1
  cases e2:rb.d with
  |int i=>
   rw[e2]at p i2
   cases i2
   obtain⟨a,vs,rfl,h1,h2⟩:=i1
   cases q:atI xs i with
   |none=>simp only[q]at p;exact p.elim
   |some d=>
    simp only[q]at p
    obtain⟨v,ev,iv⟩:=h2.atI q
    exact .inr (.inl ⟨a,vs,i,v,rfl,rfl,SqT.of h1,ev,p.val rep iv⟩)
  |_=>rw[e2]at p;exact p.elim
 |str z=>
  rw[e1]at p i1
  cases e2:rb.d with
  |int i=>
   rw[e2]at p i2
   cases i1;cases i2
   by_cases hz:z.length<=lim
   ·simp only[hz,if_true]at p
    cases q:atI z.cps.toList i with
    |none=>simp only[q]at p;exact p.elim
    |some c=>
     simp only[q]at p
     exact .inr (.inr ⟨z,i,c,rfl,rfl,dl hz,q,p _ M H (Ext.refl _ _) rep rfl⟩)
   ·simp only[hz,if_false]at p;exact p.elim
  |_=>rw[e2]at p;exact p.elim
 |_=>rw[e1]at p;exact p.elim
theorem jy {a b:Expr}{fa fb:En->Res R}{pos:Pos}(ha:PD X E a fa)(hb:PD X E b fb)(hs:i8 b):PD X E (.Subscript a b pos) (v2 mt fa fb):=by
 obtain⟨r,h1,h2⟩:=xa (X:=X) (E:=E)
 obtain⟨ta,pa,sa⟩:=ha
 obtain⟨tb,pb,sb⟩:=hb
 exact⟨_,rL h1 pa pb hs,fun g M ρ env σ H Q rep p=>sa.twoE sb rep p fun ra rb x y M' H' rep' i1 i2 p'=>h2 g M' ρ env σ H' Q ra rb x y rep' i1 i2 p'⟩
noncomputable def aR (i:Nat)(fb:En->Res R):En->Res R:=fun env=>match env[i]? with
 |some (some (.own ds fr))=>(fb env).bind fun rb=>match rb.d with
  | .int k=>match atI ds k with
   |some d=>.ok (mkV d fr [])
   |none=>.stuck
  |_=>.stuck
 |_=>v2 mt (ah i) fb env
theorem aB {i:Nat}{a b:Expr}{fb:En->Res R}{pos:Pos}(ha:PE X a (mF i))(hb:PD X E b fb)(hs:i8 b):PD X E (.Subscript a b pos) (aR i fb):=by
 obtain⟨r,h1,h2⟩:=xa (X:=X) (E:=E)
 obtain⟨tb,pb,sb⟩:=hb
 refine⟨_,rL (ix_list.or h1) ha pb hs,fun g M ρ env σ H Q rep p=>?_⟩
 have gen:PostE X.mg E g M ρ env σ H Q (v2 mt (ah i) fb env)->Au (fun x y H Q=>yh X.K x y H Q\/r x y H Q) (mF i) tb σ H Q:=fun p=>
  Snd.twoE oO sb rep p fun ra rb x y M' H' rep' i1 i2 p'=>.inr (h2 g M' ρ env σ H' Q ra rb x y rep' i1 i2 p')
 unfold aR at p
 cases e1:env[i]? with
 |none=>rw[e1]at p;exact gen p
 |some o=>
  cases o with
  |none=>rw[e1]at p;exact gen p
  |some sl=>
   cases sl with
   |val d fr=>rw[e1]at p;exact gen p
   |tre d=>rw[e1]at p;exact gen p
   |mes d=>rw[e1]at p;exact gen p
   |pin d=>rw[e1]at p;exact gen p
   |dis d=>rw[e1]at p;exact gen p
   |kon a=>rw[e1]at p;exact gen p
   |own ds fr=>
    rw[e1]at p
    obtain⟨v,ev,a,vs,rfl,k1,k2,k4⟩:=rep.slot i _ e1
    refine⟨_,ev,sb.oneE rep p fun rb y M' H' e rep' i2 p'=>?_⟩
    cases q:rb.d with
    |int k=>
     rw[q]at i2
     simp only[q]at p'
     cases i2
     cases q2:atI ds k with
     |none=>simp only[q2]at p';exact p'.elim
     |some d=>
      simp only[q2]at p'
      have k5:IsAll H' (vmsk g M' fr ρ []) ds vs:=(IsAll.weak (fun _ z=>.inl z) k4:IsAll H (vmsk g M fr ρ []) ds vs).ext e
      obtain⟨w,ew,iw⟩:=k5.atI q2
      exact .inl ⟨a,vs,k,w,rfl,rfl,.inl (.inl (e.h _ _ k1)),ew,p'.val rep' iw⟩
    |_=>simp only[q]at p';exact p'.elim
end
end L3
namespace L3
open PySem PySem.Spec PyProof.Rows L2
section
variable {mg:Str->Option Value}{E:XK}{g:Gd}{M M':Addr->Prop}{ρ:Pr}{env:En}{σ:St}{H H':Hp}
theorem SndA.one {t:TA}{f:En->Res (List R)}(h:SndA mg E t f)(rep:Rep g M ρ env σ H){α:Type}{K:List R->Res α}{P:(M:Addr->Prop)->(H:Hp)->Res α->Prop}{Q:List V->Hp->Prop}
 (hp:P M H ((f env).bind K)) (hs:∀ M H,P M H .stuck->False) (hx:∀ M H c,P M H (.exc c)->vp mg E g c) (he:∀ M H M' H' r,Ext M H M' H'->P M H r->P M' H' r)
 (k:∀ rs vs M' H',Ext M H M' H'->Rep g M' ρ env σ H'->IsAll H' (vmsk g M' (aT rs) ρ (bh rs)) (rs.map R.d) vs->P M' H' (K rs)->Q vs H'):t σ H Q:=by
 refine h g M ρ env σ H Q rep ?_
 cases e:f env with
 |stuck=>rw[e]at hp;exact hs _ _ hp
 |exc c=>rw[e]at hp;exact hx _ _ c hp
 |ok r=>
  rw[e]at hp
  exact fun vs M1 H1 e1 rep1 is=>k r vs M1 H1 e1 rep1 is (he _ _ _ _ _ e1 hp)
theorem SndA.oneE {t:TA}{f:En->Res (List R)}(h:SndA mg E t f)(rep:Rep g M ρ env σ H){K:List R->Res R}{Q':VK}{Q:List V->Hp->Prop}(hp:PostE mg E g M ρ env σ H Q' ((f env).bind K))
 (k:∀ rs vs M' H',Ext M H M' H'->Rep g M' ρ env σ H'->IsAll H' (vmsk g M' (aT rs) ρ (bh rs)) (rs.map R.d) vs->PostE mg E g M' ρ env σ H' Q' (K rs)->Q vs H'):t σ H Q:=
 h.one rep (P:=fun M H r=>PostE mg E g M ρ env σ H Q' r) hp (fun _ _ z=>z) (fun _ _ _ z=>z) (fun _ _ _ _ _ e p=>p.ext e) k
theorem SndA.oneA {t:TA}{f:En->Res (List R)}(h:SndA mg E t f)(rep:Rep g M ρ env σ H){K:List R->Res (List R)}{Q':List V->Hp->Prop}{Q:List V->Hp->Prop}(hp:PostA mg E g M ρ env σ H Q' ((f env).bind K))
 (k:∀ rs vs M' H',Ext M H M' H'->Rep g M' ρ env σ H'->IsAll H' (vmsk g M' (aT rs) ρ (bh rs)) (rs.map R.d) vs->PostA mg E g M' ρ env σ H' Q' (K rs)->Q vs H'):t σ H Q:=
 h.one rep (P:=fun M H r=>PostA mg E g M ρ env σ H Q' r) hp (fun _ _ z=>z) (fun _ _ _ z=>z) (fun _ _ _ _ _ e p=>p.ext e) k
theorem IsAll.args {r:R}{rs:List R}{v:V}{vs:List V}(h1:Is H (vmsk g M r.fr ρ r.al) r.d v)(h2:IsAll H (vmsk g M (aT rs) ρ (bh rs)) (rs.map R.d) vs) :
 IsAll H (vmsk g M (aT (r::rs)) ρ (bh (r::rs))) ((r::rs).map R.d) (v::vs):=by
 refine⟨v,vs,rfl,h1.weak fun a z=>?_,h2.weak fun a z=>?_⟩
 ·exact(z.l:vmsk g M (r.fr&&aT rs) ρ (r.al++bh rs) a)
 ·exact(z.r:vmsk g M (r.fr&&aT rs) ρ (r.al++bh rs) a)
end
section
variable {X:Cx}{E:XK}
noncomputable def ao:En->Res (List R):=fun _=>.ok []
noncomputable def ad (f:En->Res R)(fs:En->Res (List R)):En->Res (List R):=fun env=>(f env).bind fun r=>(fs env).bind fun rs=>.ok (r::rs)
theorem ae:rn X E [] ao:=⟨_,dR,fun g M ρ env σ H Q rep p=>p [] M H (Ext.refl _ _) rep rfl⟩
theorem aa {e:Expr}{es:List Expr}{f:En->Res R}{fs:En->Res (List R)}(he:PD X E e f)(hr:rn X E es fs)(hs:autoParam (starEach (e::es) X.env=(false,eval e X.env)::starEach es X.env) autoR._auto_1):rn X E (e::es) (ad f fs):=by
 obtain⟨t,p1,s1⟩:=he
 obtain⟨u,p2,s2⟩:=hr
 refine⟨_,cP p1 p2 hs,fun g M ρ env σ H Q rep p=>s1.oneA rep p fun r v M1 H1 e1 rep1 i1 q1=>s2.oneA rep1 q1 fun rs vs M2 H2 e2 rep2 i2 q2=>?_⟩
 exact q2 (v::vs) M2 H2 (Ext.refl _ _) rep2 (IsAll.args (i1.ext e2) i2)
noncomputable def dC (fs:En->Res (List R)):En->Res R:=fun env=>(fs env).bind fun rs=>if rs.length<=lim then .ok (mkV (.tup (rs.map R.d)) (aT rs) (bh rs)) else .stuck
theorem bD {es:List Expr}{fs:En->Res (List R)}{k:Nat}{pos:Pos}(h:rn X E es fs):PD X E (.Tuple es k pos) (dC fs):=by
 obtain⟨t,p1,s1⟩:=h
 refine⟨_,ye p1,fun g M ρ env σ H Q rep p=>s1.oneE rep p fun rs vs M1 H1 e1 rep1 i1 q1=>?_⟩
 by_cases hl:rs.length<=lim
 ·rw[if_pos hl]at q1
  exact⟨by rw[i1.length,List.length_map];exact dl hl,fun a ha=>q1.tup rep1 ha i1⟩
 ·rw[if_neg hl]at q1;exact q1.elim
noncomputable def fZ (fs:En->Res (List R)):En->Res R:=fun env=>(fs env).bind fun rs=>if rs.length<=lim then .ok (jr (rs.map R.d) (aT rs) (bh rs)) else .stuck
theorem cf {es:List Expr}{fs:En->Res (List R)}{pos:Pos}(h:rn X E es fs):PD X E (.List es pos) (fZ fs):=by
 obtain⟨t,p1,s1⟩:=h
 refine⟨_,rH p1,fun g M ρ env σ H Q rep p=>s1.oneE rep p fun rs vs M1 H1 e1 rep1 i1 q1=>?_⟩
 by_cases hl:rs.length<=lim
 ·rw[if_pos hl]at q1
  exact⟨by rw[i1.length,List.length_map];exact dl hl,fun a ha=>q1.lst rep1 ha i1⟩
 ·rw[if_neg hl]at q1;exact q1.elim
end
noncomputable def nl (H0 H':Hp)(a:Addr):Prop:=H0 a=none/\Mu H' a
noncomputable def RetOk (g:Gd)(H':Hp)(v:V):R->Prop
 | .val d fr _=>Is H' (fun a=>nl g.H₀ H' a\/(fr=false/\g.Ma a)) d v
 | .new ds fr=>∃ a vs,v=.ref a/\H' a=some (.lst vs)/\g.H₀ a=none/\IsAll H' (fun b=>b≠a/\(nl g.H₀ H' b\/(fr=false/\g.Ma b))) ds vs
 | .fre d=>Is H' (nl g.H₀ H') d v
noncomputable def A5 (mg:Str->Option Value)(E:XK)(g:Gd)(Q:VK):Res R->Prop
 | .stuck=>False
 | .exc c=>vp mg E g c
 | .ok r=>∀ v H',Same g.H₀ H'->RetOk g H' v r->Q v H'
noncomputable def ge (mg:Str->Option Value)(n:Nat)(F:List D->Res R):Sp:=fun vs H Q E=>vs.length=n/\∃ ds Ma,IsAll H Ma ds vs/\A5 mg E (A1 H Ma) Q (F ds)
noncomputable def uS (d:D)(fr:Bool)(rs:List R):R:=if d.flat then .val d true [] else if fr then .fre d else .val d (aT rs) (bh rs)
noncomputable def dD (rs:List R):R->R
 | .val d fr _=>uS d fr rs
 | .new ds fr=>if D.flats ds then .new ds true else if fr then .fre (.lst ds) else if (bh rs).isEmpty then .new ds (aT rs) else .val (.lst ds) (aT rs) (bh rs)
 | .fre d=>uS d true rs
section
variable {g:Gd}{M:Addr->Prop}{ρ:Pr}{env:En}{σ:St}{H H':Hp}
theorem Rep.came (rep:Rep g M ρ env σ H)(s:Same H H')(p:Addr->Prop):Rep g (fun a=>M a\/(nl H H' a/\p a)) ρ env σ H':=
 (rep.grow s).moreT fun a z=>⟨z.1.2,rep.same.free z.1.1,(rep.free z.1.1).2.2⟩
theorem sx {d:D}{fr:Bool}{v:V}(rs:List R)(rep:Rep g M ρ env σ H)(s:Same H H')(h:Is H' (fun a=>nl H H' a\/(fr=false/\vmsk g M (aT rs) ρ (bh rs) a)) d v) :
 ∃ M',Ext M H M' H'/\Rep g M' ρ env σ H'/\ROk g M' ρ H H' v (uS d fr rs):=by
 unfold uS
 by_cases hf:d.flat=true
 ·rw[if_pos hf]
  exact⟨M,⟨fun _ z=>z,s,fun _ z=>.inl z⟩,rep.grow s,Is.flat hf h⟩
 ·rw[if_neg hf]
  cases fr with
  |true=>
   refine⟨M,⟨fun _ z=>z,s,fun _ z=>.inl z⟩,rep.grow s,nl H H',fun a z=>?_,?_⟩
   ·exact⟨fun w=>rep.froz a w z.1,z.1,z.2,(rep.free z.1).2.2⟩
   ·exact Is.weak (fun a z=>z.elim id fun w=>by cases w.1) h
  |false=>
   refine⟨_,⟨fun _=>.inl,s,fun _ z=>z.imp id (·.1.1)⟩,rep.came s fun _=>True,?_⟩
   refine Is.weak (fun a z=>?_) h
   rcases z with z|⟨_,z⟩
   ·exact .inl ⟨.inr ⟨z,True.intro⟩,fun _=>rep.same.free z.1⟩
   ·exact z.mono fun _=>.inl
theorem RetOk.caller {v:V}{r:R}(rs:List R)(rep:Rep g M ρ env σ H)(s:Same H H')(h:RetOk (A1 H (vmsk g M (aT rs) ρ (bh rs))) H' v r) :
 ∃ M',Ext M H M' H'/\Rep g M' ρ env σ H'/\ROk g M' ρ H H' v (dD rs r):=by
 cases r with
 |val d fr al=>exact sx rs rep s h
 |fre d=>exact sx rs rep s (Is.weak (fun a z=>.inl z) h)
 |new ds fr=>
  obtain⟨a,vs,rfl,h1,h2,h3⟩:=h
  have h2:H a=none:=h2
  obtain⟨f0,f1,f2⟩:=rep.free h2
  have R1:Rep g (fun b=>M b\/(nl H H' b/\b≠a)) ρ env σ H':=rep.came s fun b=>b≠a
  have nm:¬ (M a\/(nl H H' a/\a≠a)):=fun z=>z.elim f1 fun z=>z.2 rfl
  have X1:Ext M H (fun b=>M b\/(nl H H' b/\b≠a)) H':=⟨fun _=>.inl,s,fun _ z=>z.imp id (·.1.1)⟩
  unfold dD
  dsimp only
  by_cases hfl:D.flats ds=true
  ·rw[if_pos hfl]
   exact⟨_,X1,R1,a,vs,rfl,h1,nm,h2,f2,IsAll.flat hfl h3⟩
  ·rw[if_neg hfl]
   cases fr with
   |true=>
    refine⟨M,⟨fun _ z=>z,s,fun _ z=>.inl z⟩,rep.grow s,nl H H',fun a z=>?_,?_⟩
    ·exact⟨fun w=>rep.froz a w z.1,z.1,z.2,(rep.free z.1).2.2⟩
    ·exact⟨a,vs,rfl,.inl ⟨h1,h2,Mu.lst h1⟩,IsAll.weak (fun b z=>z.2.elim id fun w=>by cases w.1) h3⟩
   |false=>
    simp only[Bool.false_eq_true,if_false]
    by_cases hc:(bh rs).isEmpty=true
    ·rw[if_pos hc]
     refine⟨_,X1,R1,a,vs,rfl,h1,nm,h2,f2,?_⟩
     refine IsAll.weak (fun b z=>?_) h3
     rcases z with⟨nb,z|⟨hf,z⟩⟩
     ·exact⟨.inr ⟨z,nb⟩,fun _=>rep.same.free z.1⟩
     ·have hl:bh rs=[]:=by simpa using hc
      have z:vmsk g M (aT rs) ρ (bh rs) b:=z
      rw[hl]at z
      exact⟨.inl z.nil.1,z.nil.2⟩
    ·rw[if_neg hc]
     refine⟨fun b=>(M b\/(nl H H' b/\b≠a))\/b=a,⟨fun _ z=>.inl (.inl z),s,fun b z=>z.elim (X1.n b) fun e=>.inr (e▸h2)⟩,R1.more h1 f0 f2,a,vs,rfl,.inl ⟨h1,.inl ⟨.inr rfl,fun _=>f0⟩⟩,?_⟩
     refine IsAll.weak (fun b z=>?_) h3
     rcases z with⟨nb,z|⟨hf,z⟩⟩
     ·exact .inl ⟨.inl (.inr ⟨z,nb⟩),fun _=>rep.same.free z.1⟩
     ·exact vmsk.mono (fun _ w=>.inl (.inl w)) z
end
section
variable {X:Cx}{E:XK}{CX:CXT}{k:Nat}{f:Addr}{fd:FuncData}{ps:List Str}{F:List D->Res R}{x:Str}{p pos:Pos}{e:Expr}{es:List Expr}{fs:En->Res (List R)}
noncomputable def aG (F:List D->Res R)(fs:En->Res (List R)):En->Res R:=fun env=>(fs env).bind fun rs=>(F (rs.map R.d)).bind fun r=>.ok (dD rs r)
theorem sy {t:TA}(hl:∀ env rs,fs env=.ok rs->rs.length=ps.length)(s:SndA X.mg E t fs):Snd X.mg E (wZ (ge X.mg ps.length F) [] E t) (aG F fs):=by
 intro g M ρ env σ H Q rep p
 refine s g M ρ env σ H _ rep ?_
 unfold aG at p
 cases e:fs env with
 |stuck=>rw[e]at p;exact p
 |exc c=>rw[e]at p;exact p
 |ok rs=>
  rw[e]at p
  intro vs M1 H1 e1 rep1 is
  have p1:PostE X.mg E g M1 ρ env σ H1 Q ((F (rs.map R.d)).bind fun r=>.ok (dD rs r)):=PostE.ext e1 p
  rw[List.append_nil]
  refine⟨by rw[is.length,List.length_map];exact hl env rs e,rs.map R.d,_,is,?_⟩
  cases q:F (rs.map R.d) with
  |stuck=>rw[q]at p1;exact p1
  |exc c=>rw[q]at p1;exact fun cls dx H' h1 h2=>p1 cls dx H' h1 (rep1.same.trans h2)
  |ok r=>
   rw[q]at p1
   intro v H2 s2 ro
   obtain⟨M3,e3,rep3,ro3⟩:=RetOk.caller rs rep1 s2 ro
   exact p1 v M3 H2 e3 rep3 ro3
theorem ap (G:FnOk X.prog X.w X.K X.mg X.base CX k f fd ps (ge X.mg ps.length F))(hr:Room k X.A)(hg:Gl X x)(hm:X.mg x=some (.ref f))(hk:PySem.W.keepIn X.K (.ref f)=true)(hb:Binds X.K fd ps [])(hx:jf CX X E)
 (ha:rn X E (e::es) fs) (hl:∀ env rs,fs env=.ok rs->rs.length=ps.length) (hdb:autoParam ((x==("__debug__" : Str))=false) autoD._auto_1) (he:autoParam (starEach (e::es) X.env=(false,eval e X.env)::starEach es X.env) autoR._auto_1) (hpl:autoParam ((backTo pos (starEach es X.env)).any (·.1)=false) autoR._auto_1) :
 PD X E (.Call (.Name x p) (e::es) [] pos) (aG F fs):=by
 obtain⟨t,p1,s1⟩:=ha
 exact⟨_,u5 G hr hg hm hk hb .nil hx p1 hdb he hpl,sy hl s1⟩
theorem am:∀ env rs,ao env=.ok rs->rs.length=0:=fun _ _ e=>by cases e;rfl
theorem ac {f:En->Res R}{fs:En->Res (List R)}{n:Nat}(h:∀ env rs,fs env=.ok rs->rs.length=n):∀ env rs,ad f fs env=.ok rs->rs.length=n+1:=fun env rs e=>by
 unfold ad at e
 cases q:f env with
 |stuck=>rw[q]at e;cases e
 |exc c=>rw[q]at e;cases e
 |ok r=>
  rw[q]at e
  cases q2:fs env with
  |stuck=>simp only[Res.bind_ok,q2]at e;cases e
  |exc c=>simp only[Res.bind_ok,q2]at e;cases e
  |ok rs'=>
   simp only[Res.bind_ok,q2]at e
   cases e
   simp[h env rs' q2]
noncomputable def jz (X:Cx)(E:XK)(f:Value)(k:List R->Res R):Prop:=∃ r,CallR X f r/\
 ∀ g M ρ env σ H Q rs vs,Rep g M ρ env σ H->IsAll H (vmsk g M (aT rs) ρ (bh rs)) (rs.map R.d) vs->PostE X.mg E g M ρ env σ H Q (k rs)->r vs H Q
noncomputable def dW (k:List R->Res R)(fs:En->Res (List R)):En->Res R:=fun env=>(fs env).bind k
theorem aD {id:String} {k:List R->Res R} (hc:jz X E (.builtin id) k) (hg:Gl X x) (hm:X.mg x=none) (hv:bootBuiltins x=some (.builtin id)) (ha:rn X E (e::es) fs) (hn:autoParam (x≠"__name__") autoD._auto_1) (hdb:autoParam ((x==("__debug__" : Str))=false) autoD._auto_1)
 (he:autoParam (starEach (e::es) X.env=(false,eval e X.env)::starEach es X.env) autoR._auto_1) (hpl:autoParam ((backTo pos (starEach es X.env)).any (·.1)=false) autoR._auto_1):PD X E (.Call (.Name x p) (e::es) [] pos) (dW k fs):=by
 obtain⟨r,h1,h2⟩:=hc
 obtain⟨t,p1,s1⟩:=ha
 exact⟨_,jg h1 hg hm hv p1 hn hdb he hpl,fun g M ρ env σ H Q rep p=>s1.oneE rep p fun rs vs M1 H1 e1 rep1 i1 q1=>h2 g M1 ρ env σ H1 Q rs vs rep1 i1 q1⟩
theorem cW {T:String} {k:List R->Res R} (hc:jz X E (.type T) k) (hg:Gl X x) (hm:X.mg x=none) (hv:bootBuiltins x=some (.type T)) (ha:rn X E (e::es) fs) (hn:autoParam (x≠"__name__") autoD._auto_1) (hdb:autoParam ((x==("__debug__" : Str))=false) autoD._auto_1)
 (he:autoParam (starEach (e::es) X.env=(false,eval e X.env)::starEach es X.env) autoR._auto_1) (hpl:autoParam ((backTo pos (starEach es X.env)).any (·.1)=false) autoR._auto_1):PD X E (.Call (.Name x p) (e::es) [] pos) (dW k fs):=by
 obtain⟨r,h1,h2⟩:=hc
 obtain⟨t,p1,s1⟩:=ha
 exact⟨_,kF h1 hg hm hv p1 hn hdb he hpl,fun g M ρ env σ H Q rep p=>s1.oneE rep p fun rs vs M1 H1 e1 rep1 i1 q1=>h2 g M1 ρ env σ H1 Q rs vs rep1 i1 q1⟩
noncomputable def cg:List R->Res R
 | [r]=>match r.d with
  | .lst ds=>.ok (.val (.int ds.length) true [])
  | .tup ds=>.ok (.val (.int ds.length) true [])
  | .str z=>if z.length<=lim then .ok (.val (.int z.length) true []) else .stuck
  |_=>.stuck
 |_=>.stuck
theorem aW:jz X E (.builtin "len") cg:=by
 refine⟨_,call_len_seq.or lx,fun g M ρ env σ H Q rs vs rep i p=>?_⟩
 match rs,i,p with
 | [r],i,p=>
  obtain⟨v,w,rfl,i1,i2⟩:=i
  cases i2
  have i1:Is H (vmsk g M (aT [r]) ρ (bh [r])) r.d v:=i1
  unfold cg at p
  dsimp only at p
  cases q:r.d with
  |lst ds=>
   rw[q]at p i1
   obtain⟨a,ws,rfl,h1,h2⟩:=i1.rd
   exact .inl ⟨a,ws,rfl,.inl (.inl h1),by rw[h2.length];exact p _ M H (Ext.refl _ _) rep rfl⟩
  |tup ds=>
   rw[q]at p i1
   obtain⟨a,ws,rfl,h1,h2⟩:=i1
   exact .inl ⟨a,ws,rfl,.inr (SqT.of h1),by rw[h2.length];exact p _ M H (Ext.refl _ _) rep rfl⟩
  |str z=>
   rw[q]at p i1
   cases i1
   by_cases hz:z.length<=lim
   ·simp only[hz,if_true]at p
    exact .inr ⟨z,rfl,dl hz,p _ M H (Ext.refl _ _) rep rfl⟩
   ·simp only[hz,if_false]at p;exact p.elim
  |_=>rw[q]at p;exact p.elim
 | [],_,p=>exact p.elim
 |_::_::_,_,p=>exact p.elim
theorem oP {g:Gd}{M:Addr->Prop}{ρ:Pr}{r:R}{a:Addr}(h:vmsk g M (aT [r]) ρ (bh [r]) a):vmsk g M r.fr ρ r.al a:=by
 have e1:aT [r]=r.fr:=by simp[aT]
 have e2:bh [r]=r.al:=by simp[bh]
 rw[e1,e2]at h
 exact h
end
end L3
namespace L3
open PySem PySem.Spec PyProof.Rows L2
inductive Fl where
 |nx (env:En)|rt (r:R)|bk (env:En)|ct (env:En)|rm (r:R) (env:En)
structure Frz (M:Addr->Prop) (H:Hp) (M':Addr->Prop) (H':Hp):Prop where
 m:∀ a,M a->M' a
 h:∀ a o,H a=some o->(M a\/fixd o)->H' a=some o
theorem Frz.refl (M:Addr->Prop)(H:Hp):Frz M H M H:=⟨fun _ z=>z,fun _ _ e _=>e⟩
theorem Frz.trans {M M1 M2:Addr->Prop}{H H1 H2:Hp}(a:Frz M H M1 H1)(b:Frz M1 H1 M2 H2):Frz M H M2 H2:=⟨fun x z=>b.m x (a.m x z),fun x o e z=>b.h x o (a.h x o e z) (z.imp (a.m x) id)⟩
theorem Ext.frz {M M':Addr->Prop}{H H':Hp}(e:Ext M H M' H'):Frz M H M' H':=⟨e.m,fun a o q _=>e.h a o q⟩
section
variable (mg:Str->Option Value)(E:XK)(g:Gd)(M:Addr->Prop)(H:Hp)(D:Ends)
noncomputable def PostS:Res Fl->Prop
 | .stuck=>False
 | .exc c=>vp mg E g c
 | .ok (.nx env)=>∀ σ M' ρ H',Frz M H M' H'->Rep g M' ρ env σ H'->D.nx σ H'
 | .ok (.bk env)=>∀ σ M' ρ H',Frz M H M' H'->Rep g M' ρ env σ H'->D.bk σ H'
 | .ok (.ct env)=>∀ σ M' ρ H',Frz M H M' H'->Rep g M' ρ env σ H'->D.ct σ H'
 | .ok (.rt r)=>∀ v M' H',Frz M H M' H'->Same g.H₀ H'->((∀ a,¬ g.Z a)->RetOk g H' v r)->(r.d.flat=true->Is H' (fun _=>False) r.d v)->D.rt v H'
 | .ok (.rm r env)=>∀ v σ M' ρ H0 H',Frz M H M' H'->Rep g M' ρ env σ H'->Same g.H₀ H0->(∀ a,g.Z a->H0 a≠none)->ROk g M' ρ H0 H' v r->D.rt v H'
end
noncomputable def vt (mg:Str->Option Value)(E:XK)(t:TS)(f:En->Res Fl):Prop:=∀ g M ρ env σ H D,Rep g M ρ env σ H->PostS mg E g M H D (f env)->t D σ H
noncomputable def p_ (X:Cx)(E:XK)(st:Stmt)(f:En->Res Fl):Prop:=∃ t,PS X st t/\vt X.mg E t f
noncomputable def mS (X:Cx)(E:XK)(st:List Stmt)(f:En->Res Fl):Prop:=∃ t,PSs X st t/\vt X.mg E t f
section
variable {mg:Str->Option Value}{E:XK}{g:Gd}{M M':Addr->Prop}{ρ:Pr}{env:En}{σ:St}{H H':Hp}{D:Ends}
theorem PostS.frz {r:Res Fl}(e:Frz M H M' H')(p:PostS mg E g M H D r):PostS mg E g M' H' D r:=by
 cases r with
 |stuck=>exact p
 |exc c=>exact p
 |ok r=>cases r with
  |nx env=>exact fun σ M2 ρ2 H2 e2=>p σ M2 ρ2 H2 (e.trans e2)
  |bk env=>exact fun σ M2 ρ2 H2 e2=>p σ M2 ρ2 H2 (e.trans e2)
  |ct env=>exact fun σ M2 ρ2 H2 e2=>p σ M2 ρ2 H2 (e.trans e2)
  |rt r=>exact fun v M2 H2 e2=>p v M2 H2 (e.trans e2)
  |rm r env=>exact fun v σ M2 ρ2 H0 H2 e2=>p v σ M2 ρ2 H0 H2 (e.trans e2)
theorem Snd.oneS {t:TE}{f:En->Res R}(h:Snd mg E t f)(rep:Rep g M ρ env σ H){K:R->Res Fl}{Q:VK}(hp:PostS mg E g M H D ((f env).bind K))
 (k:∀ r v M' H',Ext M H M' H'->Rep g M' ρ env σ H'->ROk g M' ρ H H' v r->PostS mg E g M' H' D (K r)->Q v H'):t σ H Q:=by
 refine h g M ρ env σ H Q rep ?_
 cases e:f env with
 |stuck=>rw[e]at hp;exact hp
 |exc c=>rw[e]at hp;exact hp
 |ok r=>rw[e]at hp;exact fun v M1 H1 e1 rep1 ro=>k r v M1 H1 e1 rep1 ro (PostS.frz e1.frz hp)
theorem SndT.oneS {t:TT}{f:En->Res Bool}(h:SndT mg E t f)(rep:Rep g M ρ env σ H){K:Bool->Res Fl}{Q:Bool->Hp->Prop}(hp:PostS mg E g M H D ((f env).bind K))
 (k:∀ b M' H',Frz M H M' H'->Rep g M' ρ env σ H'->PostS mg E g M' H' D (K b)->Q b H'):t σ H Q:=by
 refine h g M ρ env σ H Q rep ?_
 cases e:f env with
 |stuck=>rw[e]at hp;exact hp
 |exc c=>rw[e]at hp;exact hp
 |ok r=>rw[e]at hp;exact fun M1 H1 e1 rep1=>k r M1 H1 e1.frz rep1 (PostS.frz e1.frz hp)
noncomputable def A6 (ρ:Pr)(i:Nat):Pr:=fun j a=>if j=i then False else ρ j a
theorem nZ {j i:Nat}(h:j≠i):A6 ρ i j=ρ j:=by funext a;unfold A6;rw[if_neg h]
theorem jA {j i:Nat}{a:Addr}(h:A6 ρ i j a):j≠i/\ρ j a:=by
 unfold A6 at h
 by_cases e:j=i
 ·rw[if_pos e]at h;exact h.elim
 ·rw[if_neg e]at h;exact⟨e,h⟩
noncomputable def lF (ρ:Pr)(i:Nat)(T:Addr->Prop):Pr:=fun j a=>if j=i then T a else ρ j a
theorem cA {j i:Nat}{T:Addr->Prop}(h:j≠i):lF ρ i T j=ρ j:=by funext a;unfold lF;rw[if_neg h]
theorem df {i:Nat}{T:Addr->Prop}:lF ρ i T i=T:=by funext a;unfold lF;rw[if_pos rfl]
noncomputable def frz1 (env:En)(i:Nat):En:=match env[i]? with
 |some (some (.own ds fr))=>env.set i (some (.val (.lst ds) fr))
 |some (some (.tre d))=>env.set i (some (.val d true))
 |some (some (.mes _))=>env.set i none
 |some (some (.pin d))=>env.set i (some (.val d true))
 |some (some (.dis d))=>env.set i (some (.val d true))
 |_=>env
noncomputable def frz (env:En)(al:List Nat):En:=al.foldl frz1 env
theorem lG {i j:Nat}(h:j≠i):(frz1 env i)[j]?=env[j]?:=by
 unfold frz1
 split<;>first|rfl|exact List.getElem?_set_ne (Ne.symm h)
theorem mT (i:Nat):(frz1 env i).length=env.length:=by
 unfold frz1
 split<;>simp
theorem sA:∀(al:List Nat){env:En}{j:Nat},¬ j∈al->(frz env al)[j]?=env[j]?
 | [],_,_,_=>rfl
 |i::al,env,j,h=>by
  show(frz (frz1 env i) al)[j]?=_
  rw[sA al fun z=>h (by simp[z]),lG fun z=>h (by simp[z])]
theorem lH:∀(al:List Nat)(env:En),(frz env al).length=env.length
 | [],_=>rfl
 |i::al,env=>by
  show(frz (frz1 env i) al).length=_
  rw[lH al,mT]
theorem Rep.frz1 (rep:Rep g M ρ env σ H)(i:Nat):Rep g (fun a=>M a\/ρ i a) (A6 ρ i) (frz1 env i) σ H where
 same:=rep.same
 froz:=fun b hb=>hb.elim (rep.froz b) fun z=>(rep.priv i b z).2.2.some
 inn:=fun b hb=>hb.elim (rep.inn b) fun z=>.inl (rep.priv i b z).2.1
 fl:=fun b hb h0=>hb.elim (fun z=>rep.fl b z h0) fun z=>.inl (rep.priv i b z).2.2
 slot:=fun j sl ej=>by
  by_cases hj:j=i
  ·subst hj
   cases e:env[j]? with
   |none=>
    have:L3.frz1 env j=env:=by unfold L3.frz1;rw[e]
    rw[this,e]at ej;cases ej
   |some o=>
    have hi:j<env.length:=(List.getElem?_eq_some_iff.mp e).1
    cases o with
    |none=>
     have:L3.frz1 env j=env:=by unfold L3.frz1;rw[e]
     rw[this,e]at ej;cases ej
    |some s0=>
     obtain⟨v,ev,k⟩:=rep.slot j s0 e
     cases s0 with
     |val d fr=>
      have:L3.frz1 env j=env:=by unfold L3.frz1;rw[e]
      rw[this,e]at ej;cases ej
      exact⟨v,ev,Is.weak (fun b z=>msk.mono (fun _=>.inl) z) k⟩
     |own ds fr=>
      have:L3.frz1 env j=env.set j (some (.val (.lst ds) fr)):=by unfold L3.frz1;rw[e]
      rw[this,List.getElem?_set_self hi]at ej;cases ej
      obtain⟨a,vs,rfl,h1,h2,h4⟩:=k
      have ha:=(h2 a).mpr rfl
      exact⟨_,ev,a,vs,rfl,.inl ⟨h1,.inr ha,fun _=>(rep.priv j a ha).2.1⟩,IsAll.weak (fun b z=>msk.mono (fun _=>.inl) z) h4⟩
     |tre d=>
      have:L3.frz1 env j=env.set j (some (.val d true)):=by unfold L3.frz1;rw[e]
      rw[this,List.getElem?_set_self hi]at ej;cases ej
      exact⟨v,ev,Is.weak (fun b z=>⟨.inr z,fun _=>(rep.priv j b z).2.1⟩) k⟩
     |mes d=>
      have:L3.frz1 env j=env.set j none:=by unfold L3.frz1;rw[e]
      rw[this,List.getElem?_set_self hi]at ej;cases ej
     |pin d=>
      have:L3.frz1 env j=env.set j (some (.val d true)):=by unfold L3.frz1;rw[e]
      rw[this,List.getElem?_set_self hi]at ej;cases ej
      exact⟨v,ev,Is.weak (fun b z=>⟨.inr z,fun _=>(rep.priv j b z).2.1⟩) k.1⟩
     |dis d=>
      have:L3.frz1 env j=env.set j (some (.val d true)):=by unfold L3.frz1;rw[e]
      rw[this,List.getElem?_set_self hi]at ej;cases ej
      exact⟨v,ev,Is.weak (fun b z=>⟨.inr z,fun _=>(rep.priv j b z).2.1⟩) k.1⟩
     |kon a=>
      have:L3.frz1 env j=env:=by unfold L3.frz1;rw[e]
      rw[this,e]at ej;cases ej
      exact⟨v,ev,k⟩
  ·rw[lG hj]at ej
   obtain⟨v,ev,k⟩:=rep.slot j sl ej
   exact⟨v,ev,by rw[nZ hj];exact SlOk.weak (fun _=>.inl) k⟩
 priv:=fun j a h=>by
  obtain⟨hj,h⟩:=jA h
  exact⟨fun z=>z.elim (rep.priv j a h).1 fun z=>hj (rep.apart j i a h z),(rep.priv j a h).2⟩
 apart:=fun j k a h1 h2=>rep.apart j k a (jA h1).2 (jA h2).2
 ow:=fun j a h=>by
  obtain⟨hj,h⟩:=jA h
  have:=rep.ow j a h
  unfold isOwn at this ⊢
  rw[lG hj];exact this
 len:=by rw[mT];exact rep.len
 zz:=rep.zz
theorem Rep.frz:∀(al:List Nat){env:En}{M:Addr->Prop}{ρ:Pr},Rep g M ρ env σ H->∃(M':Addr->Prop)(ρ':Pr),(∀ a,M a->M' a)/\Rep g M' ρ' (L3.frz env al) σ H/\(∀ i,i∈al->∀ a,ρ i a->M' a)/\(∀ j a,ρ' j a->ρ j a)/\(∀ j,¬ j∈al->ρ' j=ρ j)
 | [],env,M,ρ,rep=>⟨M,ρ,fun _ z=>z,rep,fun _ z=>absurd z (by simp),fun _ _ o=>o,fun _ _=>rfl⟩
 |i::al,env,M,ρ,rep=>by
  obtain⟨M2,ρ2,e2,rep2,o2,k2,l2⟩:=Rep.frz al (rep.frz1 i)
  refine⟨M2,ρ2,fun a z=>e2 a (.inl z),rep2,fun j hj a o=>?_,fun j a o=>(jA (k2 j a o)).2,fun j hj=>?_⟩
  ·by_cases hji:j=i
   ·exact e2 a (.inr (hji▸o))
   ·exact o2 j ((List.mem_cons.mp hj).resolve_left hji) a (by rw[nZ hji];exact o)
  ·rw[l2 j fun z=>hj (by simp[z]),nZ fun z=>hj (by simp[z])]
theorem Is.frozen {fr:Bool}{al:List Nat}{d:L3.D}{v:V}(rep:Rep g M ρ env σ H)(e:∀ a,M a->M' a)(hm:∀ i,i∈al->∀ a,ρ i a->M' a)(h:Is H (vmsk g M fr ρ al) d v):Is H (msk g M' fr) d v:=
 h.weak fun a z=>z.elim (msk.mono e) fun⟨i,hi,o⟩=>⟨hm i hi a o,fun _=>(rep.priv i a o).2.1⟩
theorem Rep.put {i:Nat}{sl:Sl}{v:V}{T:Addr->Prop}(rep:Rep g M ρ env σ H)(hi:i<env.length)(ok:SlOk g M T H v sl)(ht:∀ a,T a->¬ M a/\g.H₀ a=none/\Mu H a/\∀ j,j≠i->¬ ρ j a)(hO:autoParam (∀ a,T a->sl.isO=true) autoJ._auto_1) :
 Rep g M (lF ρ i T) (env.set i (some sl)) (σ.set i (some v)) H:=by
 have hi2:i<σ.length:=by rw[<- rep.len];exact hi
 refine⟨rep.same,rep.froz,rep.inn,rep.fl,fun j s ej=>?_,fun j a h=>?_,fun j k a h1 h2=>?_,fun j a h=>?_,by rw[List.length_set,List.length_set];exact rep.len,rep.zz⟩
 ·by_cases hj:j=i
  ·subst hj
   rw[List.getElem?_set_self hi]at ej
   cases ej
   exact⟨v,List.getElem?_set_self hi2,by rw[df];exact ok⟩
  ·rw[List.getElem?_set_ne (Ne.symm hj)]at ej
   obtain⟨w,ew,k⟩:=rep.slot j s ej
   exact⟨w,by rw[List.getElem?_set_ne (Ne.symm hj)];exact ew,by rw[cA hj];exact k⟩
 ·by_cases hj:j=i
  ·subst hj;rw[df]at h
   exact⟨(ht a h).1,(ht a h).2.1,(ht a h).2.2.1⟩
  ·rw[cA hj]at h;exact rep.priv j a h
 ·by_cases hj:j=i
  ·by_cases hk:k=i
   ·rw[hj,hk]
   ·subst hj;rw[df]at h1;rw[cA hk]at h2
    exact absurd h2 ((ht a h1).2.2.2 k hk)
  ·by_cases hk:k=i
   ·subst hk;rw[df]at h2;rw[cA hj]at h1
    exact absurd h1 ((ht a h2).2.2.2 j hj)
   ·rw[cA hj]at h1;rw[cA hk]at h2
    exact rep.apart j k a h1 h2
 ·unfold isOwn
  by_cases hj:j=i
  ·subst hj;rw[df]at h
   rw[List.getElem?_set_self hi]
   exact hO a h
  ·rw[cA hj]at h
   rw[List.getElem?_set_ne (Ne.symm hj)]
   exact rep.ow j a h
noncomputable def put (env:En)(i:Nat):R->En
 | .new ds fr=>env.set i (some (.own ds fr))
 | .val d fr al=>(frz env al).set i (some (.val d fr))
 | .fre d=>env.set i (some (.tre d))
theorem Rep.store {i:Nat}{r:R}{v:V}{H0:Hp}(rep:Rep g M ρ env σ H)(h0:Same g.H₀ H0)(hi:i<env.length)(h:ROk g M ρ H0 H v r):∃ M' ρ',Frz M H M' H/\Rep g M' ρ' (L3.put env i r) (σ.set i (some v)) H:=by
 cases r with
 |new ds fr=>
  obtain⟨a,vs,rfl,h1,h2,h3,h4,h5⟩:=h
  exact⟨M,_,Frz.refl _ _,rep.put (sl:=.own ds fr) (T:=fun b=>b=a) hi ⟨a,vs,rfl,h1,fun _=>Iff.rfl,h5⟩ fun b e=>by subst e;exact⟨h2,h0.free h3,Mu.lst h1,fun j _=>h4 j⟩⟩
 |val d fr al=>
  obtain⟨M1,ρ1,e1,rep1,o1,k1,_⟩:=Rep.frz al rep
  exact⟨M1,_,⟨e1,fun _ _ e _=>e⟩,rep1.put (sl:=.val d fr) (T:=fun _=>False) (by rw[lH];exact hi) (Is.frozen rep e1 o1 h) (fun _ z=>z.elim) fun _ z=>z.elim⟩
 |fre d=>
  obtain⟨T,ht,is⟩:=h
  exact⟨M,_,Frz.refl _ _,rep.put (sl:=.tre d) (T:=T) hi is fun b z=>let ⟨a1,a2,a3,a4⟩:=ht b z;⟨a1,h0.free a2,a3,fun j _=>a4 j⟩⟩
theorem Rep.writeO {i:Nat}{a:Addr}{sl:Sl}{v:V}{u':HO}(hu:A0 u')(rep:Rep g M ρ env σ H)(o:ρ i a)(hi:i<env.length)(ev:σ[i]?=some (some v))(ok:SlOk g M (ρ i) (bf H a u') v sl)(hO:autoParam (sl.isO=true) autoR._auto_1) :
 Frz M H M (bf H a u')/\Rep g M ρ (env.set i (some sl)) σ (bf H a u'):=by
 obtain⟨nm,n0,uo,ha,hmu⟩:=rep.priv i a o
 have nfx:∀ u,H a=some u->¬ fixd u:=fun u e z=>by
  rw[ha]at e;cases e
  cases uo<;>first|exact z|exact hmu
 have kp:∀ b u,H b=some u->(M b\/fixd u)->bf H a u' b=some u:=fun b u q z=>by
  rw[aq]
  ·exact q
  ·rintro rfl
   rcases z with z|z
   ·exact nm z
   ·exact nfx u q z
 have km:∀(fr:Bool) b u,H b=some u->(msk g M fr b\/fixd u)->bf H a u' b=some u:=fun fr b u q z=>kp b u q (z.imp (·.1) id)
 refine⟨⟨fun _ z=>z,kp⟩,fun b u q=>?_,fun b hb=>?_,rep.inn,fun b hb h0=>?_,fun j s ej=>?_,fun j b h=>?_,rep.apart,fun j b h=>?_,by rw[List.length_set];exact rep.len,fun c z e=>by
  by_cases hc:c=a
  ·subst hc;rw[aL]at e;cases e
  ·rw[aq hc]at e;exact rep.zz c z e⟩
 ·rw[aq (fun z=>by rw[z,n0]at q;cases q)]
  exact rep.same b u q
 ·have nb:b≠a:=fun z=>nm (by rw[<- z];exact hb)
  rw[aq nb];exact rep.froz b hb
 ·have nb:b≠a:=fun z=>nm (by rw[<- z];exact hb)
  exact(rep.fl b hb h0).same fun o e=>by rw[aq nb];exact e
 ·by_cases hj:j=i
  ·subst hj
   rw[List.getElem?_set_self hi]at ej
   cases ej
   exact⟨v,ev,ok⟩
  ·rw[List.getElem?_set_ne (Ne.symm hj)]at ej
   obtain⟨w,ew,k⟩:=rep.slot j s ej
   refine⟨w,ew,?_⟩
   have nj:∀ b,ρ j b->b≠a:=fun b hb e=>hj (rep.apart j i a (e▸hb) o)
   cases s with
   |val d fr=>exact Is.mono (km fr) (fun _ _ _ z=>z) k
   |own ds' fr'=>
    obtain⟨b,ws,rfl,h1,h2,h4⟩:=k
    exact⟨b,ws,rfl,by rw[aq (nj b ((h2 b).mpr rfl))];exact h1,h2,IsAll.mono (km fr') (fun _ _ _ z=>z) h4⟩
   |tre d=>
    refine Is.mono (fun b u q z=>?_) (fun _ _ _ z=>z) k
    rw[aq]
    ·exact q
    ·rcases z with z|z
     ·exact nj b z
     ·intro e;rw[e]at q;exact nfx u q z
   |mes d=>
    refine IsSh.mono (fun b u q z=>kp b u q (.inr z)) (fun b ws z q=>⟨ws,by rw[aq (nj b z)];exact q⟩) (fun _ z=>z) k
   |pin d=>
    refine⟨Is.mono (fun b u q z=>?_) (fun _ _ _ z=>z) k.1,k.2⟩
    rw[aq]
    ·exact q
    ·rcases z with z|z
     ·exact nj b z
     ·intro e;rw[e]at q;exact nfx u q z
   |dis d=>
    refine⟨Is.mono (fun b u q z=>?_) (fun _ _ _ z=>z) k.1,k.2.mono (fun b u z q=>by rw[aq (nj b z)];exact q) fun _ z=>z⟩
    rw[aq]
    ·exact q
    ·rcases z with z|z
     ·exact nj b z
     ·intro e;rw[e]at q;exact nfx u q z
   |kon a=>exact k
 ·obtain⟨b1,b2,b3⟩:=rep.priv j b h
  refine⟨b1,b2,?_⟩
  by_cases e:b=a
  ·exact⟨u',by rw[e,aL],hu⟩
  ·exact b3.same fun o z=>by rw[aq e];exact z
 ·unfold isOwn
  by_cases hj:j=i
  ·subst hj;rw[List.getElem?_set_self hi];exact hO
  ·rw[List.getElem?_set_ne (Ne.symm hj)];exact rep.ow j b h
theorem Rep.write {i:Nat}{a:Addr}{sl:Sl}{v:V}{vs':List V}(rep:Rep g M ρ env σ H)(o:ρ i a)(hi:i<env.length)(ev:σ[i]?=some (some v))(ok:SlOk g M (ρ i) (bf H a (.lst vs')) v sl)(hO:autoParam (sl.isO=true) autoR._auto_1) :
 Frz M H M (bf H a (.lst vs'))/\Rep g M ρ (env.set i (some sl)) σ (bf H a (.lst vs')):=rep.writeO (u':=.lst vs') True.intro o hi ev ok hO
end
section
variable {X:Cx}{E:XK}
noncomputable def bt:En->Res Fl:=fun env=>.ok (.nx env)
noncomputable def aE (f k:En->Res Fl):En->Res Fl:=fun env=>(f env).bind fun r=>match r with
 | .nx env'=>k env'
 |r=>.ok r
theorem av:mS X E [] bt:=⟨_,uX,fun g M ρ env σ H D rep p=>p σ M ρ H (Frz.refl _ _) rep⟩
theorem ai {st:Stmt}{f:En->Res Fl}(h:p_ X E st f):mS X E [st] f:=let ⟨t,a,b⟩:=h;⟨t,uY a,b⟩
theorem ag {st:Stmt}{aQ:List Stmt}{f k:En->Res Fl}(h1:p_ X E st f)(h2:mS X E aQ k):mS X E (st::aQ) (aE f k):=by
 obtain⟨t,a,b⟩:=h1
 obtain⟨u,c,d⟩:=h2
 refine⟨_,rB a c,fun g M ρ env σ H D rep p=>b g M ρ env σ H _ rep ?_⟩
 unfold aE at p
 cases q:f env with
 |stuck=>rw[q]at p;exact p
 |exc c=>rw[q]at p;exact p
 |ok r=>
  rw[q]at p
  cases r with
  |nx env'=>exact fun σ' M' ρ' H' e rep'=>d g M' ρ' env' σ' H' D rep' (PostS.frz e p)
  |bk env'=>exact p
  |ct env'=>exact p
  |rt r=>exact p
  |rm r env'=>exact p
noncomputable def dX (c:En->Res Bool)(a b:En->Res Fl):En->Res Fl:=fun env=>(c env).bind fun k=>if k then a env else b env
theorem aJ {c:Expr}{a b:List Stmt}{fc:En->Res Bool}{fa fb:En->Res Fl}{pos:Pos}(hc:rp X E c fc)(ha:mS X E a fa)(hb:mS X E b fb):p_ X E (.If c a b pos) (dX fc fa fb):=by
 obtain⟨tc,p1,s1⟩:=hc
 obtain⟨ta,p2,s2⟩:=ha
 obtain⟨tb,p3,s3⟩:=hb
 refine⟨_,AE p1 p2 p3,fun g M ρ env σ H D rep p=>s1.oneS rep p fun b M' H' e rep' p'=>?_⟩
 cases b with
 |true=>exact ly (s2 g M' ρ env σ H' D rep' p')
 |false=>exact mJ (s3 g M' ρ env σ H' D rep' p')
noncomputable def aX (f:En->Res R):En->Res Fl:=fun env=>(f env).bind fun r=>.ok (.rt r)
theorem ROk.ret {g:Gd}{M:Addr->Prop}{ρ:Pr}{env:En}{σ:St}{H H0:Hp}{v:V}{r:R}(rep:Rep g M ρ env σ H)(h0:Same g.H₀ H0)(h:ROk g M ρ H0 H v r)(hz:∀ a,¬ g.Z a):RetOk g H v r:=by
 have mu:∀ a,M a->g.H₀ a=none->Mu H a:=fun a h1 h2=>(rep.fl a h1 h2).elim id fun z=>(hz a z.1).elim
 have key:∀{fr:Bool}{a:Addr},msk g M fr a->nl g.H₀ H a\/(fr=false/\g.Ma a):=fun{fr a} z=>by
  cases fr with
  |true=>exact .inl ⟨z.2 rfl,mu a z.1 (z.2 rfl)⟩
  |false=>exact(rep.inn a z.1).imp (fun w=>⟨w,mu a z.1 w⟩) fun w=>⟨rfl,w⟩
 cases r with
 |val d fr al=>exact Is.weak (fun a z=>z.elim key fun⟨i,_,o⟩=>.inl (rep.priv i a o).2) h
 |new ds fr=>
  obtain⟨a,vs,rfl,h1,h2,h3,h4,h5⟩:=h
  exact⟨a,vs,rfl,h1,h0.free h3,IsAll.weak (fun b z=>⟨fun e=>h2 (e▸z.1),key z⟩) h5⟩
 |fre d=>
  obtain⟨T,ht,is⟩:=h
  exact Is.weak (fun a z=>let ⟨_,a2,a3,_⟩:=ht a z;⟨h0.free a2,a3⟩) is
theorem ROk.flatIs {g:Gd}{M:Addr->Prop}{ρ:Pr}{H H0:Hp}{v:V}{r:R}(h:ROk g M ρ H0 H v r)(hf:r.d.flat=true):Is H (fun _=>False) r.d v:=by
 cases r with
 |val d fr al=>exact Is.flat hf h
 |new ds fr=>simp[D.flat,R.d]at hf
 |fre d=>obtain⟨T,_,is⟩:=h;exact Is.flat hf is
theorem ar {e:Expr}{f:En->Res R}{pos:Pos}(h:PD X E e f):p_ X E (.Return (some e) pos) (aX f):=by
 obtain⟨t,p1,s1⟩:=h
 exact⟨_,xV p1,fun g M ρ env σ H D rep p=>s1.oneS rep p fun r v M' H' e rep' ro p'=>p' v M' H' (Frz.refl _ _) rep'.same (fun hz=>ro.ret rep' rep.same hz) fun hf=>ro.flatIs hf⟩
noncomputable def ca (i:Nat)(f:En->Res R):En->Res Fl:=fun env=>(f env).bind fun r=>if i<env.length then .ok (.nx (put env i r)) else .stuck
theorem oQ {mg:Str->Option Value}{i:Nat}{t:TE}{f:En->Res R}(s:Snd mg E t f):vt mg E (xY t (jc i)) (ca i f):=by
 intro g M ρ env σ H D rep p
 refine s.oneS rep p fun r v M' H' e rep' ro p'=>?_
 by_cases hi:i<env.length
 ·rw[if_pos hi]at p'
  obtain⟨M2,ρ2,e2,rep2⟩:=rep'.store rep.same hi ro
  exact p' _ M2 ρ2 H' e2 rep2
 ·rw[if_neg hi]at p';exact p'.elim
theorem aO {i:Nat}{x:Str}{e:Expr}{f:En->Res R}{pos pos':Pos}(hN:X.N.Nodup)(hi:X.N[i]?=some x)(hx:xM X.env.scope x)(h:PD X E e f)(hs:autoParam (swapsWith e (some (.Name x pos')) pos.line X.env=pure false) autoR._auto_1)
 (hf:autoParam (X.fn x=true\/X.env.scope.names.lookup x=some .local) autoF._auto_1):p_ X E (.Assign [.Name x pos'] e pos) (ca i f):=by
 obtain⟨t,p1,s1⟩:=h
 exact⟨_,rC hN hi hx p1 hs hf,oQ s1⟩
noncomputable def jB (env:En)(i:Nat):Option (List D×Bool):=match env[i]? with
 |some (some (.own ds fr))=>some (ds,fr)
 |some (some (.tre (.lst ds)))=>some (ds,true)
 |_=>none
mutual
noncomputable def D.sz:D->Nat
 | .tup ds=>D.szs ds+1
 | .lst ds=>D.szs ds+1
 | .dic _ ds=>D.szs ds+1
 |_=>0
noncomputable def D.szs:List D->Nat
 | []=>0
 |d::ds=>d.sz+D.szs ds+1
end
section
variable {H:Hp}{m m':Addr->Prop}
mutual
theorem Is.avoid {a:Addr}{e:D}(ha:Is H m' e (.ref a)):∀{d:D}{v:V},d.sz<e.sz->Is H m d v->Is H (fun b=>m b/\b≠a) d v
 | .non,_,_,h=>h
 | .bl _,_,_,h=>h
 | .int _,_,_,h=>h
 | .str _,_,_,h=>h
 | .tup ds,_,hs,h=>by
  obtain⟨b,vs,rfl,h1,h2⟩:=h
  simp only[D.sz]at hs
  exact⟨b,vs,rfl,h1,IsAll.avoid ha (by omega) h2⟩
 | .lst ds,_,hs,h=>by
  have h':=h
  obtain⟨b,vs,rfl,h1,h2⟩:=h
  have nb:b≠a:=fun z=>by
   subst z
   have q:=Is.inj h' ha
   rw[q]at hs;omega
  simp only[D.sz]at hs
  refine⟨b,vs,rfl,?_,IsAll.avoid ha (by omega) h2⟩
  rcases h1 with⟨h1,h3⟩|⟨o,h1,h3⟩
  ·exact .inl ⟨h1,h3,nb⟩
  ·exact .inr ⟨o,h1,h3,nb⟩
 | .dic ks ds,_,hs,h=>by
  have h':=h
  obtain⟨b,kvs,rfl,h1,h2⟩:=h
  have nb:b≠a:=fun z=>by
   subst z
   have q:=Is.inj h' ha
   rw[q]at hs;omega
  simp only[D.sz]at hs
  exact⟨b,kvs,rfl,⟨h1.1,h1.2,nb⟩,IsAll.avoid ha (by omega) h2⟩
theorem IsAll.avoid {a:Addr}{e:D}(ha:Is H m' e (.ref a)):∀{ds:List D}{vs:List V},D.szs ds<e.sz->IsAll H m ds vs->IsAll H (fun b=>m b/\b≠a) ds vs
 | [],_,_,h=>h
 |d::ds,_,hs,h=>by
  obtain⟨v,r,rfl,h1,h2⟩:=h
  simp only[D.szs]at hs
  exact⟨v,r,rfl,Is.avoid ha (by omega) h1,IsAll.avoid ha (by omega) h2⟩
end
end
theorem Rep.toOwn {g:Gd}{M:Addr->Prop}{ρ:Pr}{env:En}{σ:St}{H:Hp}{i:Nat}{ds:List D}{fr:Bool}(rep:Rep g M ρ env σ H)(e:jB env i=some (ds,fr)) :
 ∃(M':Addr->Prop)(ρ':Pr)(a:Addr)(vs:List V),(∀ b,M b->M' b)/\Rep g M' ρ' (env.set i (some (.own ds fr))) σ H/\σ[i]?=some (some (.ref a))/\H a=some (.lst vs)/\(∀ b,ρ' i b↔b=a)/\IsAll H (msk g M' fr) ds vs/\i<env.length/\(∀ j b,ρ' j b->ρ j b)/\(∀ j,j≠i->ρ' j=ρ j):=by
 unfold jB at e
 cases q:env[i]? with
 |none=>rw[q]at e;cases e
 |some o=>
  have hi:i<env.length:=(List.getElem?_eq_some_iff.mp q).1
  have hself:env.set i (env[i])=env:=List.set_getElem_self hi
  cases o with
  |none=>rw[q]at e;cases e
  |some sl=>
   obtain⟨v,ev,k⟩:=rep.slot i sl q
   rw[q]at e
   cases sl with
   |val d f=>cases e
   |mes d=>cases e
   |pin d=>cases e
   |dis d=>cases e
   |kon a=>cases e
   |own ds' f'=>
    cases e
    obtain⟨a,vs,rfl,h1,h2,h4⟩:=k
    have eq:env.set i (some (.own ds fr))=env:=by
     have:env[i]=some (.own ds fr):=by
      have:=(List.getElem?_eq_some_iff.mp q).2;exact this
     rw[<- this];exact hself
    rw[eq]
    exact⟨M,ρ,a,vs,fun _ z=>z,rep,ev,h1,h2,h4,hi,fun _ _ z=>z,fun _ _=>rfl⟩
   |tre d=>
    cases d with
    |lst ds'=>
     cases e
     have k':=k
     obtain⟨a,vs,rfl,h1,h2⟩:=k
     have pa:ρ i a:=by rcases h1 with⟨_,z⟩|⟨_,_,z⟩<;>exact z
     obtain⟨pm,p0,uo,pl,pmu⟩:=rep.priv i a pa
     have hl:H a=some (.lst vs):=by
      rcases h1 with⟨h1,_⟩|⟨o,h1,_⟩
      ·exact h1
      ·rw[h1]at pl;cases pl;exact pmu.elim
     have inner:IsAll H (fun b=>ρ i b/\b≠a) ds vs:=IsAll.avoid k' (by simp only[D.sz];omega) h2
     let M':Addr->Prop:=fun b=>M b\/(ρ i b/\b≠a)
     let ρ':Pr:=lF ρ i fun b=>b=a
     have rr:Rep g M' ρ' (env.set i (some (.own ds true))) (σ.set i (some (.ref a))) H:=by
      have r1:Rep g M' (fun j b=>if j=i then b=a else ρ j b) (env.set i (some (.own ds true))) σ H:=by
       refine⟨rep.same,fun b hb=>hb.elim (rep.froz b) fun z=>?_,fun b hb=>hb.elim (rep.inn b) fun z=>.inl (rep.priv i b z.1).2.1,fun b hb h0=>hb.elim (fun z=>rep.fl b z h0) fun z=>.inl (rep.priv i b z.1).2.2,fun j s ej=>?_,fun j b h=>?_,fun j k b w1 w2=>?_,fun j b h=>?_,by rw[List.length_set];exact rep.len,rep.zz⟩
       ·exact(rep.priv i b z.1).2.2.some
       ·by_cases hj:j=i
        ·subst hj
         rw[List.getElem?_set_self hi]at ej;cases ej
         exact⟨_,ev,a,vs,rfl,hl,fun b=>by simp,IsAll.weak (fun b z=>⟨.inr z,fun _=>(rep.priv j b z.1).2.1⟩) inner⟩
        ·rw[List.getElem?_set_ne (Ne.symm hj)]at ej
         obtain⟨v',ev',k2⟩:=rep.slot j s ej
         have eT:(fun b=>if j=i then b=a else ρ j b)=ρ j:=by funext b;rw[if_neg hj]
         exact⟨v',ev',by show SlOk g M' (fun b=>if j=i then b=a else ρ j b) H v' s;rw[eT];exact SlOk.weak (fun _=>.inl) k2⟩
       ·by_cases hj:j=i
        ·rw[if_pos hj]at h;subst h
         exact⟨fun z=>z.elim pm fun z=>z.2 rfl,p0,Mu.lst hl⟩
        ·rw[if_neg hj]at h
         exact⟨fun z=>z.elim (rep.priv j b h).1 fun z=>hj (rep.apart j i b h z.1),(rep.priv j b h).2⟩
       ·by_cases hj:j=i
        ·by_cases hk:k=i
         ·rw[hj,hk]
         ·rw[if_pos hj]at w1;rw[if_neg hk]at w2;subst w1
          exact absurd (rep.apart k i b w2 pa) hk
        ·by_cases hk:k=i
         ·rw[if_pos hk]at w2;rw[if_neg hj]at w1;subst w2
          exact absurd (rep.apart j i b w1 pa) hj
         ·rw[if_neg hj]at w1;rw[if_neg hk]at w2;exact rep.apart j k b w1 w2
       ·unfold isOwn
        by_cases hj:j=i
        ·subst hj;rw[List.getElem?_set_self hi];rfl
        ·rw[if_neg hj]at h
         rw[List.getElem?_set_ne (Ne.symm hj)];exact rep.ow j b h
      have hi2:i<σ.length:=by rw[<- rep.len];exact hi
      have es:σ.set i (some (.ref a))=σ:=by
       have:σ[i]=some (.ref a):=(List.getElem?_eq_some_iff.mp ev).2
       rw[<- this];exact List.set_getElem_self hi2
      rw[es];exact r1
     have hi2:i<σ.length:=by rw[<- rep.len];exact hi
     have es:σ.set i (some (.ref a))=σ:=by
      have:σ[i]=some (.ref a):=(List.getElem?_eq_some_iff.mp ev).2
      rw[<- this];exact List.set_getElem_self hi2
     rw[es]at rr
     refine⟨M',ρ',a,vs,fun _=>.inl,rr,ev,hl,fun b=>by show lF ρ i (fun b=>b=a) i b↔b=a;rw[df],IsAll.weak (fun b z=>⟨.inr z,fun _=>(rep.priv i b z.1).2.1⟩) inner,hi,fun j b z=>?_,fun j hj=>cA hj⟩
     by_cases hj:j=i
     ·subst hj
      have z:lF ρ j (fun b=>b=a) j b:=z
      rw[df]at z;rw[z];exact pa
     ·have z:lF ρ i (fun b=>b=a) j b:=z
      rw[cA hj]at z;exact z
    |_=>cases e
noncomputable def lI (i:Nat)(f:En->Res R):En->Res Fl:=fun env=>match jB env i with
 |some (ds,fr)=>(f env).bind fun r=>if ds.length<lim/\¬ i∈r.al then .ok (.nx ((frz env r.al).set i (some (.own (ds++[r.d]) (fr&&r.fr))))) else .stuck
 |none=>.stuck
theorem gB {i:Nat}{a e:Expr}{f:En->Res R}{apos cpos pos:Pos}(ha:PE X a (mF i))(h:PD X E e f)
 (hbase:autoParam (attributeBase a "append" X.env (eval a X.env)=eval a X.env) autoR._auto_1)
 (hfew:autoParam (((backTo cpos (starEach [e] X.env)).all (fun x=>!x.1)&&(backToKw cpos (keywordEach [] X.env)).all (fun x=>x.1.isSome)
   && decide (([e]:List Expr).length+([]:List Keyword).length+(if ([]:List Keyword).isEmpty then 0 else 1)<30))=true) autoR._auto_1)
 (hline:autoParam ((apos.endLine==cpos.line)=true) autoR._auto_1) (hs:autoParam (starEach [e] X.env=(false,eval e X.env)::starEach [] X.env) autoR._auto_1) (hplain:autoParam ((backTo cpos (starEach [] X.env)).any (·.1)=false) autoR._auto_1)
 (hsw:autoParam (swapsWith (.Call (.Attribute a "append" apos) [e] [] cpos) none pos.line X.env=pure false) autoR._auto_1) :
 p_ X E (.Expr (.Call (.Attribute a "append" apos) [e] [] cpos) pos) (lI i f):=by
 obtain⟨t,p1,s1⟩:=h
 refine⟨_,lu (oG PySem.F.plainAttrs_list PySem.F.slot_list_append PySem.F.type_list_append ig ha (cP p1 dR hs) hbase hfew hline hs hplain) hsw,fun g M ρ env σ H D rep p=>?_⟩
 unfold lI at p
 cases e1:jB env i with
 |none=>rw[e1]at p;exact p.elim
 |some o=>
  obtain⟨ds,fr⟩:=o
  rw[e1]at p
  dsimp only at p
  obtain⟨M0,ρ0,l,vs,m0,rep0,ev,k1,k2,k4,hi,_⟩:=rep.toOwn e1
  refine⟨_,ev,.inl ⟨rfl,vs,SqL.of k1⟩,s1.oneS rep p fun r y M' H' e rep' ro p'=>?_⟩
  by_cases hc:ds.length<lim/\¬ i∈r.al
  ·rw[if_pos hc]at p'
   obtain⟨M1,x1,x1m,rep1,is1⟩:=ro.is rep' e rep.same
   obtain⟨M2,ρ2,x2,rep2,o2,k5,k6⟩:=Rep.frz r.al rep1
   have is2:Is H' (msk g M2 r.fr) r.d y:=Is.frozen rep1 x2 o2 is1
   have e2:jB (frz env r.al) i=some (ds,fr):=by
    unfold jB
    rw[sA _ hc.2]
    exact e1
   obtain⟨M3,ρ3,l3,vs3,m3,rep3,ev3,j1,j2,j4,hi3,_⟩:=rep2.toOwn e2
   rw[ev]at ev3;cases ev3
   have hl:H' l=some (.lst vs):=e.h _ _ k1
   rw[hl]at j1;cases j1
   have pl:ρ3 i l:=(j2 l).mpr rfl
   obtain⟨nl3,_⟩:=rep3.priv i l pl
   have is4:IsAll H' (msk g M3 (fr&&r.fr)) (ds++[r.d]) (vs++[y]):=by
    refine IsAll.snoc (IsAll.weak (fun b z=>⟨z.1,fun q=>z.2 (by cases fr<;>simp_all)⟩) j4) (Is.weak (fun b z=>⟨m3 b z.1,fun q=>z.2 (by cases fr<;>simp_all)⟩) is2)
   have kp:∀ b u,H' b=some u->(msk g M3 (fr&&r.fr) b\/fixd u)->bf H' l (.lst (vs++[y])) b=some u:=fun b u q z=>by
    rw[aq]
    ·exact q
    ·rintro rfl
     rcases z with z|z
     ·exact nl3 z.1
     ·rw[hl]at q;cases q;exact z
   obtain⟨f1,rep4⟩:=rep3.write (sl:=.own (ds++[r.d]) (fr&&r.fr)) (vs':=vs++[y]) pl (by rw[List.length_set];exact hi3) ev ⟨l,vs++[y],rfl,aL,j2,IsAll.mono kp (fun _ _ _ z=>z) is4⟩
   rw[List.set_set]at rep4
   refine⟨l,vs,y,rfl,rfl,hl,by rw[k4.length];exact lC hc.1,?_⟩
   exact p' σ M3 ρ3 _ (Frz.trans ⟨fun a z=>m3 a (x2 a (x1m a z)),fun _ _ q _=>q⟩ f1) rep4
  ·rw[if_neg hc]at p';exact p'.elim
end
end L3
namespace L3
open PySem PySem.Spec PyProof.Rows L2
noncomputable def yA (ix:List Nat)(t:TG)(asg:D->Bool->En->Option En):Prop:=∀(g:Gd)(M:Addr->Prop)(ρ:Pr)(env env':En)(σ:St)(H:Hp)(d:D)(fr:Bool)(v:V)(Q:St->Hp->Prop),
 Rep g M ρ env σ H->Is H (msk g M fr) d v->asg d fr env=some env'->(∀(σ':St)(ρ':Pr),Rep g M ρ' env' σ' H->(∀ j,¬ j∈ix->σ'[j]?=σ[j]?)->(∀ j a,ρ' j a->ρ j a)->Q σ' H)->t v σ H Q
noncomputable def A7 (ix:List Nat)(t:wU)(asg:List D->Bool->En->Option En):Prop:=∀(g:Gd)(M:Addr->Prop)(ρ:Pr)(env env':En)(σ:St)(H:Hp)(ds:List D)(fr:Bool)(vs:List V)(Q:St->Hp->Prop),
 Rep g M ρ env σ H->IsAll H (msk g M fr) ds vs->asg ds fr env=some env'->(∀(σ':St)(ρ':Pr),Rep g M ρ' env' σ' H->(∀ j,¬ j∈ix->σ'[j]?=σ[j]?)->(∀ j a,ρ' j a->ρ j a)->Q σ' H)->t vs σ H Q
noncomputable def xb (X:Cx)(ix:List Nat)(tg:Expr)(asg:D->Bool->En->Option En):Prop:=∃ t,PG X tg t/\yA ix t asg
noncomputable def vv (X:Cx)(ix:List Nat)(ts:List Expr)(asg:List D->Bool->En->Option En):Prop:=∃ t,xW X ts t/\A7 ix t asg
section
variable {X:Cx}{E:XK}
noncomputable def gN (i:Nat):D->Bool->En->Option En:=fun d fr env=>if i<env.length then some (env.set i (some (.val d fr))) else none
theorem qf {i:Nat}:yA [i] (jc i) (gN i):=by
 intro g M ρ env env' σ H d fr v Q rep is e k
 unfold gN at e
 by_cases hi:i<env.length
 ·rw[if_pos hi]at e
  cases e
  exact k _ _ (rep.put (sl:=.val d fr) (T:=fun _=>False) hi is (fun _ z=>z.elim) fun _ z=>z.elim) (fun j hj=>List.getElem?_set_ne fun e=>hj (by simp[e])) fun j a z=>by
   by_cases hj:j=i
   ·subst hj;rw[df]at z;exact z.elim
   ·rw[cA hj]at z;exact z
 ·rw[if_neg hi]at e;cases e
theorem aw {i:Nat}{x:Str}{pos:Pos}(hN:X.N.Nodup)(hi:X.N[i]?=some x)(hx:xM X.env.scope x)(hf:autoParam (X.fn x=true\/X.env.scope.names.lookup x=some .local) autoF._auto_1):xb X [i] (.Name x pos) (gN i):=
 ⟨_,oC hN hi hx hf,qf⟩
noncomputable def bj:List D->Bool->En->Option En:=fun ds _ env=>match ds with
 | []=>some env
 |_=>none
noncomputable def ay (f:D->Bool->En->Option En)(fs:List D->Bool->En->Option En):List D->Bool->En->Option En:=fun ds fr env=>match ds with
 |d::r=>(f d fr env).bind fun env'=>fs r fr env'
 | []=>none
theorem bF:vv X [] [] bj:=⟨_,uZ,fun g M ρ env env' σ H ds fr vs Q rep is e k=>by
 cases ds with
 |nil=>cases e;cases is;exact⟨rfl,k σ ρ rep (fun _ _=>rfl) fun _ _ z=>z⟩
 |cons d ds=>cases e⟩
theorem aH {e:Expr}{es:List Expr}{f:D->Bool->En->Option En}{fs:List D->Bool->En->Option En}{ix jx:List Nat}(h1:xb X ix e f)(h2:vv X jx es fs)
 (hs:∀ t,PG X e t->∀ u,xW X es u->xW X (e::es) (wV t u)):vv X (ix++jx) (e::es) (ay f fs):=by
 obtain⟨t,p1,s1⟩:=h1
 obtain⟨u,p2,s2⟩:=h2
 refine⟨_,hs t p1 u p2,fun g M ρ env env' σ H ds fr vs Q rep is e k=>?_⟩
 cases ds with
 |nil=>cases e
 |cons d ds=>
  obtain⟨v,r,rfl,i1,i2⟩:=is
  unfold ay at e
  dsimp only at e
  cases q:f d fr env with
  |none=>rw[q]at e;cases e
  |some dz=>
   rw[q]at e
   refine⟨v,r,rfl,s1 g M ρ env dz σ H d fr v _ rep i1 q fun σ1 ρ1 rep1 c1 d1=>?_⟩
   exact s2 g M ρ1 dz env' σ1 H ds fr r Q rep1 i2 e fun σ2 ρ2 rep2 c2 d2=>k σ2 ρ2 rep2 (fun j hj=>(c2 j fun z=>hj (by simp[z])).trans (c1 j fun z=>hj (by simp[z]))) fun j a z=>d1 j a (d2 j a z)
noncomputable def gT (n:Nat)(fs:List D->Bool->En->Option En):D->Bool->En->Option En:=fun d fr env=>match d with
 | .tup ds=>if ds.length=n then fs ds fr env else none
 |_=>none
theorem ci {ix:List Nat}{es:List Expr}{k:Nat}{pos:Pos}{n:Nat}{fs:List D->Bool->En->Option En}(hc:X.calm=true)(h:vv X ix es fs)(hn:autoParam ((assignEach es X.env).length=n) autoR._auto_1)(hst:autoParam ((assignEach es X.env).findIdx? (·.1)=none) autoR._auto_1):xb X ix (.Tuple es k pos) (gT n fs):=by
 obtain⟨t,p1,s1⟩:=h
 refine⟨_,xX hc p1 hn hst,fun g M ρ env env' σ H d fr v Q rep is e kk=>?_⟩
 unfold gT at e
 cases d with
 |tup ds=>
  obtain⟨a,vs,rfl,h1,h2⟩:=is
  dsimp only at e
  by_cases hl:ds.length=n
  ·rw[if_pos hl]at e
   exact⟨a,vs,rfl,SqT.of h1,h2.length.trans hl,s1 g M ρ env env' σ H ds fr vs Q rep h2 e kk⟩
  ·rw[if_neg hl]at e;cases e
 |_=>cases e
end
structure Src where
 xs:List D
 fr:Bool
 al:List Nat
structure Walk (J:It) (m:Addr->Prop) (H:Hp) (xs:List D):Prop where
 go:∀ H' i d,(∀ a o,H a=some o->(m a\/fixd o)->H' a=some o)->xs[i]?=some d->J.go i H'/\∀ x H'',J.yld i H' x H''->Same H' H''/\Is H'' m d x
 stop:∀ H',(∀ a o,H a=some o->(m a\/fixd o)->H' a=some o)->J.stop xs.length H'
theorem Walk.weak {J:It}{m m':Addr->Prop}{H:Hp}{xs:List D}(w:Walk J m H xs)(h:∀ a,m a->m' a):Walk J m' H xs:=
 ⟨fun H' i d k e=>let ⟨a,b⟩:=w.go H' i d (fun a o q z=>k a o q (z.imp (h a) id)) e;⟨a,fun x H'' y=>let ⟨c,d⟩:=b x H'' y;⟨c,d.weak h⟩⟩,fun H' k=>w.stop H' fun a o q z=>k a o q (z.imp (h a) id)⟩
noncomputable def PostI (mg:Str->Option Value)(E:XK)(g:Gd)(M:Addr->Prop)(ρ:Pr)(env:En)(σ:St)(H:Hp)(R:It->Hp->Prop):Res Src->Prop
 | .stuck=>False
 | .exc c=>vp mg E g c
 | .ok s=>∀ J M' H',Ext M H M' H'->Rep g M' ρ env σ H'->Walk J (vmsk g M' s.fr ρ s.al) H' s.xs->R J H'
noncomputable def A8 (mg:Str->Option Value)(E:XK)(wi:TI)(f:En->Res Src):Prop:=∀ g M ρ env σ H R,Rep g M ρ env σ H->PostI mg E g M ρ env σ H R (f env)->wi σ H R
noncomputable def vw (X:Cx)(E:XK)(tg iter:Expr)(f:En->Res Src):Prop:=∃ wi,PI X tg iter wi/\A8 X.mg E wi f
section
variable {X:Cx}{E:XK}{tg:Expr}
noncomputable def C5 (K:PySem.W.Frag)(tl:TE):TI:=fun σ H R=>tl σ H fun x H1=>∃ a,x=.ref a/\(((∃ xs,SqL K H1 a xs)/\R (CL K a) H1)\/((∃ xs,SqT K H1 a xs)/\R (CM K a) H1))
theorem yB {l:Expr}{tl:TE}(hl:PE X l tl):PI X tg l (C5 X.K tl):=by
 intro pins s σ H R I h
 refine b7 (hl pins s σ H _ I h) fun v s1 ⟨x,H1,I1,r1,q1⟩=>?_
 obtain⟨a,e,q⟩:=q1
 subst e
 cases r1
 rcases q with⟨⟨xs,hq⟩,q⟩|⟨⟨xs,hq⟩,q⟩
 ·obtain⟨its,rv,p,hz⟩:=I1.list hq
  refine wpAny_pyIter_list p.isList ?_
  refine⟨s1.heap.objs.size,[s1.heap.objs.size],_,_,H1,rfl,I1.kept (t':=s1.toks) fun b o e=>Heap.get?_push_of_some _ e,pK a _,⟨_,Heap.get?_push_size _ rfl,rfl,rfl⟩,fun b hb=>?_,q⟩
  have e:b=s1.heap.objs.size:=by simpa using hb
  subst e
  exact I1.fpOk (Nat.le_refl _) (I1.hok.fresh (Nat.le_refl _))
 ·obtain⟨its,rv,p,hz⟩:=I1.tuple hq
  refine wpAny_pyIter_tuple (show s1.heap.IsTuple a its.toArray from p) ?_
  refine⟨s1.heap.objs.size,[s1.heap.objs.size],_,_,H1,rfl,I1.kept (t':=s1.toks) fun b o e=>Heap.get?_push_of_some _ e,nK a _,⟨_,Heap.get?_push_size _ rfl,rfl,rfl⟩,fun b hb=>?_,q⟩
  have e:b=s1.heap.objs.size:=by simpa using hb
  subst e
  exact I1.fpOk (Nat.le_refl _) (I1.hok.fresh (Nat.le_refl _))
theorem qg {K:PySem.W.Frag}{a:Addr}{m:Addr->Prop}{H:Hp}{ds:List D}{vs:List V}(h:(H a=some (.lst vs)/\m a)\/∃ o,H a=some (.frz o (.lst vs))/\m a)(is:IsAll H m ds vs):Walk (CL K a) m H ds:=by
 have st:∀ H',(∀ a o,H a=some o->(m a\/fixd o)->H' a=some o)->SqL K H' a vs:=fun H' k=>by
  rcases h with⟨h,hm⟩|⟨o,h,_⟩
  ·exact .inl (.inl (k a _ h (.inl hm)))
  ·exact .inl (.inr ⟨o,k a _ h (.inr True.intro)⟩)
 refine⟨fun H' i d k e=>?_,fun H' k=>⟨vs,st H' k,by rw[is.length];exact Nat.le_refl _⟩⟩
 obtain⟨v,ev,iv⟩:=(is.mono k fun _ _ _ z=>z:IsAll H' m ds vs).get e
 refine⟨⟨vs,v,st H' k,ev⟩,fun x H'' y=>?_⟩
 obtain⟨rfl,y⟩:=y
 have:=y vs (st _ k)
 rw[ev]at this;cases this
 exact⟨Same.refl _,iv⟩
theorem sB {K:PySem.W.Frag}{a:Addr}{m:Addr->Prop}{H:Hp}{ds:List D}{vs:List V}(h:H a=some (.tup vs))(is:IsAll H m ds vs):Walk (CM K a) m H ds:=by
 have st:∀ H',(∀ a o,H a=some o->(m a\/fixd o)->H' a=some o)->SqT K H' a vs:=fun H' k=>SqT.of (k a _ h (.inr True.intro))
 refine⟨fun H' i d k e=>?_,fun H' k=>⟨vs,st H' k,by rw[is.length];exact Nat.le_refl _⟩⟩
 obtain⟨v,ev,iv⟩:=(is.mono k fun _ _ _ z=>z:IsAll H' m ds vs).get e
 refine⟨⟨vs,v,st H' k,ev⟩,fun x H'' y=>?_⟩
 obtain⟨rfl,y⟩:=y
 have:=y vs (st _ k)
 rw[ev]at this;cases this
 exact⟨Same.refl _,iv⟩
noncomputable def fg (lo:Int)(n:Nat):List D:=(List.range n).map fun k=>.int (lo+(k:Nat))
theorem n6 {m:Addr->Prop}{H:Hp}(lo:Int)(n:Nat):Walk (Cl lo n) m H (fg lo n):=by
 refine⟨fun H' i d k e=>?_,fun H' k=>by show n<=(fg lo n).length;simp[fg]⟩
 have hi:i<n:=by have:=(List.getElem?_eq_some_iff.mp e).1;simpa[fg] using this
 refine⟨hi,fun x H'' y=>?_⟩
 obtain⟨rfl,rfl⟩:=y
 refine⟨Same.refl _,?_⟩
 have:(fg lo n)[i]?=some (.int (lo+(i:Nat))):=by simp[fg,hi]
 rw[this]at e;cases e
 rfl
noncomputable def fj (f:En->Res R):En->Res Src:=fun env=>(f env).bind fun r=>match r.d with
 | .lst ds=>.ok ⟨ds,r.fr,r.al⟩
 | .tup ds=>.ok ⟨ds,r.fr,r.al⟩
 |_=>.stuck
theorem bK {l:Expr}{f:En->Res R}(h:PD X E l f):vw X E tg l (fj f):=by
 obtain⟨t,p1,s1⟩:=h
 refine⟨_,yB p1,fun g M ρ env σ H R rep p=>?_⟩
 refine s1.one rep (P:=fun M H r=>PostI X.mg E g M ρ env σ H R r) p (fun _ _ z=>z) (fun _ _ _ z=>z) (fun M H M' H' r e p=>?_) fun r v M1 H1 e1 rep1 is q=>?_
 ·cases r with
  |stuck=>exact p
  |exc c=>exact p
  |ok s=>exact fun J M2 H2 e2=>p J M2 H2 (e.trans e2)
 ·cases z:r.d with
  |lst ds=>
   rw[z]at is
   simp only[z]at q
   obtain⟨a,vs,rfl,h1,h2⟩:=is
   exact⟨a,rfl,.inl ⟨⟨vs,.inl (h1.imp (·.1) fun⟨o,z,_⟩=>⟨o,z⟩)⟩,q _ M1 H1 (Ext.refl _ _) rep1 (qg h1 h2)⟩⟩
  |tup ds=>
   rw[z]at is
   simp only[z]at q
   obtain⟨a,vs,rfl,h1,h2⟩:=is
   exact⟨a,rfl,.inr ⟨⟨vs,SqT.of h1⟩,q _ M1 H1 (Ext.refl _ _) rep1 (sB h1 h2)⟩⟩
  |_=>simp only[z]at q;exact q.elim
noncomputable def cR (i:Int):Bool:=decide (-(2 ^ 62)<=i)&&decide (i<2 ^ 62)
noncomputable def Av (fs:En->Res (List R)):En->Res Src:=fun env=>(fs env).bind fun rs=>match rs.map R.d with
 | [.int j]=>if cR j then .ok ⟨fg 0 j.toNat,true,[]⟩ else .stuck
 |_=>.stuck
theorem PostI.ext {mg:Str->Option Value}{g:Gd}{M M':Addr->Prop}{ρ:Pr}{env:En}{σ:St}{H H':Hp}{R:It->Hp->Prop}{r:Res Src}(e:Ext M H M' H')(p:PostI mg E g M ρ env σ H R r):PostI mg E g M' ρ env σ H' R r:=by
 cases r with
 |stuck=>exact p
 |exc c=>exact p
 |ok s=>exact fun J M2 H2 e2=>p J M2 H2 (e.trans e2)
theorem dY {a:Expr} {fs:En->Res (List R)} {p pos:Pos} (hg:Gl X "range") (hm:X.mg "range"=none) (ha:rn X E [a] fs) (hs:autoParam (starEach [a] X.env=[(false,eval a X.env)]) autoR._auto_1):vw X E tg (.Call (.Name "range" p) [a] [] pos) (Av fs):=by
 obtain⟨t,p1,s1⟩:=ha
 refine⟨_,pL hg hm p1 hs,fun g M ρ env σ H Rq rep p=>s1.one rep (P:=fun M H r=>PostI X.mg E g M ρ env σ H Rq r) p (fun _ _ z=>z) (fun _ _ _ z=>z) (fun _ _ _ _ _ e p=>p.ext e) fun rs vs M1 H1 e1 rep1 is q=>?_⟩
 generalize hd:rs.map R.d=ds at is q
 match ds,is,q with
 | [.int j],is,q=>
  obtain⟨v,w,rfl,i1,i2⟩:=is
  cases i1;cases i2
  dsimp only at q
  by_cases hc:cR j=true
  ·rw[if_pos hc]at q
   simp only[cR,Bool.and_eq_true,decide_eq_true_eq]at hc
   exact⟨j,rfl,hc.1,hc.2,q _ M1 H1 (Ext.refl _ _) rep1 (n6 0 j.toNat)⟩
  ·rw[if_neg hc]at q;exact q.elim
 | [],_,q=>exact q.elim
 | [.non],_,q=>exact q.elim
 | [.bl _],_,q=>exact q.elim
 | [.str _],_,q=>exact q.elim
 | [.tup _],_,q=>exact q.elim
 | [.lst _],_,q=>exact q.elim
 | [.dic _ _],_,q=>exact q.elim
 | .int _::_::_,_,q=>exact q.elim
 | .non::_::_,_,q=>exact q.elim
 | .bl _::_::_,_,q=>exact q.elim
 | .str _::_::_,_,q=>exact q.elim
 | .tup _::_::_,_,q=>exact q.elim
 | .lst _::_::_,_,q=>exact q.elim
 | .dic _ _::_::_,_,q=>exact q.elim
noncomputable def cr (asg:D->Bool->En->Option En)(fr:Bool)(body:En->Res Fl):List D->En->Res Fl
 | [],env=>.ok (.nx env)
 |x::xs,env=>match asg x fr env with
  |none=>.stuck
  |some dz=>(body dz).bind fun r=>match r with
   | .nx env'=>cr asg fr body xs env'
   | .ct env'=>cr asg fr body xs env'
   | .bk env'=>.ok (.nx env')
   | .rt r=>.ok (.rt r)
   | .rm r e=>.ok (.rm r e)
noncomputable def gC (src:En->Res Src)(asg:D->Bool->En->Option En)(body:En->Res Fl):En->Res Fl:=fun env=>(src env).bind fun s=>cr asg s.fr body s.xs (frz env s.al)
noncomputable def A9 (J:It)(u:TG)(tb:TS)(D:Ends)(σ:St)(H1:Hp):Prop:=∃ W:Nat->Nat->St->Hp->Prop,(∃ m,W 0 m σ H1)/\∀ i m σ H,W i m σ H->(J.stop i H/\D.nx σ H)\/(J.go i H/\∃ N:St->Hp->Prop,(∀ σ' H',N σ' H'->∃ m',m'<m/\W (i+1) m' σ' H')/\∀ x H',J.yld i H x H'->u x σ H' fun σ2 H2=>tb { D with nx:=N,ct:=N,bk:=D.nx } σ2 H2)
theorem sC {J:It}{u:TG}{tb:TS}{ix:List Nat}{asg:D->Bool->En->Option En}{fb:En->Res Fl}{fr:Bool}{xs:List D}{g:Gd}{M2:Addr->Prop}{ρ2:Pr}{env2:En}{σ:St}{H1:Hp}{D:Ends}(s2:yA ix u asg)(s3:vt X.mg E tb fb)(rep2:Rep g M2 ρ2 env2 σ H1)(wk2:Walk J (msk g M2 fr) H1 xs)(p2':PostS X.mg E g M2 H1 D (cr asg fr fb xs env2)):A9 J u tb D σ H1:=by
 refine⟨fun i m σ' H'=>m=xs.length-i/\i<=xs.length/\∃ M' ρ' env',Rep g M' ρ' env' σ' H'/\Frz M2 H1 M' H'/\PostS X.mg E g M' H' D (cr asg fr fb (xs.drop i) env'),⟨_,rfl,Nat.zero_le _,M2,ρ2,_,rep2,Frz.refl _ _,p2'⟩,?_⟩
 rintro i m σ' H' ⟨rfl,hle,M',ρ',env',rep',f',p'⟩
 have kp:∀ a o,H1 a=some o->(msk g M2 fr a\/fixd o)->H' a=some o:=fun a o e z=>f'.h a o e (z.imp (·.1) id)
 by_cases hlt:i<xs.length
 ·have ed:xs[i]?=some xs[i]:=by simp[hlt]
  obtain⟨go,yl⟩:=wk2.go H' i _ kp ed
  have edrop:xs.drop i=xs[i]::xs.drop (i+1):=List.drop_eq_getElem_cons hlt
  rw[edrop]at p'
  unfold cr at p'
  refine .inr ⟨go,fun σ'' H''=>∃ M'' ρ'' env'',Rep g M'' ρ'' env'' σ'' H''/\Frz M2 H1 M'' H''/\PostS X.mg E g M'' H'' D (cr asg fr fb (xs.drop (i+1)) env''),fun σ'' H'' z=>⟨xs.length-(i+1),by omega,rfl,hlt,z⟩,fun x H'' y=>?_⟩
  obtain⟨sm,is⟩:=yl x H'' y
  have rep'':=rep'.grow sm
  have fx:Frz M' H' M' H'':=⟨fun _ z=>z,fun a o e _=>sm a o e⟩
  have is':Is H'' (msk g M' fr) xs[i] x:=is.weak fun a z=>msk.mono f'.m z
  cases qa:asg xs[i] fr env' with
  |none=>simp only[qa]at p';exact p'.elim
  |some dz=>
   simp only[qa]at p'
   refine s2 g M' ρ' env' dz σ' H'' _ fr x _ rep'' is' qa fun σ1 ρ1 rep1' _ _=>?_
   refine s3 g M' ρ1 dz σ1 H'' _ rep1' ?_
   have p'':=PostS.frz fx p'
   cases qb:fb dz with
   |stuck=>rw[qb]at p'';exact p''
   |exc c=>rw[qb]at p'';exact p''
   |ok r=>
    rw[qb]at p''
    cases r with
    |nx e3=>exact fun σ3 M3 ρ3 H3 f3 rep3=>⟨M3,ρ3,e3,rep3,(f'.trans fx).trans f3,PostS.frz f3 p''⟩
    |ct e3=>exact fun σ3 M3 ρ3 H3 f3 rep3=>⟨M3,ρ3,e3,rep3,(f'.trans fx).trans f3,PostS.frz f3 p''⟩
    |bk e3=>exact p''
    |rt r=>exact p''
    |rm r e3=>exact p''
 ·have e:i=xs.length:=by omega
  subst e
  rw[List.drop_length]at p'
  exact .inl ⟨wk2.stop H' kp,p' σ' M' ρ' H' (Frz.refl _ _) rep'⟩
theorem cj {ix:List Nat}{iter:Expr}{body:List Stmt}{src:En->Res Src}{asg:D->Bool->En->Option En}{fb:En->Res Fl}{pos:Pos}(hp:PassesOwn (model X.prog X.w) X.A X.env X.xe)(hc:X.calm=true)
 (hi:vw X E tg iter src) (hg:xb X ix tg asg) (hb:mS X E body fb) (hs:autoParam (∀ x,foldedSetIterable iter X.env x=pure x) autoI._auto_1):p_ X E (.For tg iter body [] pos) (gC src asg fb):=by
 obtain⟨wi,p1,s1⟩:=hi
 obtain⟨u,p2,s2⟩:=hg
 obtain⟨tb,p3,s3⟩:=hb
 refine⟨_,xZ hp hc p1 p2 p3 hs,fun g M ρ env σ H D rep p=>?_⟩
 refine s1 g M ρ env σ H _ rep ?_
 unfold gC at p
 cases q:src env with
 |stuck=>rw[q]at p;exact p
 |exc c=>rw[q]at p;exact p
 |ok s=>
  rw[q]at p
  intro J M1 H1 e1 rep1 wk
  obtain⟨M2,ρ2,x2,rep2,o2,_,_⟩:=Rep.frz s.al rep1
  have wk2:Walk J (msk g M2 s.fr) H1 s.xs:=wk.weak fun a z=>z.elim (msk.mono x2) fun⟨i,hi,o⟩=>⟨o2 i hi a o,fun _=>(rep1.priv i a o).2.1⟩
  have p2':PostS X.mg E g M2 H1 D (cr asg s.fr fb s.xs (frz env s.al)):=PostS.frz (e1.frz.trans ⟨x2,fun _ _ q _=>q⟩) p
  exact sC s2 s3 rep2 wk2 p2'
end
end L3
namespace L3
open PySem PySem.Spec PyProof.Rows L2
theorem dZ {env:Env}:∀(names:List (Str×NameKind))(cs:List (Str×Addr)),(∀ x∈names,x.2=.free->∃ c,env.cells.lookup x.1=some c)->(∀ y c,cs.lookup y=some c->env.cells.lookup y=some c)->
 ∃ cl,(forIn names cs fun(x:Str×NameKind)(r:List (Str×Addr))=>(do
  if (x.2==.free)=true then
   let c <- cellOf env x.1
   pure (ForInStep.yield ((x.1,c)::r))
  else pure (ForInStep.yield r):Sem (ForInStep (List (Str×Addr)))))=pure cl/\(∀ y c,cl.lookup y=some c->env.cells.lookup y=some c)/\(∀ x∈names,x.2=.free->∃ c,cl.lookup x.1=some c)/\(∀ y c,cs.lookup y=some c->∃ c',cl.lookup y=some c')
 | [],cs,_,h=>⟨cs,by simp,h,fun _ z=>absurd z (by simp),fun y c e=>⟨c,e⟩⟩
 |(n,k)::r,cs,hf,h=>by
  by_cases hk:k=.free
  ·subst hk
   obtain⟨c,hc⟩:=hf (n,.free) (by simp) rfl
   have hco:cellOf env n=pure c:=by simp[cellOf,hc]
   have h':∀ y c',((n,c)::cs).lookup y=some c'->env.cells.lookup y=some c':=fun y c' e=>by
    rw[List.lookup_cons]at e
    cases hy:y==n with
    |true=>rw[hy]at e;cases e;rw[eq_of_beq hy];exact hc
    |false=>rw[hy]at e;exact h y c' e
   obtain⟨cl,e1,e2,e3,e4⟩:=dZ r ((n,c)::cs) (fun x hx=>hf x (by simp[hx])) h'
   have self:∃ c',cl.lookup n=some c':=e4 n c (by simp[List.lookup_cons])
   refine⟨cl,?_,e2,fun x hx hxf=>?_,fun y c' e=>?_⟩
   ·rw[List.forIn_cons]
    simp only[beq_self_eq_true,if_true,hco,pure_bind]
    exact e1
   ·rcases List.mem_cons.mp hx with rfl|hx
    ·exact self
    ·exact e3 x hx hxf
   ·by_cases hy:y=n
    ·rw[hy];exact self
    ·refine e4 y c' ?_
     have hb:(y==n)=false:=by simpa using hy
     rw[List.lookup_cons,hb]
     exact e
  ·obtain⟨cl,e1,e2,e3,e4⟩:=dZ r cs (fun x hx=>hf x (by simp[hx])) h
   refine⟨cl,?_,e2,fun x hx hxf=>?_,e4⟩
   ·rw[List.forIn_cons]
    have hkb:(k==NameKind.free)=false:=by simpa using hk
    simp only[hkb,Bool.false_eq_true,if_false,pure_bind]
    exact e1
   ·rcases List.mem_cons.mp hx with rfl|hx
    ·exact absurd hxf hk
    ·exact e3 x hx hxf
theorem kg {scope:Scope}{env:Env}(h:∀ x∈scope.names,x.2=.free->∃ c,env.cells.lookup x.1=some c) :
 ∃ cl,closureFor scope env=pure cl/\(∀ y c,cl.lookup y=some c->env.cells.lookup y=some c)/\(∀ x∈scope.names,x.2=.free->∃ c,cl.lookup x.1=some c):=by
 obtain⟨cl,e1,e2,e3,_⟩:=dZ scope.names [] h (fun _ _ e=>by simp at e)
 refine⟨cl,?_,e2,e3⟩
 unfold closureFor
 refine Eq.trans ?_ (show((pure cl:Sem (List (Str×Addr))) >>= fun cs=>pure cs)=pure cl by simp)
 rw[<- e1]
 all_goals first
  |rfl
  |(congr 1;congr 1;funext x r;obtain⟨n,k⟩:=x;first|rfl|(dsimp only;split<;>simp_all))
theorem iH {f:Str->NameKind->NameKind}:∀(names:List (Str×NameKind))(y:Str),(names.map fun x=>(x.1,f x.1 x.2)).lookup y=(names.lookup y).map (f y)
 | [],y=>rfl
 |(n,k)::r,y=>by
  rw[List.map_cons,List.lookup_cons,List.lookup_cons]
  cases h:y==n with
  |true=>rw[eq_of_beq h];rfl
  |false=>exact iH r y
theorem fk (scope:Scope)(env:Env)(y:Str):(relabel scope env).names.lookup y=(scope.names.lookup y).map fun k=>if (k==.free&&env.scope.kind==.function&&env.kindOf y==some .cell)=true then .cell else k:=by
 have e:(relabel scope env).names=scope.names.map fun x=>(x.1,(fun n k=>if (k==NameKind.free&&env.scope.kind==.function&&env.kindOf n==some .cell)=true then NameKind.cell else k) x.1 x.2):=by
  unfold relabel
  refine List.map_congr_left fun x _=>?_
  obtain⟨n,k⟩:=x
  dsimp only
  split<;>rfl
 rw[e]
 exact iH (f:=fun n k=>if (k==NameKind.free&&env.scope.kind==.function&&env.kindOf n==some .cell)=true then NameKind.cell else k) scope.names y
theorem lJ {scope:Scope}{env:Env}{y:Str}(h:scope.names.lookup y=some .free):(relabel scope env).names.lookup y=some .cell\/(relabel scope env).names.lookup y=some .free:=by
 rw[fk,h]
 simp only[Option.map_some]
 split
 ·exact .inl rfl
 ·exact .inr rfl
noncomputable def bG (X:Cx)(scope:Scope)(N:List Str)(cl:List (Str×Addr))(C:Addr)(s:Shared)(H:Hp)(ex:List Addr):Cx:=
 { X with N:=N,s₀:=s,H₀:=H,env:=compEnvC scope cl C X.env,outer:=X.stack,ex:=ex,fn:=fun _=>false,pn:=[],xe:=fun _ _=>False }
section
variable {X:Cx}{pins:List (Addr×Obj)}{σ:St}{H:Hp}{s:Shared}{scope:Scope}{N:List Str}{cl:List (Str×Addr)}{C:Addr}{ex:List Addr}
theorem vx (I:L2.Inv X pins σ H s)(hkind:scope.kind=.function)(hcell:∀ y∈scope.names,y.2≠.cell)(hcl:∀ y c,cl.lookup y=some c->X.env.cells.lookup y=some c)(hhas:∀ x∈scope.names,x.2=.free->∃ c,cl.lookup x.1=some c)
 (hC:s.heap.objs.size<=C) (hex:∀ b∈ex,FpOk X pins H b/\b<s.heap.objs.size):(bG X scope N cl C s H ex).Ok where
 mod:=I.ok.mod
 kind:=hkind
 glob:=I.ok.glob
 blt:=I.ok.blt
 above:=hC
 inj:=fun x y c h1 h2=>I.ok.inj x y c (hcl x c h1) (hcl y c h2)
 has:=fun y hy=>by
  have key:∀ k,(relabel scope X.env).names.lookup y=some k->(k=.cell\/k=.free)->∃ c,cl.lookup y=some c:=fun k e hk=>by
   rw[fk]at e
   cases q:scope.names.lookup y with
   |none=>rw[q]at e;cases e
   |some k0=>
    have hm:=PySem.mem_of_lookup q
    have h0:=hcell _ hm
    have hf:k0=.free:=by
     rw[q]at e
     simp only[Option.map_some,Option.some.injEq]at e
     split at e
     ·rename_i z
      simp only[Bool.and_eq_true,beq_iff_eq]at z
      exact z.1.1
     ·rcases hk with hk|hk
      ·exact absurd (e.trans hk) h0
      ·exact e.trans hk
    exact hhas _ hm hf
  rcases hy with hy|hy
  ·exact key _ hy (.inl rfl)
  ·exact key _ hy (.inr rfl)
 cab:=fun _ _ h=>by cases h
 hd:=I.ok.hd
 frames:=I.ok.frames
 stk:=.inl rfl
 exf:=fun b hb=>⟨Nat.ne_of_lt (Nat.lt_of_lt_of_le (hex b hb).2 hC),fun x c e=>(hex b hb).1.2.2.2.2.1 x c (hcl x c e)⟩
 bs:=fun b o e=>I.bs b o e
 bsz:=Nat.le_trans I.ok.bsz I.sz
 noex:=fun b o e hb=>by
  rcases (hex b hb).1.2.2.2.1 with z|z
  ·exact I.ok.noex b o e z
  ·exact absurd (Nat.lt_of_lt_of_le (Heap.lt_size e) (Nat.le_trans I.ok.bsz z)) (Nat.lt_irrefl _)
 exfs:=fun b hb hfs=>by
  rcases List.mem_cons.mp (I.stkSub b hfs) with z|z
  ·exact(hex b hb).1.2.1 z
  ·exact(hex b hb).1.2.2.1 z
 funs:=I.stack
 frf:=I.stkFree
 kt:=I.kt
structure Caps (X:Cx) (scope:Scope) (capN:List Str) (caps:List Nat):Prop where
 at':∀(k:Nat)(y:Str),capN[k]?=some y->∃ j:Nat,caps[k]?=some j/\X.N[j]?=some y
 out:∀ y∈capN,X.env.kindOf y=some .cell\/X.env.kindOf y=some .free
 inn:∀ y∈capN,scope.names.lookup y=some .free
 len:caps.length=capN.length
noncomputable def il (σ:St)(caps:List Nat):St:=caps.map fun j=>(σ[j]?).join
theorem sD {tN:List Str}{capN:List Str}{caps:List Nat}{h4:Heap}{tk:Nat}{m4:Str->Option Value}(I:L2.Inv X pins σ H s)(hkind:scope.kind=.function)(hcell:∀ y∈scope.names,y.2≠.cell)(hcl:∀ y c,cl.lookup y=some c->X.env.cells.lookup y=some c)(hhas:∀ x∈scope.names,x.2=.free->∃ c,cl.lookup x.1=some c)
 (hC:s.heap.objs.size<=C) (hex:∀ b∈ex,FpOk X pins H b/\b<s.heap.objs.size) (hc:Caps X scope capN caps) (kp:∀ b o,s.heap.get? b=some o->h4.get? b=some o) (ns:h4.Ns C m4) :
 L2.Inv (bG X scope (tN++capN) cl C s H ex) [] (List.replicate tN.length none++il σ caps) H { s with heap:=h4,toks:=tk } where
 ok:=vx I hkind hcell hcl hhas hC hex
 os:=rfl
 bare:=I.bare
 base:=Un.kept kp
 loc:=by
  refine⟨m4,ns,fun i y v e1 e2 e3=>?_⟩
  by_cases hlt:i<tN.length
  ·rw[List.getElem?_append_left (by simpa using hlt),List.getElem?_replicate]at e2
   rw[if_pos hlt]at e2;cases e2
  ·obtain⟨k,rfl⟩ : ∃ k,i=tN.length+k:=⟨i-tN.length,by omega⟩
   have e1:capN[k]?=some y:=by
    have e1:(tN++capN)[tN.length+k]?=some y:=e1
    rwa [List.getElem?_append_right (by omega),Nat.add_sub_cancel_left]at e1
   have e2:(il σ caps)[k]?=some (some v):=by
    rwa [List.getElem?_append_right (by simp),List.length_replicate,Nat.add_sub_cancel_left]at e2
   obtain⟨j,ej,eN⟩:=hc.at' k y e1
   have e4:σ[j]?=some (some v):=by
    unfold il at e2
    rw[List.getElem?_map,ej]at e2
    have e2:(σ[j]?).join=some v:=by simpa using e2
    cases q:σ[j]? with
    |none=>rw[q]at e2;cases e2
    |some o=>rw[q]at e2;cases o with
     |none=>cases e2
     |some w=>cases e2;rfl
   have hm:=List.mem_of_getElem? e1
   obtain⟨m,hn,hl⟩:=I.loc
   have hout:=hc.out y hm
   obtain⟨u,r,l⟩:=hl j y v eN e4 (.inr hout)
   refine⟨u,r,.inr ⟨lJ (hc.inn y hm),?_⟩⟩
   obtain⟨c,hcl2⟩:=hhas (y,.free) (PySem.mem_of_lookup (hc.inn y hm)) rfl
   refine⟨c,hcl2,?_⟩
   rcases l with⟨l,_⟩|⟨_,c',e5,z⟩
   ·rcases hout with h|h<;>(rw[h]at l;cases l)
   ·have:=hcl y c hcl2
    rw[e5]at this;cases this
    obtain⟨o,ho,hd⟩:=z
    exact⟨o,kp _ o ho,hd⟩
 cell:=fun y c e=>by
  obtain⟨v,o,ho,hd⟩:=I.cell y c (hcl y c e)
  exact⟨v,o,kp _ o ho,hd⟩
 free:=I.hok.fresh hC
 freeC:=fun y c e=>I.freeC y c (hcl y c e)
 pin:=fun p hp=>absurd (show p∈([]:List (Addr×Obj)) from hp) (by simp)
 hok:=I.hok.kept kp
 len:=by simp[bG,il,hc.len]
theorem qh {X':Cx}{pl:List (Addr×Obj)}{σ':St}{H':Hp}{s':Shared}(I:L2.Inv X pins σ H s)(hX:X'=bG X scope N cl C s H ex)(hC:s.heap.objs.size<=C)(hex:∀ b∈ex,FpOk X pins H b/\b<s.heap.objs.size)
 (I':L2.Inv X' pl σ' H' s'):L2.Inv X pins σ H' s'/\FpOk X pins H' C:=by
 subst hX
 refine⟨I.call' (ch:=ex) I'.os I'.base I'.hok I'.bare fun b hb=>?_,I.fpOk hC I'.free⟩
 obtain⟨_,h2,h3,h4,h5,h6⟩:=(hex b hb).1
 exact⟨h4,h2,h5,h6⟩
theorem oR {H:Hp}{h':Heap}(I:L2.Inv X pins σ H s)(hf:FpOk X pins H C)(sb:Heap.SameBut C s.heap h'):L2.Inv X pins σ H { s with heap:=h' }:=
 I.turned (t':=s.toks) (it:=C) (fun b o hb e=>(sb.2 b hb).trans e) hf.1 hf.2.1 hf.2.2.2.1 hf.2.2.2.2.1 hf.2.2.2.2.2
end
end L3
namespace L3
open PySem PySem.Spec PyProof.Rows L2
section
variable {X:Cx}{pins:List (Addr×Obj)}{σ:St}{H3:Hp}{s3:Shared}{scope:Scope}{tg:Expr}{tN:List Str}{capN:List Str}{cl:List (Str×Addr)}{C:Addr}{fp:List Addr}{elt iter:Expr}{pos:Pos}{ifs:List Expr}
noncomputable def Cr (X:Cx)(ifs:List Expr)(tt:TT):Prop:=∀(pins:List (Addr×Obj))(s:Shared)(σ:St)(H:Hp)(Q:Bool->Hp->Prop),L2.Inv X pins σ H s->tt σ H Q->
 wpAny (model X.prog X.w) X.A (forIn ifs true fun c r=>if r=true then do let ok <- isTrue c X.env (eval c X.env);pure (ForInStep.yield ok) else pure (ForInStep.yield r)) (TP X pins σ Q) X.xe s
theorem oS:Cr X [] (fun _ H Q=>Q true H):=fun _ _ σ H Q I q=>wpAny_tests_nil ⟨H,I,q⟩
theorem qi {J:It}{it Dl:Addr}{tn:Nat->Heap->Prop}{X':Cx}(hX:X'=bG X scope (tN++capN) cl C s3 H3 fp)(T:Turn X.prog X.w X.K tg J fp it tn)(hcalm:X.calm=true)
 {σc:St} {s4:Shared} (I4:L2.Inv X' [] (List.replicate tN.length none++σc) H3 s4) (bA:X'.N.length=tN.length+σc.length) (st4:tn 0 s4.heap) (hf:∀ b∈fp,FpOk X' [] H3 b)
 {tt:TT} {te:TE} {gt:TG} (hg:PG X' tg gt) (ht:Cr X' ifs tt) (he:PE X' elt te)
 (W:Nat->Nat->List V->Hp->Prop) (Fin:List V->Hp->Prop) (w0:∃ m,W 0 m [] H3)
 (turn:∀ i m acc H,W i m acc H->H Dl=some (.lst acc)/\((J.stop i H/\Fin acc H)\/(J.go i H/\∀ xv H' o,J.yld i H xv H'->o.length=tN.length->gt xv (o++σc) H' fun σ2 H1=>(∀ j:Nat,tN.length<=j->σ2[j]?=(o++σc)[j]?)/\tt σ2 H1 fun b H2=>if b=true then
   te σ2 H2 fun y H5=>H5 Dl=some (.lst acc)/\acc.length<sizeLine/\∃ m',m'<m/\W (i+1) m' (acc++[y]) (bf H5 Dl (.lst (acc++[y]))) else ∃ m',m'<m/\W (i+1) m' acc H2)))
 (R:Result->Shared->Prop) (hR:∀ σ' H' acc s',L2.Inv X' [] σ' H' s'->H' Dl=some (.lst acc)->Fin acc H'->R (.ok .next) s') :
 codeAny (model X.prog X.w) X.A (.compLoop (.ListComp elt [⟨tg,iter,ifs,0⟩] scope pos) 0 (.ref it) (.ref Dl) (compEnvC scope cl C X.env)) R s4:=by
 obtain⟨m0,w0⟩:=w0
 have eA:X'.A=X.A:=by rw[hX];rfl
 have eP:X'.prog=X.prog:=by rw[hX];rfl
 have eW:X'.w=X.w:=by rw[hX];rfl
 have eK:X'.K=X.K:=by rw[hX];rfl
 have eE:X'.env=compEnvC scope cl C X.env:=by rw[hX];rfl
 have eX:X'.xe=fun _ _=>False:=by rw[hX];rfl
 have eC:X'.calm=true:=by rw[hX];exact hcalm
 have stat:∀{H':Hp},(∀ b∈fp,H' b=none)->∀ b∈fp,FpOk X' [] H' b:=fun hn b hb=>⟨hn b hb,(hf b hb).2⟩
 refine codeAny_loop rfl (fun n s=>∃ i o acc H,L2.Inv X' [] (o++σc) H s/\o.length=tN.length/\tn i s.heap/\(∀ b∈fp,H b=none)/\W i n acc H) ?_ m0 ⟨0,List.replicate tN.length none,[],H3,I4,by simp,st4,fun b hb=>(hf b hb).1,w0⟩
 rintro n s5 ⟨i,o,acc,H5,I5,lo,st5,fr5,w5⟩
 show wpAny _ X.A ((compTurn (.ListComp elt [⟨tg,iter,ifs,0⟩] scope pos) 0 (.ref it) (.ref Dl) (compEnvC scope cl C X.env)).onRaise (fun x=>do noteFrame x (compEnvC scope cl C X.env);theTreesLotGoes x)) _ _ s5
 refine wpAny_noted ?_
 rw[compTurn_list]
 obtain⟨hD,alt⟩:=turn i n acc H5 w5
 rcases alt with⟨stop,fin⟩|⟨go,step⟩
 ·refine wpAny_bind (wpAny_standAt (wpAny_bind (wpAny_mono (eA▸T.done X' eP eW eK eC i [] s5 _ H5 _ I5 (stat fr5) st5 stop) (fun r s6 ⟨hr,I6⟩=>?_) fun _ _ z=>z)))
  subst hr
  exact wpAny_pure (hR _ H5 acc s6 I6 hD fin)
 ·refine wpAny_bind (wpAny_standAt (wpAny_bind (wpAny_mono (eA▸T.item X' eP eW eK eC i [] s5 _ H5 _ I5 (stat fr5) st5 go) (fun r s6 ⟨u,hr,h6⟩=>?_) fun _ _ z=>z)))
  subst hr
  refine wpAny_bind (wpAny_mono h6 (fun _ s7 ⟨xv,H7,I7,r7,y7,st7,fr7⟩=>?_) fun _ _ z=>z)
  have I7':=I7.pinned (stat fr7) (T.obj _ _ st7)
  have hg':=hg _ s7 _ H7 xv u _ I7' r7 (step xv H7 o y7 lo)
  rw[eP,eW,eA,eE,eX]at hg'
  refine wpAny_bind (wpAny_mono hg' (fun _ s8 ⟨σ8,H8,I8,shp,q8⟩=>?_) fun _ _ z=>z.elim)
  obtain⟨o2,lo2,eσ⟩ : ∃ o2:St,o2.length=tN.length/\σ8=o2++σc:=by
   have l8:σ8.length=tN.length+σc.length:=I8.len.trans bA
   refine⟨σ8.take tN.length,by rw[List.length_take];omega,?_⟩
   have ed:σ8.drop tN.length=σc:=by
    apply List.ext_getElem?
    intro j
    rw[List.getElem?_drop,shp (tN.length+j) (by omega),List.getElem?_append_right (by omega),lo,Nat.add_sub_cancel_left]
   rw[<- ed,List.take_append_drop]
  subst eσ
  have ht':=ht _ s8 _ H8 _ I8 q8
  rw[eP,eW,eA,eE,eX]at ht'
  refine wpAny_bind (wpAny_mono ht' (fun ok s9 ⟨H9,I9,q9⟩=>?_) fun _ _ z=>z.elim)
  have again:∀{s':Shared}{H':Hp},L2.Inv X' ([]++jd fp s7.heap) (o2++σc) H' s'->L2.Inv X' [] (o2++σc) H' s'/\tn (i+1) s'.heap/\∀ b∈fp,H' b=none:=fun{s' H'} J'=>by
   refine⟨J'.unpinned,T.keep _ _ _ st7 fun b hb ob e=>(J'.pin (b,ob) (List.mem_append_right _ (List.mem_append_right _ (dQ hb e)))).1,fun b hb=>?_⟩
   obtain⟨ob,e,d⟩:=T.obj _ _ st7 b hb
   exact(J'.pin (b,ob) (List.mem_append_right _ (List.mem_append_right _ (dQ hb e)))).2.1
  cases ok with
  |false=>
   obtain⟨m',hm,w9⟩:=(show ∃ m',m'<n/\W (i+1) m' acc H9 from by simpa using q9)
   obtain⟨a1,a2,a3⟩:=again I9
   exact wpAny_pure ⟨rfl,m',hm,i+1,o2,acc,H9,a1,lo2,a2,a3,w9⟩
  |true=>
   have q9:te (o2++σc) H9 fun y H5=>H5 Dl=some (.lst acc)/\acc.length<sizeLine/\∃ m',m'<n/\W (i+1) m' (acc++[y]) (bf H5 Dl (.lst (acc++[y]))):=by simpa using q9
   have he':=he _ s9 _ H9 _ I9 q9
   rw[eP,eW,eA,eE,eX]at he'
   refine wpAny_bind (wpAny_bind (wpAny_mono he' (fun v s10 ⟨y,H10,I10,ry,eD,hl,m',hm,w10⟩=>?_) fun _ _ z=>z.elim))
   have hm':=ig (X:=X') _ s10 _ H10 (.ref Dl) [y] (.ref Dl) [v] (fun w H'=>w=.non/\H'=bf H10 Dl (.lst (acc++[y]))) I10 rfl (.cons ry .nil) ⟨Dl,acc,y,rfl,rfl,eD,hl,rfl,rfl⟩
   rw[eP,eW,eA,eX]at hm'
   refine wpAny_bind (wpAny_mono hm' (fun _ s11 ⟨w,H11,I11,_,_,eH⟩=>?_) fun _ _ z=>z.elim)
   subst eH
   obtain⟨a1,a2,a3⟩:=again I11
   exact wpAny_pure (wpAny_pure ⟨rfl,m',hm,i+1,o2,acc++[y],_,a1,lo2,a2,a3,w10⟩)
end
end L3
namespace L3
open PySem PySem.Spec PyProof.Rows L2
structure CScope (X:Cx) (scope:Scope) (tN:List Str) (capN:List Str) (caps:List Nat):Prop where
 kind:scope.kind=.function
 ncell:∀ y∈scope.names,y.2≠.cell
 names:∀ y∈scope.names,y.2=.local->scope.names.lookup y.1=some .local
 own:∀ x∈tN,scope.names.lookup x=some .local
 free:∀ y∈scope.names,y.2=.free->X.env.kindOf y.1=some .cell\/X.env.kindOf y.1=some .free
 cap:Caps X scope capN caps
 nd:(tN++capN).Nodup
section
variable {X:Cx}{pins:List (Addr×Obj)}{σ:St}{H:Hp}{s:Shared}{scope:Scope}{tg:Expr}{tN:List Str}{capN:List Str}{caps:List Nat}{elt iter:Expr}{pos:Pos}{ifs:List Expr}{wi:TI}
noncomputable def dE (X:Cx)(scope:Scope)(tg:Expr)(tN:List Str)(capN:List Str)(caps:List Nat)(elt:Expr)(ifs:List Expr)(σ:St)(Fin:Addr->List V->Hp->Prop)(J:It)(H2:Hp):Prop:=
 ∀(Dl:Addr),H2 Dl=none->∀(cl:List (Str×Addr))(C:Addr)(s3:Shared)(fp:List Addr),∃(gt:TG)(tt:TT)(te:TE)(W:Nat->Nat->List V->Hp->Prop),
  PG (bG X scope (tN++capN) cl C s3 (bf H2 Dl (.lst [])) fp) tg gt/\Cr (bG X scope (tN++capN) cl C s3 (bf H2 Dl (.lst [])) fp) ifs tt/\PE (bG X scope (tN++capN) cl C s3 (bf H2 Dl (.lst [])) fp) elt te/\(∃ m,W 0 m [] (bf H2 Dl (.lst [])))/\
  ∀ i m acc H,W i m acc H->H Dl=some (.lst acc)/\((J.stop i H/\Fin Dl acc H)\/(J.go i H/\∀ xv H' (o:St),J.yld i H xv H'->o.length=tN.length->gt xv (o++il σ caps) H' fun σ2 H1=>(∀ j:Nat,tN.length<=j->σ2[j]?=(o++il σ caps)[j]?)/\tt σ2 H1 fun b H2=>if b=true then
   te σ2 H2 fun y H5=>H5 Dl=some (.lst acc)/\acc.length<sizeLine/\∃ m',m'<m/\W (i+1) m' (acc++[y]) (bf H5 Dl (.lst (acc++[y]))) else ∃ m',m'<m/\W (i+1) m' acc H2))
theorem kM {use:Option (Value->Sem Unit)}{Qv:Value->Shared->Prop}{Fin:Addr->List V->Hp->Prop}(hc:X.calm=true)(S:CScope X scope tN capN caps)(I:L2.Inv X pins σ H s)(hi:PI X tg iter wi)
 (h:wi σ H (dE X scope tg tN capN caps elt ifs σ Fin))
 (hu:∀(Dl C:Addr)(acc:List V)(H':Hp)(s':Shared),L2.Inv X pins σ H' s'->FpOk X pins H' C->H' Dl=some (.lst acc)->Fin Dl acc H'->(∃ m,s'.heap.Ns C m)->compPost (model X.prog X.w) X.A X.xe use Qv (.ref Dl) C (.ok .next) s')
 (hs:autoParam (∀ x,foldedSetIterable iter X.env x=pure x) autoI._auto_1) :
 wpAny (model X.prog X.w) X.A (comprehension (.ListComp elt [⟨tg,iter,ifs,0⟩] scope pos) scope X.env (firstIterPos [⟨tg,iter,ifs,0⟩] pos) (newList []) false (eval iter X.env) use) Qv X.xe s:=by
 obtain⟨cl,ecl,hcl,hhas⟩:=kg (scope:=scope) (env:=X.env) fun y hy hf=>I.ok.has y.1 (S.free y hy hf)
 refine wpAny_comprehension_free rfl hs ecl S.kind S.names (b7 (hi pins s σ H _ I h) fun v s1 h1=>b7 h1 fun itv s2 h2=>?_)
 obtain⟨it,fp,tn,J,H2,rfl,I2,T,st2,f2,goal⟩:=h2
 refine wpAny_newObj_type (wpAny_newFunctionEnv S.ncell (by intro y hy;simp at hy) (fun h₁ hns₁ hsb₁=>?_) S.kind)
 dsimp only at hns₁ hsb₁ ⊢
 have hD:H2 s2.heap.objs.size=none:=I2.hok.fresh (Nat.le_refl _)
 have I3:L2.Inv X pins σ (bf H2 s2.heap.objs.size (.lst [])) { s2 with heap:=s2.heap.push { cls:=.type "list",dict:=none,data:=.seq ([]:List Value).toArray } }:=
  I2.laid (t':=s2.toks) (fun b u e=>Heap.get?_push_of_some _ e) (Nat.le_refl _) ⟨Nat.zero_le _,[],0,.nil,Heap.get?_push_size _ rfl⟩
 generalize hs3:({ s2 with heap:=s2.heap.push { cls:=.type "list",dict:=none,data:=.seq ([]:List Value).toArray } }:Shared)=s3 at I3
 have e3:s2.heap.push { cls:=.type "list",dict:=none,data:=.seq ([]:List Value).toArray }=s3.heap:=by rw[<- hs3]
 rw[e3]at hns₁ hsb₁ ⊢
 have kp:∀ b o,s3.heap.get? b=some o->h₁.get? b=some o:=fun b o e=>hsb₁.extBut b o (Nat.ne_of_lt (Heap.lt_size e)) (Heap.get?_push_of_some _ e)
 have k23:∀ b o,s2.heap.get? b=some o->s3.heap.get? b=some o:=fun b o e=>by rw[<- e3];exact Heap.get?_push_of_some _ e
 have hex:∀ b∈fp,FpOk X pins (bf H2 s2.heap.objs.size (.lst [])) b/\b<s3.heap.objs.size:=fun b hb=>by
  obtain⟨o,ho,_⟩:=T.obj 0 _ st2 b hb
  have hlt:b<s2.heap.objs.size:=Heap.lt_size ho
  refine⟨⟨?_,(f2 b hb).2⟩,Heap.lt_size (k23 b o ho)⟩
  rw[aq (Nat.ne_of_lt hlt)]
  exact(f2 b hb).1
 have es:({ s2 with heap:=h₁,toks:=s2.toks+([]:List (Str×Value)).length }:Shared)={ s3 with heap:=h₁,toks:=s2.toks+([]:List (Str×Value)).length }:=by rw[<- hs3]
 have I4:L2.Inv (bG X scope (tN++capN) cl s3.heap.objs.size s3 (bf H2 s2.heap.objs.size (.lst [])) fp) [] (List.replicate tN.length none++il σ caps) (bf H2 s2.heap.objs.size (.lst [])) { s3 with heap:=h₁,toks:=s2.toks+([]:List (Str×Value)).length }:=
  sD I3 S.kind S.ncell hcl hhas (Nat.le_refl _) hex S.cap kp hns₁
 obtain⟨gt,tt,te,W,hg,ht,he,w0,turn⟩:=goal s2.heap.objs.size hD cl s3.heap.objs.size s3 fp
 have st4:tn 0 h₁:=T.keep 0 _ _ st2 fun b hb o e=>kp b o (k23 b o e)
 have f4:∀ b∈fp,FpOk (bG X scope (tN++capN) cl s3.heap.objs.size s3 (bf H2 s2.heap.objs.size (.lst [])) fp) [] (bf H2 s2.heap.objs.size (.lst [])) b:=fun b hb=>by
  obtain⟨f,hlt⟩:=hex b hb
  refine⟨f.1,Nat.ne_of_lt hlt,fun hfs=>?_,.inl hb,fun y c e=>f.2.2.2.2.1 y c (hcl y c e),fun p hp=>absurd (show p∈([]:List (Addr×Obj)) from hp) (by simp)⟩
  rcases List.mem_cons.mp (I3.stkSub b hfs) with z|z
  ·exact f.2.1 z
  ·exact f.2.2.1 z
 have loop:codeAny (model X.prog X.w) X.A (.compLoop (.ListComp elt [⟨tg,iter,ifs,0⟩] scope pos) 0 (.ref it) (.ref s2.heap.objs.size) (compEnvC scope cl s3.heap.objs.size X.env)) (compPost (model X.prog X.w) X.A X.xe use Qv (.ref s2.heap.objs.size) s3.heap.objs.size)
  { s3 with heap:=h₁,toks:=s2.toks+([]:List (Str×Value)).length }:=by
  refine qi rfl T hc I4 (by show(tN++capN).length=_;simp[il,S.cap.len]) st4 f4 hg ht he W (Fin s2.heap.objs.size) w0 turn _ fun σ' H' acc s' I' hD' fin=>?_
  obtain⟨Io,fo⟩:=qh I3 rfl (Nat.le_refl _) hex I'
  obtain⟨m',hn',_⟩:=I'.loc
  exact hu _ _ acc H' s' Io fo hD' fin ⟨m',hn'⟩
 rw[es]
 exact codeAny_compStart_list loop (T.self _ 0 _ _ _ st4 loop)
theorem sE {Q:VK}(hc:X.calm=true)(S:CScope X scope tN capN caps)(I:L2.Inv X pins σ H s)(hi:PI X tg iter wi)(h:wi σ H (dE X scope tg tN capN caps elt ifs σ fun Dl _ H'=>Q (.ref Dl) H'))
 (hs:autoParam (∀ x,foldedSetIterable iter X.env x=pure x) autoI._auto_1):wpAny (model X.prog X.w) X.A (eval (.ListComp elt [⟨tg,iter,ifs,0⟩] scope pos) X.env) (EP X pins σ Q) X.xe s:=by
 rw[eval_ListComp]
 refine kM (use:=none) hc S I hi h (fun Dl C acc H' s' Io fo hD fin hn=>?_) hs
 obtain⟨m,hn⟩:=hn
 exact⟨m,hn,fun h' sb=>⟨.ref Dl,H',oR Io fo sb,rfl,fin⟩⟩
theorem mU {D:Ends}{i:Nat}{y:Str}{py spos:Pos}(hc:X.calm=true)(S:CScope X scope tN capN caps)(hN:X.N.Nodup)(hi':X.N[i]?=some y)(hy:X.env.scope.names.lookup y=some .local)
 (hsw:swapsWith (.ListComp elt [⟨tg,iter,ifs,0⟩] scope pos) (some (.Name y py)) spos.line X.env=pure true) (I:L2.Inv X pins σ H s) (hi:PI X tg iter wi)
 (h:wi σ H (dE X scope tg tN capN caps elt ifs σ fun Dl _ H'=>D.nx (σ.set i (some (.ref Dl))) H')) (hs:autoParam (∀ x,foldedSetIterable iter X.env x=pure x) autoI._auto_1) :
 wpAny (model X.prog X.w) X.A (exec (.Assign [.Name y py] (.ListComp elt [⟨tg,iter,ifs,0⟩] scope pos) spos) X.env) (SP X pins D) X.xe s:=by
 rw[exec_Assign_Name_used _ _ _ _ hsw]
 refine wpAny_bind (wpAny_standAt (wpAny_bind ?_))
 show wpAny _ X.A (do let _ <- comprehension (.ListComp elt [⟨tg,iter,ifs,0⟩] scope pos) scope X.env _ (newList []) false (eval iter X.env) (some (assign (.Name y py) X.env))) _ _ s
 refine wpAny_bind (wpAny_mono (kM (use:=some (assign (.Name y py) X.env)) (Qv:=fun _ s'=>SP X pins D .next s') hc S I hi h (fun Dl C acc H' s' Io fo hD fin hn=>?_) hs) (fun _ s' hq=>wpAny_pure (wpAny_pure hq)) fun _ _ e=>e)
 obtain⟨m,hn⟩:=hn
 show wpAny _ X.A (assign (.Name y py) X.env (.ref Dl)) _ _ _
 refine wpAny_assign_Name (kz (v:=.ref Dl) Io hN hi' (.inl hy) rfl (fun s'' I'' ⟨a,sb,ha⟩=>?_) (.inr hy))
 have nca:C≠a:=by
  rcases ha with z|z
  ·rw[z];exact fo.2.1
  ·exact Ne.symm (fo.2.2.2.2.1 y a z)
 refine⟨m,hn.sameBut sb nca,fun h' sb'=>?_⟩
 exact⟨_,H',oR I'' fo sb',fin⟩
end
end L3
namespace L3
open PySem PySem.Spec PyProof.Rows L2
noncomputable def Res.noX {α:Type}:Res α->Res α
 | .exc _=>.stuck
 |r=>r
noncomputable def vy (env:En)(j:Nat):Option Sl:=match env[j]? with
 |some (some (.val d fr))=>some (.val d fr)
 |some (some (.own ds fr))=>some (.val (.lst ds) fr)
 |some (some (.tre d))=>some (.val d true)
 |some (some (.pin d))=>some (.val d true)
 |some (some (.dis d))=>some (.val d true)
 |_=>none
noncomputable def cO (env:En)(n:Nat)(caps:List Nat):En:=List.replicate n none++caps.map (vy env)
noncomputable def dF (mk:D->Option En)(test:En->Res Bool)(elt:En->Res R):List D->Res (List R)
 | []=>.ok []
 |x::xs=>match mk x with
  |none=>.stuck
  |some e=>(test e).bind fun b=>if b then (elt e).bind fun r=>(dF mk test elt xs).bind fun rs=>.ok (r::rs) else dF mk test elt xs
noncomputable def bV (n:Nat)(caps:List Nat)(src:En->Res Src)(asg:D->Bool->En->Option En)(test:En->Res Bool)(elt:En->Res R):En->Res R:=fun env=>(src env).bind fun s=>if s.xs.length<=lim then
 (dF (fun d=>asg d s.fr (cO env n caps)) test elt s.xs).noX.bind fun rs=>.ok (jr (rs.map R.d) (aT rs) (s.al++caps.filter (isOwn env))) else .stuck
noncomputable def sF (X:Cx)(E:XK)(ifs:List Expr)(f:En->Res Bool):Prop:=∃ t,Cr X ifs t/\SndT X.mg E t f
section
variable {X:Cx}{E:XK}
theorem bd:sF X E [] (fun _=>.ok true):=⟨_,oS,fun g M ρ env σ H Q rep p=>p M H (Ext.refl _ _) rep⟩
end
section
variable {g:Gd}{M M1:Addr->Prop}{ρ:Pr}{env:En}{σ:St}{H H1:Hp}
theorem A_ {n:Nat}{caps:List Nat}{M':Addr->Prop}{o:St}(rep:Rep g M1 ρ env σ H1)(s:Same H1 H)(ho:o.length=n)(hM:∀ a,(M1 a\/∃ i,i∈caps/\ρ i a)->M' a)(hf:∀ a,M' a->H a≠none)(hi:∀ a,M' a->g.H₀ a=none\/g.Ma a)(hfl:∀ a,M' a->g.H₀ a=none->MuZ g H a) :
 Rep g M' (fun _ _=>False) (cO env n caps) (o++il σ caps) H where
 same:=rep.same.trans s
 froz:=hf
 inn:=hi
 fl:=hfl
 slot:=fun i sl e=>by
  by_cases hlt:i<n
  ·unfold cO at e
   rw[List.getElem?_append_left (by simpa using hlt),List.getElem?_replicate,if_pos hlt]at e
   cases e
  ·obtain⟨k,rfl⟩ : ∃ k,i=n+k:=⟨i-n,by omega⟩
   have e:(caps.map (vy env))[k]?=some (some sl):=by
    unfold cO at e
    rwa [List.getElem?_append_right (by simp),List.length_replicate,Nat.add_sub_cancel_left]at e
   rw[List.getElem?_map]at e
   cases q:caps[k]? with
   |none=>rw[q]at e;cases e
   |some j=>
    rw[q]at e
    have e:vy env j=some sl:=by simpa using e
    have hj:j∈caps:=List.mem_of_getElem? q
    unfold vy at e
    cases q2:env[j]? with
    |none=>rw[q2]at e;cases e
    |some o=>
     cases o with
     |none=>rw[q2]at e;cases e
     |some sl0=>
      obtain⟨v,ev,k2⟩:=rep.slot j sl0 q2
      have el:(o++il σ caps)[n+k]?=some (some v):=by
       rw[List.getElem?_append_right (by omega),ho,Nat.add_sub_cancel_left]
       unfold il
       rw[List.getElem?_map,q]
       simp[ev]
      rw[q2]at e
      cases sl0 with
      |val d' fr'=>
       cases e
       exact⟨v,el,Is.mono (fun a o q _=>s a o q) (fun a _ _ z=>⟨hM a (.inl z.1),z.2⟩) k2⟩
      |own ds' fr'=>
       cases e
       obtain⟨a,vs,rfl,h1,h2,h4⟩:=k2
       have ha:=(h2 a).mpr rfl
       exact⟨_,el,a,vs,rfl,.inl ⟨s _ _ h1,hM a (.inr ⟨j,hj,ha⟩),fun _=>(rep.priv j a ha).2.1⟩,IsAll.mono (fun a o q _=>s a o q) (fun a _ _ z=>⟨hM a (.inl z.1),z.2⟩) h4⟩
      |tre d'=>
       cases e
       exact⟨v,el,Is.mono (fun a o q _=>s a o q) (fun a _ _ z=>⟨hM a (.inr ⟨j,hj,z⟩),fun _=>(rep.priv j a z).2.1⟩) k2⟩
      |mes d'=>cases e
      |kon a'=>cases e
      |pin d'=>
       cases e
       exact⟨v,el,Is.mono (fun a o q _=>s a o q) (fun a _ _ z=>⟨hM a (.inr ⟨j,hj,z⟩),fun _=>(rep.priv j a z).2.1⟩) k2.1⟩
      |dis d'=>
       cases e
       exact⟨v,el,Is.mono (fun a o q _=>s a o q) (fun a _ _ z=>⟨hM a (.inr ⟨j,hj,z⟩),fun _=>(rep.priv j a z).2.1⟩) k2.1⟩
 priv:=fun _ _ z=>z.elim
 apart:=fun _ _ _ z=>z.elim
 ow:=fun _ _ z=>z.elim
 len:=by simp[cO,il,ho]
 zz:=fun a z e=>rep.zz a z (s.free e)
end
noncomputable def sG (X:Cx)(scope:Scope)(tg:Expr)(tN:List Str)(capN:List Str)(caps:List Nat)(elt:Expr)(ifs:List Expr)(wi:TI):TE:=fun σ H Q=>wi σ H (dE X scope tg tN capN caps elt ifs σ fun Dl _ H'=>Q (.ref Dl) H')
section
variable {X:Cx}{E:XK}{scope:Scope}{tg:Expr}{tN:List Str}{capN:List Str}{caps:List Nat}{ix:List Nat}{asg:D->Bool->En->Option En}{elt iter:Expr}{pos:Pos}{ifs:List Expr}{wi:TI}{src:En->Res Src}{ft:En->Res Bool}{fe:En->Res R}
theorem qj {g:Gd}{M1:Addr->Prop}{ρ:Pr}{env:En}{σ:St}{H1:Hp}{Q:VK}{J:It}{s:Src}{full:List R}(hix:∀ j∈ix,j<tN.length)(hg:∀ cl C s3 H3 fp,xb (bG X scope (tN++capN) cl C s3 H3 fp) ix tg asg)(ht:∀ cl C s3 H3 fp,sF (bG X scope (tN++capN) cl C s3 H3 fp) E0 ifs ft)(he:∀ cl C s3 H3 fp,PD (bG X scope (tN++capN) cl C s3 H3 fp) E0 elt fe)(rep1:Rep g M1 ρ env σ H1)(wk:Walk J (vmsk g M1 s.fr ρ s.al) H1 s.xs)(hlim:s.xs.length<=lim)(qc:dF (fun d=>asg d s.fr (cO env tN.length caps)) ft fe s.xs=.ok full)
 (p:PostE X.mg E g M1 ρ env σ H1 Q (.ok (jr (full.map R.d) (aT full) (s.al++caps.filter (isOwn env))))):dE X scope tg tN capN caps elt ifs σ (fun Dl _ H'=>Q (.ref Dl) H') J H1:=by
 intro Dl hDl cl C s3 fp
 obtain⟨gt,pg,sg⟩:=hg cl C s3 (bf H1 Dl (.lst [])) fp
 obtain⟨tt,pt,st⟩:=ht cl C s3 (bf H1 Dl (.lst [])) fp
 obtain⟨te,pe,se⟩:=he cl C s3 (bf H1 Dl (.lst [])) fp
 obtain⟨d0,dm,dow⟩:=rep1.free hDl
 refine⟨gt,tt,te,fun i m acc H=>m=s.xs.length-i/\i<=s.xs.length/\∃(M':Addr->Prop)(rs aQ:List R),Same H1 H/\H Dl=some (.lst acc)/\(∀ a,(M1 a\/∃ j,j∈s.al++caps/\ρ j a)->M' a)/\
  (∀ a,M' a->(M1 a\/∃ j,j∈s.al++caps/\ρ j a)\/H1 a=none)/\¬ M' Dl/\(∀ a,M' a->H a≠none)/\(∀ a,M' a->g.H₀ a=none->MuZ g H a)/\rs.length<=i/\IsAll H (msk g M' (aT rs)) (rs.map R.d) acc/\dF (fun d=>asg d s.fr (cO env tN.length caps)) ft fe (s.xs.drop i)=.ok aQ/\full=rs++aQ,
  pg,pt,pe,⟨_,rfl,Nat.zero_le _,(fun a=>M1 a\/∃ j,j∈s.al++caps/\ρ j a),[],full,bz hDl,aL,fun _ z=>z,fun _ z=>.inl z,?_,?_,?_,Nat.le_refl _,rfl,qc,rfl⟩,?_⟩
 ·rintro (z|⟨j,_,z⟩)
  ·exact dm z
  ·exact dow j z
 ·rintro a (z|⟨j,_,z⟩) hn
  ·exact rep1.froz a z ((bz hDl).free hn)
  ·obtain⟨_,_,uo,hz,_⟩:=rep1.priv j a z
   rw[(bz hDl) a _ hz]at hn;cases hn
 ·rintro a (z|⟨j,_,z⟩) h0
  ·exact(rep1.fl a z h0).same fun o e=>bz hDl _ _ e
  ·exact .inl ((rep1.priv j a z).2.2.same fun o e=>bz hDl _ _ e)
 ·rintro i m acc H2 ⟨rfl,hle,M',rs,aQ,sm,hD2,hMi,hMo,nD,frz2,fl2,hrs,isA,qr,efull⟩
  refine⟨hD2,?_⟩
  have kp:∀ a o,H1 a=some o->(vmsk g M1 s.fr ρ s.al a\/fixd o)->H2 a=some o:=fun a o e _=>sm a o e
  have inn2:∀{M'':Addr->Prop}{a:Addr},(M1 a\/∃ j,j∈s.al++caps/\ρ j a)\/H1 a=none->g.H₀ a=none\/g.Ma a:=fun{M'' a} z=>by
   rcases z with(z|⟨j,_,z⟩)|z
   ·exact rep1.inn a z
   ·exact .inl (rep1.priv j _ z).2.1
   ·exact .inl (rep1.same.free z)
  by_cases hlt:i<s.xs.length
  ·have ed:s.xs[i]?=some s.xs[i]:=by simp[hlt]
   obtain⟨go,yl⟩:=wk.go H2 i _ kp ed
   refine .inr ⟨go,fun xv H3 o y lo=>?_⟩
   obtain⟨s23,isx⟩:=yl xv H3 y
   have edrop:s.xs.drop i=s.xs[i]::s.xs.drop (i+1):=List.drop_eq_getElem_cons hlt
   rw[edrop]at qr
   unfold dF at qr
   have isx':Is H3 (msk g M' s.fr) s.xs[i] xv:=isx.weak fun a z=>by
    rcases z with z|⟨j,hj,z⟩
    ·exact⟨hMi a (.inl z.1),z.2⟩
    ·exact⟨hMi a (.inr ⟨j,by simp[hj],z⟩),fun _=>(rep1.priv j _ z).2.1⟩
   have repI:Rep g M' (fun _ _=>False) (cO env tN.length caps) (o++il σ caps) H3:=A_ rep1 (sm.trans s23) lo (fun a z=>hMi a (z.imp id fun⟨j,hj,w⟩=>⟨j,by simp[hj],w⟩)) (fun a z hn=>frz2 a z (s23.free hn)) (fun a z=>inn2 (M'':=M') (hMo a z)) (fun a z h0=>(fl2 a z h0).same fun o e=>s23 _ _ e)
   cases qa:asg s.xs[i] s.fr (cO env tN.length caps) with
   |none=>simp only[qa]at qr;cases qr
   |some envT=>
   simp only[qa]at qr
   refine sg g M' _ _ envT _ H3 _ s.fr xv _ repI isx' qa fun σ2 ρ2 repT shp nρ=>⟨fun j hj=>shp j fun z=>absurd (hix j z) (by omega),?_⟩
   refine st g M' ρ2 _ _ H3 _ repT ?_
   cases qt:ft envT with
   |stuck=>rw[qt]at qr;cases qr
   |exc c=>rw[qt]at qr;cases qr
   |ok b=>
    rw[qt]at qr
    intro M4 H4 e4 rep4
    cases b with
    |false=>
     refine mJ ⟨s.xs.length-(i+1),by omega,rfl,hlt,M',rs,aQ,(sm.trans s23).trans e4.h,e4.h _ _ (s23 _ _ hD2),hMi,hMo,nD,fun a z hn=>frz2 a z (s23.free (e4.h.free hn)),fun a z h0=>(fl2 a z h0).same fun o e=>e4.h _ _ (s23 _ _ e),by omega,?_,by simpa using qr,efull⟩
     exact IsAll.same e4.h (IsAll.same s23 isA)
    |true=>
     refine ly ?_
     simp only[Res.bind_ok,if_true]at qr
     refine se g M4 ρ2 _ _ H4 _ rep4 ?_
     cases qe:fe envT with
     |stuck=>rw[qe]at qr;cases qr
     |exc c=>rw[qe]at qr;cases qr
     |ok r=>
      rw[qe]at qr
      simp only[Res.bind_ok]at qr
      cases qd:dF (fun d=>asg d s.fr (cO env tN.length caps)) ft fe (s.xs.drop (i+1)) with
      |stuck=>rw[qd]at qr;cases qr
      |exc c=>rw[qd]at qr;cases qr
      |ok rest'=>
       rw[qd]at qr
       have qr:r::rest'=aQ:=by simpa using qr
       intro yv M5 H5 e5 rep5 ro
       obtain⟨M6,e6,m56,rep6,is6⟩:=ro.is rep5 e5 rep4.same
       have D3:H3 Dl=some (.lst acc):=s23 _ _ hD2
       have D4:H4 Dl=some (.lst acc):=e4.h _ _ D3
       have D5:H5 Dl=some (.lst acc):=e5.h _ _ D4
       have nD4:¬ M4 Dl:=fun z=>(e4.n Dl z).elim nD fun w=>by rw[D3]at w;cases w
       have nD6:¬ M6 Dl:=fun z=>(e6.n Dl z).elim nD4 fun w=>by rw[D4]at w;cases w
       have M46:∀ a,M4 a->M6 a:=e6.m
       have up:∀ a o,H5 a=some o->a≠Dl->bf H5 Dl (.lst (acc++[yv])) a=some o:=fun a o e n=>by rw[aq n];exact e
       have kp5:∀(fr:Bool) a o,H5 a=some o->(msk g M6 fr a\/fixd o)->bf H5 Dl (.lst (acc++[yv])) a=some o:=fun fr a o e z=>up a o e fun w=>by
        subst w
        rcases z with z|z
        ·exact nD6 z.1
        ·rw[D5]at e;cases e;exact z
       refine⟨D5,?_,s.xs.length-(i+1),by omega,rfl,hlt,M6,rs++[r],rest',?_,aL,fun a z=>M46 a (e4.m a (hMi a z)),fun a z=>?_,nD6,fun a z=>?_,fun a z h0=>?_,by simp;omega,?_,qd,by rw[efull,<- qr];simp⟩
       ·have:acc.length=rs.length:=by rw[isA.length,List.length_map]
        exact lC (by omega)
       ·intro b o e
        exact up b o (e5.h _ _ (e4.h _ _ (s23 _ _ (sm _ _ e)))) (ak e hDl)
       ·rcases e6.n a z with z|z
        ·rcases e4.n a z with z|z
         ·exact hMo a z
         ·exact .inr (sm.free (s23.free z))
        ·exact .inr (sm.free (s23.free (e4.h.free z)))
       ·by_cases hw:a=Dl
        ·rw[hw,aL];simp
        ·rw[aq hw];exact rep6.froz a z
       ·have hw:a≠Dl:=fun e=>nD6 (e▸z)
        exact(rep6.fl a z h0).same fun o e=>by rw[aq hw];exact e
       ·rw[List.map_append]
        refine IsAll.append ?_ ⟨yv,[],rfl,?_,rfl⟩
        ·have i5:IsAll H5 (msk g M' (aT rs)) (rs.map R.d) acc:=((isA.same s23).same e4.h).same e5.h
         refine(i5.weak fun a z=>(⟨M46 a (e4.m a z.1),fun e=>z.2 (by simp[aT]at e ⊢;exact e.1)⟩ : msk g M6 (aT (rs++[r])) a)).mono (kp5 _) fun _ _ _ z=>z
        ·refine(is6.weak fun a z=>?_:Is H5 (msk g M6 (aT (rs++[r]))) r.d yv).mono (kp5 _) fun _ _ _ z=>z
         rcases z with z|⟨j,_,z⟩
         ·exact⟨z.1,fun e=>z.2 (by simp[aT]at e;exact e.2)⟩
         ·exact(nρ _ _ z).elim
  ·have ei:i=s.xs.length:=by omega
   subst ei
   refine .inl ⟨wk.stop H2 kp,?_⟩
   rw[List.drop_length]at qr
   unfold dF at qr
   cases qr
   rw[List.append_nil]at efull
   subst efull
   have RM:Rep g (fun a=>M1 a\/(nl H1 H2 a/\M' a)) ρ env σ H2:=rep1.came sm M'
   have XM:Ext M1 H1 (fun a=>M1 a\/(nl H1 H2 a/\M' a)) H2:=⟨fun _=>.inl,sm,fun _ z=>z.imp id (·.1.1)⟩
   have nDl:¬ (M1 Dl\/(nl H1 H2 Dl/\M' Dl)):=fun z=>z.elim dm fun z=>nD z.2
   have nwD:∀ b,V.ref Dl=.ref b->H1 b=none:=fun b e=>by cases e;exact hDl
   unfold jr at p
   by_cases hfl:D.flats (full.map R.d)=true
   ·rw[if_pos hfl]at p
    exact p _ _ H2 XM RM ⟨Dl,acc,rfl,hD2,nDl,hDl,dow,IsAll.flat hfl isA⟩
   ·rw[if_neg hfl]at p
    by_cases hal:(s.al++caps.filter (isOwn env)).isEmpty=true
    ·rw[if_pos hal]at p
     refine p _ _ H2 XM RM ⟨Dl,acc,rfl,hD2,nDl,hDl,dow,isA.weak fun a z=>⟨?_,z.2⟩⟩
     rcases hMo a z.1 with(w|⟨j,hj,w⟩)|w
     ·exact .inl w
     ·exfalso
      have he:s.al++caps.filter (isOwn env)=[]:=by simpa using hal
      rcases List.mem_append.mp hj with hj|hj
      ·have:j∈s.al++caps.filter (isOwn env):=List.mem_append_left _ hj
       rw[he]at this;simp at this
      ·have:j∈s.al++caps.filter (isOwn env):=List.mem_append_right _ (List.mem_filter.mpr ⟨hj,rep1.ow j a w⟩)
       rw[he]at this;simp at this
     ·exact .inr ⟨⟨w,(fl2 a z.1 (rep1.same.free w)).elim id fun q=>(rep1.zz a q.1 w).elim⟩,z.1⟩
    ·rw[if_neg hal]at p
     refine p _ (fun a=>(M1 a\/(nl H1 H2 a/\M' a))\/a=Dl) H2 ⟨fun _ z=>.inl (.inl z),sm,fun a z=>z.elim (XM.n a) fun e=>.inr (e▸hDl)⟩ (RM.more hD2 d0 dow) ⟨Dl,acc,rfl,.inl ⟨hD2,.inl ⟨.inr rfl,fun _=>d0⟩⟩,isA.weak fun a z=>?_⟩
     rcases hMo a z.1 with(w|⟨j,hj,w⟩)|w
     ·exact .inl ⟨.inl (.inl w),z.2⟩
     ·refine .inr ⟨j,?_,w⟩
      rcases List.mem_append.mp hj with hj|hj
      ·exact List.mem_append_left _ hj
      ·exact List.mem_append_right _ (List.mem_filter.mpr ⟨hj,rep1.ow j a w⟩)
     ·exact .inl ⟨.inl (.inr ⟨⟨w,(fl2 a z.1 (rep1.same.free w)).elim id fun q=>(rep1.zz a q.1 w).elim⟩,z.1⟩),z.2⟩
theorem mV (si:A8 X.mg E wi src)(hix:∀ j∈ix,j<tN.length)(hg:∀ cl C s3 H3 fp,xb (bG X scope (tN++capN) cl C s3 H3 fp) ix tg asg)(ht:∀ cl C s3 H3 fp,sF (bG X scope (tN++capN) cl C s3 H3 fp) E0 ifs ft)(he:∀ cl C s3 H3 fp,PD (bG X scope (tN++capN) cl C s3 H3 fp) E0 elt fe) :
 Snd X.mg E (sG X scope tg tN capN caps elt ifs wi) (bV tN.length caps src asg ft fe):=by
 intro g M ρ env σ H Q rep p
 refine si g M ρ env σ H _ rep ?_
 unfold bV at p
 cases q:src env with
 |stuck=>rw[q]at p;exact p
 |exc c=>rw[q]at p;exact p
 |ok s=>
  rw[q]at p
  simp only[Res.bind_ok]at p
  intro J M1 H1 e1 rep1 wk Dl hDl cl C s3 fp
  by_cases hlim:s.xs.length<=lim
  ·rw[if_pos hlim]at p
   cases qc:dF (fun d=>asg d s.fr (cO env tN.length caps)) ft fe s.xs with
   |stuck=>rw[qc]at p;exact p.elim
   |exc c=>rw[qc]at p;exact p.elim
   |ok full=>
    rw[qc]at p
    have p:PostE X.mg E g M1 ρ env σ H1 Q (.ok (jr (full.map R.d) (aT full) (s.al++caps.filter (isOwn env)))):=PostE.ext e1 p
    exact qj hix hg ht he rep1 wk hlim qc p Dl hDl cl C s3 fp
  ·rw[if_neg hlim]at p;exact p.elim
theorem b0 (hc:X.calm=true)(S:CScope X scope tN capN caps)(hi:vw X E tg iter src)(hix:∀ j∈ix,j<tN.length)(hg:∀ cl C s3 H3 fp,xb (bG X scope (tN++capN) cl C s3 H3 fp) ix tg asg)(ht:∀ cl C s3 H3 fp,sF (bG X scope (tN++capN) cl C s3 H3 fp) E0 ifs ft)(he:∀ cl C s3 H3 fp,PD (bG X scope (tN++capN) cl C s3 H3 fp) E0 elt fe)
 (hs:autoParam (∀ x,foldedSetIterable iter X.env x=pure x) autoI._auto_1):PD X E (.ListComp elt [⟨tg,iter,ifs,0⟩] scope pos) (bV tN.length caps src asg ft fe):=by
 obtain⟨wi,p1,s1⟩:=hi
 exact⟨sG X scope tg tN capN caps elt ifs wi,fun pins s σ H Q I h=>sE hc S I p1 h hs,mV s1 hix hg ht he⟩
theorem mW {i:Nat}{y:Str}{py spos:Pos}(hc:X.calm=true)(S:CScope X scope tN capN caps)(hN:X.N.Nodup)(hi':X.N[i]?=some y)(hy:X.env.scope.names.lookup y=some .local)
 (hi:vw X E tg iter src) (hix:∀ j∈ix,j<tN.length) (hg:∀ cl C s3 H3 fp,xb (bG X scope (tN++capN) cl C s3 H3 fp) ix tg asg) (ht:∀ cl C s3 H3 fp,sF (bG X scope (tN++capN) cl C s3 H3 fp) E0 ifs ft) (he:∀ cl C s3 H3 fp,PD (bG X scope (tN++capN) cl C s3 H3 fp) E0 elt fe)
 (hsw:autoParam (swapsWith (.ListComp elt [⟨tg,iter,ifs,0⟩] scope pos) (some (.Name y py)) spos.line X.env=pure true) autoR._auto_1) (hs:autoParam (∀ x,foldedSetIterable iter X.env x=pure x) autoI._auto_1) :
 p_ X E (.Assign [.Name y py] (.ListComp elt [⟨tg,iter,ifs,0⟩] scope pos) spos) (ca i (bV tN.length caps src asg ft fe)):=by
 obtain⟨wi,p1,s1⟩:=hi
 exact⟨xY (sG X scope tg tN capN caps elt ifs wi) (jc i),fun pins s σ H D I h=>mU hc S hN hi' hy hsw I p1 h hs,oQ (mV s1 hix hg ht he)⟩
end
end L3
namespace L3
open PySem PySem.Spec PyProof.Rows L2
noncomputable def gf (N:List Str)(ds:List D):En:=ds.map (fun d=>some (.val d false))++List.replicate (N.length-ds.length) none
noncomputable def kP:Res Fl->Res R
 | .ok (.nx _)=>.ok (.val .non true [])
 | .ok (.rt r)=>.ok r
 | .ok _=>.stuck
 | .exc c=>.exc c
 | .stuck=>.stuck
noncomputable def cb (N:List Str)(FB:En->Res Fl)(ds:List D):Res R:=kP (FB (gf N ds))
theorem qk {H:Hp}{Ma:Addr->Prop}{ds:List D}{vs:List V}{N:List Str}(is:IsAll H Ma ds vs):Rep (A1 H Ma) (fun a=>Ma a/\H a≠none) (fun _ _=>False) (gf N ds) (L2.eI N vs) H where
 same:=Same.refl H
 froz:=fun a z=>z.2
 inn:=fun a z=>.inr z.1
 fl:=fun a z h=>absurd h z.2
 slot:=fun i sl e=>by
  have hl:=is.length
  unfold gf at e
  by_cases hi:i<ds.length
  ·rw[List.getElem?_append_left (by simpa using hi),List.getElem?_map]at e
   obtain⟨v,ev,iv⟩:=is.get (i:=i) (d:=ds[i]) (by simp[hi])
   have e1:ds[i]?=some ds[i]:=by simp[hi]
   rw[e1]at e
   cases e
   refine⟨v,?_,Is.mono (fun _ _ q _=>q) (fun a o q z=>⟨⟨z,by rw[q];simp⟩,fun z=>by cases z⟩) iv⟩
   unfold L2.eI
   rw[List.getElem?_append_left (by simp;omega),List.getElem?_map,ev];rfl
  ·rw[List.getElem?_append_right (by simpa using hi),List.getElem?_replicate]at e
   split at e<;>cases e
 priv:=fun _ _ z=>z.elim
 apart:=fun _ _ _ z=>z.elim
 ow:=fun _ _ z=>z.elim
 len:=by
  have hl:=is.length
  unfold gf L2.eI
  simp[hl]
 zz:=fun _ z=>z.elim
section
variable {P:Program}{w:World}{K:PySem.W.Frag}{mg:Str->Option Value}{base:Heap}
end
section
variable {X:Cx}{E:XK}
theorem sl_tupW:SlR X (fun x lo hi H Q=>∃ a xs,x=.ref a/\SqT X.K H a xs/\(HT.sIx xs.length 0 lo=0/\HT.sIx xs.length xs.length hi=xs.length)/\Q x H):=by
 intro pins s σ H x v vl vu lo hi sl Q I rx hs pl pu h
 obtain⟨a,xs,rfl,hx,hw,q⟩:=h
 cases rx
 obtain⟨its,r,ht,hz⟩:=I.tuple hx
 have bA:its.toArray.size=xs.length:=by rw[List.size_toArray];exact r.length.symm
 refine⟨"tuple",_,PyProof.Rows.slot_tuple_getitem.lookup,ht.typeIs,?_⟩
 obtain⟨os,hos,hcs,hds⟩:=id hs
 have hTs:s.TypeIs (.ref sl) "slice":=⟨os,hos,hcs⟩
 unfold getItem
 try with_reducible refine wpAny_holding ?_
 first|refine wpAny_bind (wpAny_pure ?_)|skip
 refine wpAny_bind (wpAny_sequenceKey ht.typeIs (by decide) ?_)
 refine wpAny_bind (wpAny_callSpecial?_slot (name:=Str.ofString "__getitem__") ht.typeIs PyProof.Rows.slot_tuple_getitem
  (wpAny_call_entry PyProof.Rows.slot_tuple_getitem ht.typeIs entry_tuple_getitem ?_ (args_tuple_getitem _ _)))
 show wpAny _ _ (Builtin.Tuple.tupleItemsOf (.ref a) >>= _) _ _ s
 refine wpAny_bind (tupleItemsOf_ ht ?_)
 refine wpAny_bind (wpAny_typeOf hTs ?_)
 rw[if_pos (by decide)]
 refine wpAny_bind (HT.sliceApplied_gen hs pl pu ?_)
 have hyes:((((HT.sIx its.toArray.size 0 lo:Nat):Int)==0&&(1:Int)==1&&(HT.sIx its.toArray.size its.toArray.size hi-HT.sIx its.toArray.size 0 lo)==its.toArray.size)=true):=by
  rw[bA,hw.1,hw.2];simp
 show wpAny _ _ (if (((HT.sIx its.toArray.size 0 lo:Nat):Int)==0&&(1:Int)==1&&(HT.sIx its.toArray.size its.toArray.size hi-HT.sIx its.toArray.size 0 lo)==its.toArray.size)=true then _ else _) _ _ s
 rw[if_pos hyes]
 have fin:EP X pins σ Q (.ref a) s:=⟨.ref a,H,I,rfl,q⟩
 refine wpAny_bind (m:=Builtin.Tuple.tupleIsExact (.ref a)) ?_
 unfold Builtin.Tuple.tupleIsExact
 refine wpAny_bind (wpAny_typeOf ht.typeIs ?_)
 refine wpAny_pure ?_
 rw[if_pos (by decide)]
 exact wpAny_bind (wpAny_rule (wpAny_pure ⟨_,rfl,wpAny_pure fin⟩))
end
end L3
namespace L3
open PySem PySem.Spec PyProof.Rows L2
section
variable {X:Cx}{E:XK}
noncomputable def bW {α:Type}(xs:List α)(lo hi:Option Int):List α:=(xs.drop (HT.sIx xs.length 0 lo)).take (HT.sIx xs.length xs.length hi-HT.sIx xs.length 0 lo)
theorem IsAll.cut {H:Hp}{m:Addr->Prop}{ds:List D}{vs:List V}(h:IsAll H m ds vs)(lo hi:Option Int):IsAll H m (bW ds lo hi) (mH vs lo hi):=by
 unfold bW mH
 rw[h.length]
 exact(h.drop _).take _
noncomputable def xc (mg:Str->Option Value)(E:XK)(g:Gd)(M:Addr->Prop)(ρ:Pr)(env:En)(σ:St)(H:Hp)(Q:Option Int->Hp->Prop):Res (Option Int)->Prop
 | .stuck=>False
 | .exc c=>vp mg E g c
 | .ok o=>∀ M' H',Ext M H M' H'->Rep g M' ρ env σ H'->Q o H'
noncomputable def Cs (X:Cx)(E:XK)(e:Option Expr)(f:En->Res (Option Int)):Prop:=∃ t,PO X e t/\∀ g M ρ env σ H Q,Rep g M ρ env σ H->xc X.mg E g M ρ env σ H Q (f env)->t σ H Q
noncomputable def cZ:En->Res (Option Int):=fun _=>.ok none
noncomputable def cE (f:En->Res R):En->Res (Option Int):=fun env=>(f env).bind fun r=>match r.d with
 | .int i=>.ok (some i)
 |_=>.stuck
theorem bn:Cs X E none cZ:=⟨_,u7,fun g M ρ env σ H Q rep p=>p M H (Ext.refl _ _) rep⟩
theorem a_ {e:Expr}{f:En->Res R}(h:PD X E e f):Cs X E (some e) (cE f):=by
 obtain⟨t,p1,s1⟩:=h
 refine⟨_,u8 p1,fun g M ρ env σ H Q rep p=>s1.one rep (P:=fun M H r=>xc X.mg E g M ρ env σ H Q r) p (fun _ _ z=>z) (fun _ _ _ z=>z) (fun M H M' H' r e p=>?_) fun r v M1 H1 e1 rep1 is q=>?_⟩
 ·cases r with
  |stuck=>exact p
  |exc c=>exact p
  |ok o=>exact fun M2 H2 e2=>p M2 H2 (e.trans e2)
 ·cases z:r.d with
  |int i=>
   rw[z]at is;simp only[z]at q
   cases is
   exact⟨i,rfl,q M1 H1 (Ext.refl _ _) rep1⟩
  |_=>simp only[z]at q;exact q.elim
noncomputable def D.ty:D->String
 | .non=>"NoneType" | .bl _=>"bool" | .int _=>"int" | .str _=>"str" | .tup _=>"tuple" | .lst _=>"list" | .dic _ _=>"dict"
noncomputable def DI (K:PySem.W.Frag) (H:Hp) (x:V) (t:Value):Prop:=TyOf K H x t\/(t=.type "dict"/\∃ a,x=.ref a/\DE H a)
theorem Is.ty {H:Hp}{m:Addr->Prop}{d:D}{v:V}{K:PySem.W.Frag}(h:Is H m d v):DI K H v (.type d.ty):=by
 cases d with
 |non=>cases h;exact .inl .non
 |bl b=>cases h;exact .inl (.bl b)
 |int b=>cases h;exact .inl (.int b)
 |str b=>cases h;exact .inl (.str b)
 |tup ds=>obtain⟨a,vs,rfl,h1,_⟩:=h;exact .inl (.tup h1)
 |lst ds=>
  obtain⟨a,vs,rfl,h1,_⟩:=h
  rcases h1 with⟨h1,_⟩|⟨o,h1,_⟩
  ·exact .inl (.lst h1)
  ·exact .inl (.frz h1)
 |dic ks ds=>
  obtain⟨a,kvs,rfl,h1,_⟩:=h
  exact .inr ⟨rfl,a,rfl,h1.1.imp (fun⟨kvs,e,_⟩=>⟨kvs,e⟩) fun⟨kvs,e,_⟩=>⟨kvs,e⟩⟩
noncomputable def rq (T:String)(d:D):Bool:=match d with
 | .non=>T=="NoneType"
 | .bl _=>T=="bool" || T=="int"
 | .int _=>T=="int"
 | .str _=>T=="str"
 | .tup _=>T=="tuple"
 | .lst _=>T=="list"
 | .dic _ _=>T=="dict"
noncomputable def ql (T:String):Prop:=∀(K:PySem.W.Frag)(d:D),PySem.W.kitOne K (.type d.ty) (.type T)=some (rq T d)
theorem mX:ql "int":=fun K d=>by cases d<;>kernel_rfl
theorem qm:ql "bool":=fun K d=>by cases d<;>kernel_rfl
theorem kQ:ql "list":=fun K d=>by cases d<;>kernel_rfl
theorem gg:ql "tuple":=fun K d=>by cases d<;>kernel_rfl
theorem fm:ql "str":=fun K d=>by cases d<;>kernel_rfl
noncomputable def gh (T:String)(fa:En->Res R):En->Res R:=fun env=>(fa env).bind fun r=>.ok (.val (.bl (rq T r.d)) true [])
theorem sH:CallR X (.builtin "isinstance") (fun xs H Q=>∃ x T t b,xs=[x,.ty T]/\DI X.K H x t/\PySem.W.kitOne X.K t (.type T)=some b/\Q (.bl b) H):=by
 intro pins s σ H xs us Q I r h
 obtain⟨x,T,t,b,rfl,ty,e,q⟩:=h
 obtain⟨u,c,rfl,ru,rc⟩:=wY r
 obtain rfl:c=Value.type T:=rc
 rcases ty with ty|⟨rfl,a,rfl,hd⟩
 ·exact pO I ru ty e fun tk=>⟨.bl b,H,I.tok tk,rfl,q⟩
 ·obtain rfl:u=Value.ref a:=ru
  obtain⟨t1,_⟩:=yn I hd
  exact PySem.W.kia_one PySem.W.kitx_dict I.kIn t1 e (fun z=>nomatch z) fun tk=>⟨.bl b,H,I.tok tk,rfl,q⟩
theorem cv {T:Str} {T':String} {e:Expr} {fa:En->Res R} {p q pos:Pos} (hK:ql T') (hg:Gl X "isinstance") (hm:X.mg "isinstance"=none) (hgT:Gl X T) (hmT:X.mg T=none) (hvT:bootBuiltins T=some (.type T')) (ha:PD X E e fa)
 (hnT:autoParam (T≠"__name__") autoD._auto_1) (hdT:autoParam ((T==("__debug__" : Str))=false) autoD._auto_1)
 (he:autoParam (starEach [e,.Name T q] X.env=(false,eval e X.env)::starEach [.Name T q] X.env) autoR._auto_1) (he2:autoParam (starEach [.Name T q] X.env=(false,eval (.Name T q) X.env)::starEach [] X.env) autoR._auto_1) (hpl:autoParam ((backTo pos (starEach [.Name T q] X.env)).any (·.1)=false) autoR._auto_1) :
 PD X E (.Call (.Name "isinstance" p) [e,.Name T q] [] pos) (gh T' fa):=by
 obtain⟨ta,p1,s1⟩:=ha
 refine⟨_,jg sH hg hm (by decide +kernel) (cP p1 (cP (uV hgT hmT hvT (v:=.ty T') rfl hnT hdT) dR he2) he) (by decide) (by decide) he hpl,fun g M ρ env σ H Q rep p=>s1.oneE rep p fun r v M1 H1 e1 rep1 is q=>?_⟩
 exact⟨v,T',_,_,rfl,is.ty,hK X.K r.d,q _ M1 H1 (Ext.refl _ _) rep1 rfl⟩
end
end L3
namespace L3
open PySem PySem.Spec PyProof.Rows L2
section
variable {X:Cx}{E:XK}
noncomputable def c0:List D->Option (List Bool)
 | []=>some []
 | .bl b::r=>(c0 r).map fun bs=>b::bs
 |_::_=>none
noncomputable def mY:List R->Res R
 | [r]=>match r.d with
  | .lst ds=>match c0 ds with
   |some bs=>.ok (.val (.bl (bs.all id)) true [])
   |none=>.stuck
  |_=>.stuck
 |_=>.stuck
theorem kR:∀{ds:List D}{bs:List Bool}{i:Nat}{d:D},c0 ds=some bs->ds[i]?=some d->∃ b,d=.bl b/\bs[i]?=some b
 | [],_,_,_,_,e=>by simp at e
 | .bl b::r,bs,0,d,h,e=>by
  simp at e;subst e
  unfold c0 at h
  cases q:c0 r with
  |none=>rw[q]at h;cases h
  |some bs'=>rw[q]at h;cases h;exact⟨b,rfl,rfl⟩
 | .bl b::r,bs,i+1,d,h,e=>by
  unfold c0 at h
  cases q:c0 r with
  |none=>rw[q]at h;cases h
  |some bs'=>
   rw[q]at h;cases h
   obtain⟨b',e1,e2⟩:=kR (i:=i) q (by simpa using e)
   exact⟨b',e1,by simpa using e2⟩
 | .non::_,_,_,_,h,_=>by cases h
 | .int _::_,_,_,_,h,_=>by cases h
 | .str _::_,_,_,_,h,_=>by cases h
 | .tup _::_,_,_,_,h,_=>by cases h
 | .lst _::_,_,_,_,h,_=>by cases h
theorem kU:∀{ds:List D}{bs:List Bool},c0 ds=some bs->bs.length=ds.length
 | [],_,h=>by cases h;rfl
 | .bl b::r,bs,h=>by
  unfold c0 at h
  cases q:c0 r with
  |none=>rw[q]at h;cases h
  |some bs'=>rw[q]at h;cases h;simp[kU q]
 | .non::_,_,h=>by cases h
 | .int _::_,_,h=>by cases h
 | .str _::_,_,h=>by cases h
 | .tup _::_,_,h=>by cases h
 | .lst _::_,_,h=>by cases h
theorem qo (hc:X.calm=true):CallR X (.builtin "all") (fun xs H Q=>∃(p:Addr)(vs:List V)(bs:List Bool),xs=[.ref p]/\SqL X.K H p vs/\vs=bs.map V.bl/\Q (.bl (bs.all id)) H):=by
 intro pins s σ H xs us Q I r h
 obtain⟨p,vs,bs,rfl,hq,rfl,q⟩:=h
 obtain⟨u,rfl,rx⟩:=gw r
 cases rx
 obtain⟨its,rv,pl,hz⟩:=I.list hq
 have hh:X.A.in1.handled=none:=I.ok.hd hc
 obtain⟨o,ho,_⟩:=pl.isList
 have hlt:p<s.heap.objs.size:=Heap.lt_size ho
 refine call_all_walk (wpAny_pyIter_list pl.isList ?_)
 refine⟨s.heap.objs.size,_,_,_,_,_,fun i=>(bs[i]?).getD true,rfl,Walks.list hh s.heap.objs.size p (Nat.ne_of_lt hlt) its.toArray,⟨⟨_,Heap.get?_push_size _ rfl,rfl,rfl⟩,?_⟩,?_,fun h' tk hk=>?_⟩
 ·exact pl.isList.at fun o e=>Heap.get?_push_of_some _ e
 ·intro i v s' Q' E' hv hQ'
  have hv:its[i]?=some v:=by simpa using hv
  have hi:i<its.length:=(List.getElem?_eq_some_iff.mp hv).1
  have hl:=rv.length
  have hb:i<bs.length:=by simpa using (by rw[List.length_map]at hl;omega:i<bs.length)
  obtain⟨u',hu,ru⟩:=rv.get (i:=i) (x:=.bl bs[i]) (by simp[hb])
  rw[hv]at hu;cases hu
  cases ru
  have eb:bs[i]?=some bs[i]:=by simp[hb]
  dsimp only at hQ'
  rw[eb]at hQ'
  exact wpAny_truthy_bool hQ'
 ·have hl:=rv.length
  rw[List.length_map]at hl
  have e:((List.range its.toArray.size).all fun i=>(bs[i]?).getD true)=bs.all id:=by
   rw[List.size_toArray,<- hl]
   rw[Bool.eq_iff_iff,List.all_eq_true,List.all_eq_true]
   constructor
   ·intro h b hb
    obtain⟨i,hi⟩:=List.mem_iff_getElem?.mp hb
    have:=h i (by simp;exact(List.getElem?_eq_some_iff.mp hi).1)
    rw[hi]at this;exact this
   ·intro h i hi
    have hi:i<bs.length:=by simpa using hi
    have eb:bs[i]?=some bs[i]:=by simp[hi]
    rw[eb]
    exact h _ (List.getElem_mem hi)
  rw[e]
  refine⟨.bl _,H,?_,rfl,q⟩
  have I1:L2.Inv X pins σ H { s with heap:=s.heap.push { cls:=.type "list_iterator",data:=.fields #[.ref p,.int 0 0] } }:=I.kept (t':=s.toks) fun b o e=>Heap.get?_push_of_some _ e
  have fo:=I.fpOk (H':=H) (Nat.le_refl s.heap.objs.size) (I.hok.fresh (Nat.le_refl _))
  exact I1.turned (t':=tk) (it:=s.heap.objs.size) (fun b o hb e=>hk b o (by simpa using hb) e) fo.1 fo.2.1 fo.2.2.2.1 fo.2.2.2.2.1 fo.2.2.2.2.2
theorem jC (hc:X.calm=true):jz X E (.builtin "all") mY:=by
 refine⟨_,qo hc,fun g M ρ env σ H Q rs vs rep i p=>?_⟩
 match rs,i,p with
 | [r],i,p=>
  obtain⟨v,w,rfl,i1,i2⟩:=i
  cases i2
  have i1:Is H (vmsk g M (aT [r]) ρ (bh [r])) r.d v:=i1
  unfold mY at p
  dsimp only at p
  cases q:r.d with
  |lst ds=>
   rw[q]at p i1
   obtain⟨a,ws,rfl,h1,h2⟩:=i1.rd
   dsimp only at p
   cases qb:c0 ds with
   |none=>rw[qb]at p;exact p.elim
   |some bs=>
    rw[qb]at p
    refine⟨a,ws,bs,rfl,.inl h1,?_,p _ M H (Ext.refl _ _) rep rfl⟩
    apply List.ext_getElem?
    intro j
    by_cases hj:j<ds.length
    ·obtain⟨b,e1,e2⟩:=kR (i:=j) (d:=ds[j]) qb (by simp[hj])
     obtain⟨v',ev,iv⟩:=h2.get (i:=j) (d:=ds[j]) (by simp[hj])
     rw[e1]at iv
     cases iv
     rw[ev,List.getElem?_map,e2];rfl
    ·have l1:=h2.length
     have l2:=kU qb
     rw[List.getElem?_eq_none (by omega),List.getElem?_eq_none (by simp;omega)]
  |_=>rw[q]at p;exact p.elim
 | [],_,p=>exact p.elim
 |_::_::_,_,p=>exact p.elim
mutual
theorem Is.sh {H:Hp}{m:Addr->Prop}(hp:∀ a,m a->Mu H a):∀{d:D}{v:V},Is H m d v->IsSh H m d v
 | .non,_,_=>True.intro
 | .bl _,_,_=>True.intro
 | .int _,_,_=>True.intro
 | .str _,_,_=>True.intro
 | .tup ds,_,h=>by
  obtain⟨a,vs,e,h1,h2⟩:=h
  exact⟨a,vs,e,h1,IsAll.sh hp h2⟩
 | .lst ds,_,h=>by
  obtain⟨a,vs,e,h1,h2⟩:=h
  rcases h1 with⟨h1,h3⟩|⟨o,h1,h3⟩
  ·exact⟨a,vs,e,h1,h3⟩
  ·obtain⟨uo,z,zm⟩:=hp a h3;rw[h1]at z;cases z;exact zm.elim
 | .dic _ _,_,_=>True.intro
theorem IsAll.sh {H:Hp}{m:Addr->Prop}(hp:∀ a,m a->Mu H a):∀{ds:List D}{vs:List V},IsAll H m ds vs->IsShs H m ds vs
 | [],_,_=>True.intro
 |d::ds,_,h=>by
  obtain⟨v,r,e,h1,h2⟩:=h
  exact⟨v,r,e,Is.sh hp h1,IsAll.sh hp h2⟩
end
end
end L3
namespace L3
open PySem PySem.Spec PyProof.Rows L2
noncomputable def C6 (K:PySem.W.Frag)(a:Addr):It:=
 ⟨fun i H=>∃ xs x,SqL K H a xs/\xs[i]?=some x,fun i H y H'=>∃ p x,H p=none/\y=.ref p/\H'=bf H p (.tup [.int (i:Nat),x])/\∀ xs,SqL K H a xs->xs[i]?=some x,fun i H=>∃ xs,SqL K H a xs/\xs.length<=i⟩
theorem qp {P:Program}{w:World}{K:PySem.W.Frag}{es:List Expr}{k:Nat}{pos:Pos}(a it e:Addr)(hei:e≠it):Turn P w K (.Tuple es k pos) (C6 K a) [e,it] e (fun i h=>(∃ old,IsEnum h e it i old)/\h.IsListIter it a i) where
 mem:=by simp
 obj:=fun i h st b hb=>by
  obtain⟨⟨old,he⟩,o,ho,c,d⟩:=st
  rcases List.mem_cons.mp hb with rfl|hb
  ·exact⟨_,he,fun v z=>by cases z⟩
  ·have:b=it:=by simpa using hb
   subst this
   exact⟨o,ho,fun v z=>by rw[d]at z;cases z⟩
 keep:=fun i h h' st kk=>by
  obtain⟨⟨old,he⟩,hl⟩:=st
  exact⟨⟨old,kk e (by simp) _ he⟩,hl.at fun o q=>kk it (by simp) o q⟩
 item:=by
  intro X hP hw hK hc i pins s σ H E I hf st hg
  subst hP hw hK
  obtain⟨xs,x,hq,hx⟩:=hg
  obtain⟨⟨old,he⟩,hl⟩:=st
  obtain⟨its,rv,p,hz⟩:=I.list hq
  obtain⟨u,hu,ru⟩:=rv.get hx
  have fe:=hf e (by simp)
  have fi:=hf it (by simp)
  have hai:a≠it:=by
   intro z
   obtain⟨o1,e1,c1,_⟩:=p.isList
   obtain⟨o2,e2,c2,_⟩:=hl
   rw[z,e2]at e1;cases e1
   rw[c2]at c1;injection c1 with z;exact absurd z (by decide)
  have hae:a≠e:=by
   intro z
   obtain⟨o1,e1,c1,_⟩:=p.isList
   rw[z,he]at e1;cases e1;injection c1 with z;exact absurd z (by decide)
  have hh:X.A.in1.handled=none:=I.ok.hd hc
  have hil:i<its.length:=(List.getElem?_eq_some_iff.mp hu).1
  refine wpAny_pyNext_enum_itemD (Draws.list hh it a hai its.toArray) he ⟨hl,p.isList⟩ (by simpa using hil) hei (by simp;exact⟨hei,Ne.symm hae⟩) fun x' h' tk hx' ho hs' hT hsz hk=>?_
  have ex:x'=u:=by
   have:its[i]?=some x':=by simpa using hx'
   rw[hu]at this;exact(Option.some.inj this).symm
  subst ex
  refine⟨_,rfl,wpAny_letOwnedTupleGo_enum ho fun h'' he'' hs''=>?_⟩
  have keep2:∀ b o,b≠e->b≠it->s.heap.get? b=some o->h''.get? b=some o:=fun b o n1 n2 q=>(hs''.2 b n1).trans (hk b o n1 n2 q)
  have hTe:s.heap.objs.size≠e:=Nat.ne_of_gt (Heap.lt_size he)
  have hT'':h''.get? s.heap.objs.size=some { cls:=.type "tuple",data:=.seq #[.int i tk,x'] }:=(hs''.2 _ hTe).trans hT
  have I1:L2.Inv X pins σ (bf H s.heap.objs.size (.tup [.int (i:Nat),x])) { s with heap:=h'',toks:=tk+1 }:=by
   refine I.step (g':=s.gens) (d':=s.drawn) (ch:=[e,it]) (fun b hb=>?_) (fun b o _ _ hn q _=>keep2 b o (fun z=>hn (by simp[z])) (fun z=>hn (by simp[z])) q)
    (fun b o _ _ hn q _=>⟨o.slots,keep2 b o (fun z=>hn (by simp[z])) (fun z=>hn (by simp[z])) q⟩) (fun b o _ q hH=>by rw[aq (Nat.ne_of_lt (Heap.lt_size q))];exact hH)
    (fun b o hn q=>⟨o,keep2 b o (fun z=>hn (by simp[z])) (fun z=>hn (by simp[z])) q⟩) (fun b ys q=>by rw[aq (ak q (I.hok.fresh (Nat.le_refl _)))];exact q)
    (fun b o' u' q=>by rw[aq (ak q (I.hok.fresh (Nat.le_refl _)))];exact q) (fun b ps q=>⟨#[],by rw[aq (ak q (I.hok.fresh (Nat.le_refl _)))];simp[q]⟩) (fun m hm=>?_) (fun b u' q=>?_) I.bare
   ·rcases List.mem_cons.mp hb with rfl|hb
    ·exact⟨fe.2.2.2.1,fe.2.1,fe.2.2.2.2.1,fe.2.2.2.2.2⟩
    ·have:b=it:=by simpa using hb
     subst this
     exact⟨fi.2.2.2.1,fi.2.1,fi.2.2.2.2.1,fi.2.2.2.2.2⟩
   ·obtain⟨o,es',ep,ho',r⟩:=hm
    exact⟨o,es',ep,keep2 _ o (Ne.symm fe.2.1) (Ne.symm fi.2.1) ho',r⟩
   ·by_cases hb:b=s.heap.objs.size
    ·subst hb
     rw[aL]at q;cases q
     refine⟨by show 2<=sizeLine;decide,[.int i tk,x'],.cons ⟨tk,rfl⟩ (.cons ru .nil),⟨_,hT'',rfl,0,rfl⟩⟩
    ·rw[aq hb]at q
     refine(I.hok b u' q).stay (fun c v hc' q'=>keep2 c v ?_ ?_ q') (fun c r=>by rw[aq (ak r (I.hok.fresh (Nat.le_refl _)))];exact r) fun c ys r=>by rw[aq (ak r (I.hok.fresh (Nat.le_refl _)))];exact r
     ·rcases hc' with z|z
      ·rw[z];exact ak q fe.1
      ·exact ak z fe.1
     ·rcases hc' with z|z
      ·rw[z];exact ak q fi.1
      ·exact ak z fi.1
  refine⟨.ref s.heap.objs.size,_,I1,rfl,⟨_,x,I.hok.fresh (Nat.le_refl _),rfl,rfl,fun ys hy=>by rw[I.list_inj hy hq];exact hx⟩,⟨⟨_,by simpa using he''⟩,?_⟩,fun b hb=>?_⟩
  ·obtain⟨o,q,r⟩:=hs'.1
   exact⟨o,(hs''.2 it (Ne.symm hei)).trans q,r⟩
  ·rcases List.mem_cons.mp hb with rfl|hb
   ·rw[aq (Nat.ne_of_lt (Heap.lt_size he))];exact fe.1
   ·have:b=it:=by simpa using hb
    subst this
    obtain⟨o,q,_⟩:=hl
    rw[aq (Nat.ne_of_lt (Heap.lt_size q))];exact fi.1
 done:=by
  intro X hP hw hK hc i pins s σ H E I hf st hg
  subst hP hw hK
  obtain⟨xs,hq,hx⟩:=hg
  obtain⟨⟨old,he⟩,hl⟩:=st
  obtain⟨its,rv,p,hz⟩:=I.list hq
  have fi:=hf it (by simp)
  have hai:a≠it:=by
   intro z
   obtain⟨o1,e1,c1,_⟩:=p.isList
   obtain⟨o2,e2,c2,_⟩:=hl
   rw[z,e2]at e1;cases e1
   rw[c2]at c1;injection c1 with z;exact absurd z (by decide)
  have hh:X.A.in1.handled=none:=I.ok.hd hc
  have hln:=rv.length
  have Dr:Draws X.prog X.w X.A.in1 it [it,a] 0 (fun _ _=>True) (fun _ h=>h.IsListIter it a i/\h.IsList a its.toArray):=
   { live:=fun _ _ st=>let ⟨o,ho,_⟩:=st.1;⟨o,ho⟩
     frame:=fun _ _ _ st hk=>⟨st.1.at fun o e=>hk it (by simp) o e,st.2.at fun o e=>hk a (by simp) o e⟩
     item:=fun i s Q E hi=>absurd hi (by omega)
     done:=fun s Q E st hE=>wpAny_nextOf_list_end hh st.1 st.2 (by simp;omega) hE }
  exact wpAny_pyNext_enum_endD Dr he ⟨hl,p.isList⟩ fun h' eb=>⟨rfl,I.turned (t':=s.toks) (fun b o hb e=>eb b o hb e) fi.1 fi.2.1 fi.2.2.2.1 fi.2.2.2.2.1 fi.2.2.2.2.2⟩
 self:=fun A i s Q E st h=>by
  obtain⟨⟨old,he⟩,_⟩:=st
  exact wpAny_pyIter_enum he h
section
variable {X:Cx}{E:XK}{es:List Expr}{k:Nat}{mr:Pos}
noncomputable def Ba (K:PySem.W.Frag)(ta:TA):TI:=fun σ H R=>ta σ H fun vs H1=>∃ a xs,vs=[.ref a]/\SqL K H1 a xs/\R (C6 K a) H1
theorem vz {l:Expr} {ta:TA} {p pos:Pos} (hg:Gl X "enumerate") (hm:X.mg "enumerate"=none) (ha:PA X [l] ta) (hs:autoParam (starEach [l] X.env=[(false,eval l X.env)]) autoR._auto_1):PI X (.Tuple es k mr) (.Call (.Name "enumerate" p) [l] [] pos) (Ba X.K ta):=by
 intro pins s σ H R I h
 refine Call_ (ic I hg hm (by decide +kernel:bootBuiltins "enumerate"=some (.type "enumerate")) (PyProof.Rows.callWith_type1 (b7 (ha pos pins s σ H _ I h) fun us s1 ⟨vs,H1,I1,r1,q1⟩=>?_) hs rfl))
 obtain⟨a,xs,e,hq,q⟩:=q1
 subst e
 cases r1 with
 |cons r rr=>
  cases rr
  cases r
  obtain⟨its,rv,pl,hz⟩:=I1.list hq
  refine call_enumerate_list pl.isList fun h' he hl hsz kp=>?_
  have I2:L2.Inv X pins σ H1 { s1 with heap:=h' }:=I1.kept (t':=s1.toks) kp
  refine wpAny_pyIter_enum he ?_
  refine⟨s1.heap.objs.size+1,[s1.heap.objs.size+1,s1.heap.objs.size],_,_,H1,rfl,I2,qp a s1.heap.objs.size (s1.heap.objs.size+1) (Nat.succ_ne_self _),⟨⟨_,by simpa using he⟩,hl⟩,fun b hb=>?_,q⟩
  rcases List.mem_cons.mp hb with rfl|hb
  ·exact I1.fpOk (Nat.le_succ _) (I1.hok.fresh (Nat.le_succ _))
  ·have e:b=s1.heap.objs.size:=by simpa using hb
   subst e
   exact I1.fpOk (Nat.le_refl _) (I1.hok.fresh (Nat.le_refl _))
noncomputable def cG:Nat->List D->List D
 |_,[]=>[]
 |n,d::ds=>.tup [.int (n:Nat),d]::cG (n+1) ds
theorem kW:∀(ds:List D)(n i:Nat),(cG n ds)[i]?=(ds[i]?).map fun d=>.tup [.int ((n+i:Nat):Int),d]
 | [],_,_=>by simp[cG]
 |d::ds,n,0=>by simp[cG]
 |d::ds,n,i+1=>by
  have:=kW ds (n+1) i
  simp only[cG,List.getElem?_cons_succ,this]
  congr 1
  funext d
  have e:n+1+i=n+(i+1):=by omega
  rw[e]
theorem kX:∀(ds:List D)(n:Nat),(cG n ds).length=ds.length
 | [],_=>rfl
 |d::ds,n=>by simp[cG,kX ds]
theorem qq {K:PySem.W.Frag}{a:Addr}{m:Addr->Prop}{H:Hp}{ds:List D}{vs:List V}(h:(H a=some (.lst vs)/\m a)\/∃ o,H a=some (.frz o (.lst vs))/\m a)(is:IsAll H m ds vs):Walk (C6 K a) m H (cG 0 ds):=by
 have st:∀ H',(∀ a o,H a=some o->(m a\/fixd o)->H' a=some o)->SqL K H' a vs:=fun H' k=>by
  rcases h with⟨h,hm⟩|⟨o,h,_⟩
  ·exact .inl (.inl (k a _ h (.inl hm)))
  ·exact .inl (.inr ⟨o,k a _ h (.inr True.intro)⟩)
 refine⟨fun H' i d k e=>?_,fun H' k=>⟨vs,st H' k,by rw[is.length,kX];exact Nat.le_refl _⟩⟩
 rw[kW]at e
 cases q:ds[i]? with
 |none=>rw[q]at e;cases e
 |some d0=>
  rw[q]at e
  have e:D.tup [.int ((0+i:Nat):Int),d0]=d:=by simpa using e
  obtain⟨v,ev,iv⟩:=(is.mono k fun _ _ _ z=>z:IsAll H' m ds vs).get q
  refine⟨⟨vs,v,st H' k,ev⟩,fun x H'' y=>?_⟩
  obtain⟨p,x',hp,rfl,rfl,y⟩:=y
  have:=y vs (st _ k)
  rw[ev]at this;cases this
  have sm:Same H' (bf H' p (.tup [.int (i:Nat),v])):=bz hp
  refine⟨sm,?_⟩
  rw[<- e,Nat.zero_add]
  exact⟨p,_,rfl,aL,.int (i:Nat),[v],rfl,rfl,v,[],rfl,Is.same sm iv,rfl⟩
noncomputable def oT (fs:En->Res (List R)):En->Res Src:=fun env=>(fs env).bind fun rs=>match rs with
 | [r]=>match r.d with
  | .lst ds=>.ok ⟨cG 0 ds,r.fr,r.al⟩
  |_=>.stuck
 |_=>.stuck
theorem mZ {l:Expr} {fs:En->Res (List R)} {p pos:Pos} (hg:Gl X "enumerate") (hm:X.mg "enumerate"=none) (ha:rn X E [l] fs) (hs:autoParam (starEach [l] X.env=[(false,eval l X.env)]) autoR._auto_1):vw X E (.Tuple es k mr) (.Call (.Name "enumerate" p) [l] [] pos) (oT fs):=by
 obtain⟨t,p1,s1⟩:=ha
 refine⟨_,vz hg hm p1 hs,fun g M ρ env σ H Rq rep p=>s1.one rep (P:=fun M H r=>PostI X.mg E g M ρ env σ H Rq r) p (fun _ _ z=>z) (fun _ _ _ z=>z) (fun _ _ _ _ _ e p=>p.ext e) fun rs vs M1 H1 e1 rep1 is q=>?_⟩
 match rs,is,q with
 | [r],is,q=>
  obtain⟨v,w,rfl,i1,i2⟩:=is
  cases i2
  have i1:Is H1 (vmsk g M1 (aT [r]) ρ (bh [r])) r.d v:=i1
  replace i1:=i1.weak fun _ z=>oP z
  dsimp only at q
  cases z:r.d with
  |lst ds=>
   rw[z]at i1;rw[z]at q
   dsimp only at q
   obtain⟨a,ws,rfl,h1,h2⟩:=i1
   exact⟨a,ws,rfl,.inl (h1.imp (·.1) fun⟨o,z,_⟩=>⟨o,z⟩),q _ M1 H1 (Ext.refl _ _) rep1 (qq h1 h2)⟩
  |_=>rw[z]at q;exact q.elim
 | [],_,q=>exact q.elim
 |_::_::_,_,q=>exact q.elim
end
end L3
namespace L3
open PySem PySem.Spec PyProof.Rows L2
noncomputable def DJ (osc:Scope)(N:List Str)(scope:Scope)(tN capN:List Str)(caps:List Nat):Bool:=
 (scope.kind==.function)&&scope.names.all (fun y=>y.2 != .cell)&&scope.names.all (fun y=>y.2 != .local || scope.names.lookup y.1==some .local)&&tN.all (fun x=>scope.names.lookup x==some .local) &&
 scope.names.all (fun y=>y.2 != .free || (osc.names.lookup y.1==some .cell || osc.names.lookup y.1==some .free))&&(capN.zip caps).all (fun p=>N[p.2]?==some p.1)&&(caps.length==capN.length) &&
 capN.all (fun y=>osc.names.lookup y==some .cell || osc.names.lookup y==some .free)&&capN.all (fun y=>scope.names.lookup y==some .free)&&decide (tN++capN).Nodup
theorem CScope.of {X:Cx}{osc:Scope}{N:List Str}{scope:Scope}{tN capN:List Str}{caps:List Nat}(h1:X.env.scope=osc)(h2:X.N=N)(h3:DJ osc N scope tN capN caps=true):CScope X scope tN capN caps:=by
 unfold DJ at h3
 simp only[Bool.and_eq_true,List.all_eq_true,Bool.or_eq_true,beq_iff_eq,bne_iff_ne,decide_eq_true_eq,ne_eq]at h3
 obtain⟨⟨⟨⟨⟨⟨⟨⟨⟨a1,a2⟩,a3⟩,a4⟩,a5⟩,a6⟩,a7⟩,a8⟩,a9⟩,a10⟩:=h3
 subst h1 h2
 refine⟨a1,a2,fun y hy hl=>(a3 y hy).resolve_left fun z=>z hl,a4,fun y hy hf=>(a5 y hy).resolve_left fun z=>z hf,⟨fun k y e=>?_,a8,a9,a7⟩,a10⟩
 have hk:k<capN.length:=(List.getElem?_eq_some_iff.mp e).1
 have hk2:k<caps.length:=by omega
 refine⟨caps[k],by simp[hk2],?_⟩
 have hm:(y,caps[k])∈capN.zip caps:=by
  have:(capN.zip caps)[k]?=some (y,caps[k]):=by
   rw[List.getElem?_zip_eq_some]
   exact⟨e,by simp[hk2]⟩
  exact List.mem_of_getElem? this
 exact a6 _ hm
structure Fn (K:PySem.W.Frag) (mg:Str->Option Value) (x:Str) (st:Stmt) (ps:List Str) (f:Addr) (fd:FuncData):Prop where
 fu:Fun K x x st f fd
 bi:Binds K fd ps []
 gl:mg x=some (.ref f)
end L3
namespace L3
open PySem PySem.Spec PyProof.Rows L2
section
variable {X:Cx}{E:XK}
end
end L3
namespace L3
open PySem PySem.Spec PyProof.Rows L2
noncomputable def Ct (F:List D->Res R):Sp:=fun vs H Q _=>vs.length=1/\∃ ds Ma r,IsAll H Ma ds vs/\F ds=.ok r/\∀ v H',Same H H'->RetOk (A1 H Ma) H' v r->Q v H'
theorem jD {H:Hp}{m:Addr->Prop}:∀ ns:List Int,IsAll H m (ns.map D.int) (ns.map V.int)
 | []=>rfl
 |n::r=>⟨.int n,r.map V.int,rfl,rfl,jD r⟩
theorem yC {F:List D->Res R}(hF:∀ ns:List Int,ns.length<=63->∃ f al,F [.lst (ns.map .int)]=.ok (.val (.bl true) f al))(H:Hp)(a:Addr)(ns:List Int)(hl:ns.length<=63)(hS:∃ o,H a=some (.frz o (.lst (ns.map V.int)))) :
 Ct F [.ref a] H (fun v _=>v=.bl true) fun _ _ _=>False:=by
 obtain⟨f,al,e⟩:=hF ns hl
 obtain⟨o,hS⟩:=hS
 exact⟨rfl,[.lst (ns.map .int)],fun b=>b=a,_,⟨_,[],rfl,⟨a,ns.map V.int,rfl,.inr ⟨o,hS,rfl⟩,jD ns⟩,rfl⟩,e,fun v H' _ h=>h⟩
section
variable {P:Program}{w:World}{K:PySem.W.Frag}{mg:Str->Option Value}{base:Heap}
theorem FnOk.top {CX:CXT}{k:Nat}{f:Addr}{fd:FuncData}{ps:List Str}{F:List D->Res R}(h:FnOk P w K mg base CX k f fd ps (ge mg 1 F)):FnOk P w K mg base CX k f fd ps (Ct F):=
 h.imp fun vs H Q E ⟨hl,ds,Ma,r,is,e,q⟩=>⟨hl,ds,Ma,is,by rw[e];exact q⟩
end
end L3
namespace L3
open PySem PySem.Spec PyProof.Rows L2
section
variable {P:Program}{w:World}{K:PySem.W.Frag}{mg:Str->Option Value}{base:Heap}
theorem bo {x qual:Str}{st:Stmt}{f:Addr}{fd:FuncData}{N ps:List Str}{k:Nat}{FB:En->Res Fl}(F:Fun K x qual st f fd)(S:FnScope N ps (defScope st))
 (body:∀(cdv:Value)(A:Around)(outer:List Env)(s:Shared)(H:Hp)(E:XK),Room k (A.deeper (envOfC qual (defScope st) s.heap.objs.size f cdv))->mS (iF P w K mg base N qual (defScope st) f cdv A outer s H E) E (defBody st) FB) :
 FnOk P w K mg base (fR P w) (k+1) f fd ps (ge mg ps.length (cb N FB)):=by
 obtain⟨oc,od,kV,doc,pm,an,cdv,ct,osl,rfl,lk,hcd⟩:=F.ex
 refine w4 lk hcd S (fun vs H Q E h=>h.1) fun A outer s H vs Q E hr hsp=>?_
 obtain⟨hl,ds,Ma,is,post⟩:=hsp
 obtain⟨t,p1,s1⟩:=body cdv A outer s H E hr
 refine⟨t,p1,s1 (A1 H Ma) _ _ (gf N ds) (L2.eI N vs) H _ (qk is) ?_⟩
 unfold cb at post
 cases q:FB (gf N ds) with
 |stuck=>rw[q]at post;exact post
 |exc c=>rw[q]at post;exact post
 |ok r=>
  rw[q]at post
  cases r with
  |nx env=>exact fun σ M' ρ' H' _ rep=>post .non H' rep.same rfl
  |rt r=>exact fun v M' H' _ s ro _=>post v H' s (ro fun _ z=>z)
  |rm r env=>exact post.elim
  |bk env=>exact post.elim
  |ct env=>exact post.elim
theorem jE {X:Cx}:jf (fR P w) X E0:=fun _ _ _ _ _ _ _ h=>by
 obtain⟨_,_,_,_,_,_,_,_,_,_,_,_,_,_,_,z⟩:=h
 exact z.elim
end
theorem yD {P:Program}{w:World}{l:List Env}{H:Hp}{s s':Shared}{e:Value}(h:fR P w l H s (fun _ _ _=>False) e s'):False:=by
 obtain⟨_,_,_,_,_,_,_,_,_,_,_,_,_,_,_,z⟩:=h
 exact z
section
variable {P:Program}{w:World}{K:PySem.W.Frag}{mg:Str->Option Value}{base:Heap}{N:List Str}{qual:Str}{scope:Scope}{f:Addr}{cd:Value}{A:Around}{outer:List Env}{s₀:Shared}{H₀:Hp}{E:XK}
noncomputable def cw (c:Str)(fs:En->Res (List R)):En->Res Fl:=fun env=>(fs env).bind fun rs=>if rs.length<=lim then .exc c else .stuck
theorem bB {c:Str}{C:Addr}{np cpos pos:Pos}{e₀:Expr}{aQ:List Expr}{fs:En->Res (List R)}(hc:XC K mg c C)(hg:Gl (iF P w K mg base N qual scope f cd A outer s₀ H₀ E) c)(ha:rn (iF P w K mg base N qual scope f cd A outer s₀ H₀ E) E (e₀::aQ) fs)
 (he:autoParam (starEach (e₀::aQ) (iF P w K mg base N qual scope f cd A outer s₀ H₀ E).env=(false,eval e₀ (iF P w K mg base N qual scope f cd A outer s₀ H₀ E).env)::starEach aQ (iF P w K mg base N qual scope f cd A outer s₀ H₀ E).env) autoR._auto_1)
 (hpl:autoParam ((backTo cpos (starEach aQ (iF P w K mg base N qual scope f cd A outer s₀ H₀ E).env)).any (·.1)=false) autoR._auto_1) (hd:autoParam ((c==("__debug__" : Str))=false) autoD._auto_1) :
 p_ (iF P w K mg base N qual scope f cd A outer s₀ H₀ E) E (.Raise (some (.Call (.Name c np) (e₀::aQ) [] cpos)) none pos) (cw c fs):=by
 obtain⟨t,p1,s1⟩:=ha
 refine⟨_,rR (EW:=fun H=>E (.ref C) none H) hc hg rfl p1 (fun pins σ H s h' x args I hm hE=>vd I hm hE) he hpl hd,fun g M ρ env σ H D rep p=>?_⟩
 refine s1 g M ρ env σ H _ rep ?_
 unfold cw at p
 cases q:fs env with
 |stuck=>rw[q]at p;exact p
 |exc c'=>rw[q]at p;exact p
 |ok rs=>
  rw[q]at p
  simp only[Res.bind_ok]at p
  intro vs M1 H1 e1 rep1 is
  by_cases hl:rs.length<=lim
  ·rw[if_pos hl]at p
   refine⟨by rw[is.length,List.length_map];exact dl hl,?_⟩
   exact p (.ref C) none H1 hc.gl rep1.same
  ·rw[if_neg hl]at p;exact p.elim
end
section
variable {X:Cx}{E:XK}{hc:Str}{Ch:Addr}{cs:List Str}{np hpos pos epos p cpos:Pos}{b₀:Stmt}{suite:List Stmt}{fsu:En->Res Fl}{k:Nat}{f:Addr}{fd:FuncData}{ps:List Str}{F:List D->Res R}{x:Str}{e:Expr}{es:List Expr}{fs:En->Res (List R)}
end
end L3
namespace L3
open PySem PySem.Spec PyProof.Rows L2
structure ZipNe (z TI TO i1 i2:Addr):Prop where
 TIz:TI≠z
 TOz:TO≠z
 i1z:i1≠z
 i2z:i2≠z
 TITO:TI≠TO
 TIi1:TI≠i1
 TIi2:TI≠i2
 TOi1:TO≠i1
 TOi2:TO≠i2
 i12:i1≠i2
section
variable {h:Heap}{z TI TO i1 i2 a b:Addr}{i:Nat}{its its2:Array Value}
end
theorem yE (n:Nat):ZipNe (n+4) (n+2) (n+3) n (n+1):=
 ⟨(show(n+2:Nat)≠n+4 by omega),(show(n+3:Nat)≠n+4 by omega),(show(n:Nat)≠n+4 by omega),(show(n+1:Nat)≠n+4 by omega),(show(n+2:Nat)≠n+3 by omega),(show(n+2:Nat)≠n by omega),(show(n+2:Nat)≠n+1 by omega),
   (show(n+3:Nat)≠n by omega),(show(n+3:Nat)≠n+1 by omega),(show(n:Nat)≠n+1 by omega)⟩
section
variable {X:Cx}{E:XK}{es:List Expr}{k:Nat}{mr:Pos}
noncomputable def dn:List D->List D->List D
 |d::ds,e::es=>.tup [d,e]::dn ds es
 |_,_=>[]
theorem m5:∀(ds es:List D)(i:Nat),(dn ds es)[i]?=(match ds[i]?,es[i]? with|some d,some e=>some (.tup [d,e])|_,_=>none)
 | [],_,_=>by simp[dn]
 |d::ds,[],i=>by
  simp only[dn,List.getElem?_nil]
  cases (d::ds)[i]?<;>rfl
 |d::ds,e::es,0=>by simp[dn]
 |d::ds,e::es,i+1=>by simp only[dn,List.getElem?_cons_succ];exact m5 ds es i
theorem m6:∀(ds es:List D),(dn ds es).length=min ds.length es.length
 | [],_=>by simp[dn]
 |d::ds,[]=>by simp[dn]
 |d::ds,e::es=>by simp only[dn,List.length_cons,m6 ds es];omega
theorem oU {g:Gd}{M:Addr->Prop}{ρ:Pr}{r q:R}{a:Addr}(h:vmsk g M (aT [r,q]) ρ (bh [r,q]) a):vmsk g M (r.fr&&q.fr) ρ (r.al++q.al) a:=by
 have e1:aT [r,q]=(r.fr&&q.fr):=by simp[aT]
 have e2:bh [r,q]=r.al++q.al:=by simp[bh]
 rw[e1,e2]at h
 exact h
end
section
variable {X:Cx}{E:XK}
end
end L3
namespace L3
open PySem PySem.Spec PyProof.Rows L2
section
variable {X:Cx}{E:XK}
noncomputable def sI (fa:En->Res R):En->Res R:=fun env=>(fa env).bind fun ra=>match ra.d with
 | .int i=>.ok (.val (.int (-i)) true [])
 |_=>.stuck
theorem yF {a:Expr}{fa:En->Res R}{pos:Pos}(ha:PD X E a fa):PD X E (.UnaryOp .USub a pos) (sI fa):=by
 obtain⟨ta,pa,sa⟩:=ha
 refine⟨_,AH ya pa,fun g M ρ env σ H Q rep p=>sa.oneE rep p fun r v M' H' e rep' i p'=>?_⟩
 cases q:r.d with
 |int b=>
  rw[q]at i
  simp only[q]at p'
  cases i
  exact⟨b,rfl,p' _ M' H' (Ext.refl _ _) rep' rfl⟩
 |_=>simp only[q]at p';exact p'.elim
open Classical in
noncomputable def bT (H:Hp)(m:Addr->Prop)(x:D)(u:Value):Bool:=decide (∃ d v,RelV v u/\Is H m d v/\cq d x=true)
theorem kY {H:Hp}{m:Addr->Prop}{x d:D}{v:V}{u:Value}(r:RelV v u)(h:Is H m d v):bT H m x u=cq d x:=by
 unfold bT
 cases q:cq d x with
 |true=>exact @decide_eq_true _ (Classical.propDecidable _) ⟨d,v,r,h,q⟩
 |false=>
  refine @decide_eq_false _ (Classical.propDecidable _) fun⟨d',v',r',h',q'⟩=>?_
  have e:=L2.RelV.inj r r'
  subst e
  have e:=Is.inj h h'
  subst e
  rw[q]at q';cases q'
theorem dG {H:Hp}{m:Addr->Prop}{x:D}:∀{ds:List D}{vs:List V}{us:List Value},IsAll H m ds vs->Vals vs us->us.any (bT H m x)=ds.any fun d=>cq d x
 | [],_,_,h,r=>by cases h;cases r;rfl
 |d::ds,_,_,h,r=>by
  obtain⟨v,w,rfl,h1,h2⟩:=h
  cases r with
  |cons r1 r2=>rw[List.any_cons,List.any_cons,kY r1 h1,dG h2 r2]
noncomputable def yG (neg:Bool)(K:PySem.W.Frag):R2:=fun x y H Q=>∃ p ds vs d m m',y=.ref p/\(SqL K H p vs\/SqT K H p vs)/\IsAll H m ds vs/\Is H m' d x/\(D.deps ds<=50/\d.dep<=50)/\Q (.bl (if neg then !(ds.any fun e=>cq e d) else ds.any fun e=>cq e d)) H
theorem dH {pins:List (Addr×Obj)}{σ:St}{H:Hp}{s:Shared}{m m':Addr->Prop}{d:D}{x:V}{v:Value}{A:Around}(I:L2.Inv X pins σ H s)(hu:A.units+50<cLine)(hx:Is H m' d x)(hE:d.dep<=50)(rx:RelV x v) :
 ∀{ds:List D}{vs:List V}{us:List Value},IsAll H m ds vs->Vals vs us->D.deps ds<=50->∀ u∈us,SeqAt.EqAt A s u v (bT H m d u)
 | [],_,_,h,r,_=>fun u hu=>by cases h;cases r;cases hu
 |e::ds,_,_,h,r,hd=>fun u hm=>by
  obtain⟨y,w,rfl,h1,h2⟩:=h
  have hd':max e.dep (D.deps ds)<=50:=hd
  cases r with
  |cons r1 r2=>
   rcases List.mem_cons.mp hm with rfl|hm
   ·rw[kY r1 h1]
    exact sk I.hok 50 A hu (by omega) (by omega) (by omega) h1 hx r1 rx
   ·exact dH I hu hx hE rx h2 r2 (by omega) u hm
theorem yH (hu:X.A.units+64<cLine):OpR X (compareOp .In) (yG false X.K):=by
 intro pins s σ H x y v u Q I rx ry h
 obtain⟨p,ds,vs,d,m,m',rfl,hq,hi,hx,hd,q⟩:=h
 cases ry
 rcases hq with hq|hq
 ·obtain⟨its,r,pl,hz⟩:=I.list hq
  refine SeqAt.in_listAt (bT H m d) pl.isList (fun w hw=>dH I (by show X.A.units+1+50<cLine;omega) hx hd.2 rx hi r hd.1 w (by simpa using hw)) ⟨.bl _,H,I,rfl,?_⟩
  rw[show its.toArray.any (bT H m d)=its.any (bT H m d) by simp,dG hi r]
  exact q
 ·obtain⟨its,r,pl,hz⟩:=I.tuple hq
  refine SeqAt.in_tupleAt (bT H m d) pl (fun w hw=>dH I (by show X.A.units+1+50<cLine;omega) hx hd.2 rx hi r hd.1 w (by simpa using hw)) ⟨.bl _,H,I,rfl,?_⟩
  rw[show its.toArray.any (bT H m d)=its.any (bT H m d) by simp,dG hi r]
  exact q
theorem qu (hu:X.A.units+64<cLine):OpR X (compareOp .NotIn) (yG true X.K):=by
 intro pins s σ H x y v u Q I rx ry h
 obtain⟨p,ds,vs,d,m,m',rfl,hq,hi,hx,hd,q⟩:=h
 cases ry
 rcases hq with hq|hq
 ·obtain⟨its,r,pl,hz⟩:=I.list hq
  refine SeqAt.notIn_listAt (bT H m d) pl.isList (fun w hw=>dH I (by show X.A.units+1+50<cLine;omega) hx hd.2 rx hi r hd.1 w (by simpa using hw)) ⟨.bl _,H,I,rfl,?_⟩
  rw[show its.toArray.any (bT H m d)=its.any (bT H m d) by simp,dG hi r]
  exact q
 ·obtain⟨its,r,pl,hz⟩:=I.tuple hq
  refine SeqAt.notIn_tupleAt (bT H m d) pl (fun w hw=>dH I (by show X.A.units+1+50<cLine;omega) hx hd.2 rx hi r hd.1 w (by simpa using hw)) ⟨.bl _,H,I,rfl,?_⟩
  rw[show its.toArray.any (bT H m d)=its.any (bT H m d) by simp,dG hi r]
  exact q
noncomputable def xf (neg:Bool)(x:D)(ds:List D):Res R:=if D.deps ds<=50/\x.dep<=50 then .ok (.val (.bl (if neg then !(ds.any fun e=>cq e x) else ds.any fun e=>cq e x)) true []) else .stuck
noncomputable def n8 (neg:Bool)(a b:R):Res R:=match b.d with
 | .lst ds=>xf neg a.d ds
 | .tup ds=>xf neg a.d ds
 |_=>.stuck
noncomputable def DZ:R->R->Res R:=n8 false
noncomputable def yI:R->R->Res R:=n8 true
theorem sJ {neg:Bool}{f:Value->Value->Sem Value}(h:OpR X f (yG neg X.K)):ib X E f (n8 neg):=by
 refine⟨_,h,fun g M ρ env σ H Q ra rb x y rep i1 i2 p=>?_⟩
 unfold n8 at p
 have key:∀ ds,PostE X.mg E g M ρ env σ H Q (xf neg ra.d ds)->(D.deps ds<=50/\ra.d.dep<=50)/\Q (.bl (if neg then !(ds.any fun e=>cq e ra.d) else ds.any fun e=>cq e ra.d)) H:=fun ds p=>by
  unfold xf at p
  by_cases hd:D.deps ds<=50/\ra.d.dep<=50
  ·rw[if_pos hd]at p;exact⟨hd,p _ M H (Ext.refl _ _) rep rfl⟩
  ·rw[if_neg hd]at p;exact p.elim
 cases e2:rb.d with
 |lst ds=>
  rw[e2]at p i2
  obtain⟨a,vs,rfl,h1,h2⟩:=i2.rd
  obtain⟨k1,k2⟩:=key ds p
  exact⟨a,ds,vs,ra.d,_,_,rfl,.inl (.inl h1),h2,i1,k1,k2⟩
 |tup ds=>
  rw[e2]at p i2
  obtain⟨a,vs,rfl,h1,h2⟩:=i2
  obtain⟨k1,k2⟩:=key ds p
  exact⟨a,ds,vs,ra.d,_,_,rfl,.inr (SqT.of h1),h2,i1,k1,k2⟩
 |_=>rw[e2]at p;exact p.elim
theorem Bb (hu:X.A.units+64<cLine):ib X E (compareOp .In) DZ:=sJ (yH hu)
theorem sK (hu:X.A.units+64<cLine):ib X E (compareOp .NotIn) yI:=sJ (qu hu)
end
end L3
namespace L2
open PySem PySem.Spec PySem.Calls PyProof.Rows
section
variable {K:PySem.W.Frag}{x C:Addr}{c:Value}
end
section
variable {X:Cx}{pins:List (Addr×Obj)}{σ:St}{H:Hp}{s:Shared}{x:Addr}{o:Obj}
end
section
variable {X:Cx}{hc:Str}{Ch:Addr}{np hpos pos epos:Pos}{b₀:Stmt}{suite:List Stmt}{ts:Addr->Addr->TS}{te:TX}{e:Expr}{i:Nat}{n:Str}
end
end L2
namespace L2
open PySem PySem.Spec PySem.Calls PyProof.Rows
section
variable {X:Cx}{i iw:Nat}{n y b1 b2:Str}{s1 s2:Str}{py p1 p2 p3 p4 p5 p6 p7 p8 p9 p10 p11 p12 p13 p14 p15 lp:Pos}{j1 j2}{T1:String}{Ch2:Addr}
end
end L2
namespace L3
open PySem PySem.Spec PyProof.Rows L2
section
variable {X:Cx}{E:XK}{i iw:Nat}{n y b1 b2:Str}{s1 s2:Str}{py p1 p2 p3 p4 p5 p6 p7 p8 p9 p10 p11 p12 p13 p14 p15 lp:Pos}{j1 j2}{T1:String}{Ch2:Addr}
variable {hc:Str}{Ch:Addr}{cs:List Str}{np hpos pos epos p cpos:Pos}{k:Nat}{f:Addr}{fd:FuncData}{ps:List Str}{F:List D->Res R}{x:Str}{e:Expr}{es:List Expr}{fs:En->Res (List R)}
end
end L3
namespace L3
open PySem PySem.Spec PyProof.Rows L2
noncomputable def yJ:D->Option Key
 | .int i=>some (.inl i)
 | .str x=>some (.inr x)
 |_=>none
noncomputable def iI:List D->Option (List Key)
 | []=>some []
 |d::ds=>match yJ d,iI ds with
  |some k,some ks=>some (k::ks)
  |_,_=>none
noncomputable def keyT:D->Option (List Key)
 | .tup ds=>iI ds
 |_=>none
noncomputable def xg (t:List (List Key×D))(k:List Key)(d:D):List (List Key×D):=if (t.any fun x=>decide (x.1=k))=true then t.map (fun x=>if x.1=k then (x.1,d) else x) else t++[(k,d)]
section
variable {H:Hp}{m:Addr->Prop}
theorem Is.key {d:D}{v:V}{k:Key}(h:Is H m d v)(e:yJ d=some k):v=kV k:=by
 cases d with
 |int i=>cases e;exact h
 |str x=>cases e;exact h
 |_=>cases e
theorem IsAll.keys:∀{ds:List D}{vs:List V}{ks:List Key},IsAll H m ds vs->iI ds=some ks->vs=ks.map kV
 | [],_,_,h,e=>by cases h;cases e;rfl
 |d::ds,_,ks,h,e=>by
  obtain⟨v,r,rfl,h1,h2⟩:=h
  unfold iI at e
  cases q:yJ d with
  |none=>rw[q]at e;cases e
  |some k=>
   cases q2:iI ds with
   |none=>rw[q,q2]at e;cases e
   |some ks'=>
    rw[q,q2]at e;cases e
    rw[h1.key q,IsAll.keys h2 q2];rfl
theorem Is.keyT {d:D}{v:V}{k:List Key}(h:Is H m d v)(e:L3.keyT d=some k):∃ b,v=.ref b/\H b=some (.tup (k.map kV)):=by
 cases d with
 |tup ds=>
  obtain⟨a,vs,rfl,h1,h2⟩:=h
  have e:iI ds=some k:=e
  rw[IsAll.keys h2 e]at h1
  exact⟨a,rfl,h1⟩
 |_=>cases e
noncomputable def RKV (H:Hp)(m:Addr->Prop):List (List Key×V)->List (List Key×D)->Prop:=Paired fun a b=>a.1=b.1/\Is H m b.2 a.2
theorem RKV.fst {a:List (List Key×V)}{b:List (List Key×D)}(r:RKV H m a b):a.map Prod.fst=b.map Prod.fst:=by
 induction r with
 |nil=>rfl
 |cons h _ ih=>rw[List.map_cons,List.map_cons,ih,h.1]
theorem RKV.snd {a:List (List Key×V)}{b:List (List Key×D)}(r:RKV H m a b):IsAll H m (b.map Prod.snd) (a.map Prod.snd):=by
 induction r with
 |nil=>rfl
 |cons h _ ih=>exact⟨_,_,rfl,h.2,ih⟩
theorem RKV.append {a c:List (List Key×V)}{b d:List (List Key×D)}(r:RKV H m a b)(s:RKV H m c d):RKV H m (a++c) (b++d):=by
 induction r with
 |nil=>exact s
 |cons h _ ih=>exact .cons h ih
theorem RKV.any {a:List (List Key×V)}{b:List (List Key×D)}(r:RKV H m a b)(k:List Key):(a.any fun x=>decide (x.1=k))=(b.any fun x=>decide (x.1=k)):=by
 induction r with
 |nil=>rfl
 |cons h _ ih=>rw[List.any_cons,List.any_cons,ih,h.1]
theorem RKV.repl {a:List (List Key×V)}{b:List (List Key×D)}{k:List Key}{v:V}{d:D}(r:RKV H m a b)(h:Is H m d v):RKV H m (a.map fun x=>if x.1=k then (x.1,v) else x) (b.map fun x=>if x.1=k then (x.1,d) else x):=by
 induction r with
 |nil=>exact .nil
 | @cons p q ps qs hq t ih=>
  refine .cons ?_ ih
  dsimp only
  by_cases e:p.1=k
  ·rw[if_pos e,if_pos (hq.1▸e)];exact⟨hq.1,h⟩
  ·rw[if_neg e,if_neg (fun z=>e (hq.1.trans z))];exact hq
theorem RKV.put {a:List (List Key×V)}{b:List (List Key×D)}{k:List Key}{v:V}{d:D}(r:RKV H m a b)(h:Is H m d v):RKV H m (iS a k v) (xg b k d):=by
 unfold iS xg
 rw[r.any k]
 split
 ·exact r.repl h
 ·exact r.append (.cons ⟨rfl,h⟩ .nil)
end
section
variable {X:Cx}{E:XK}
noncomputable def keyX:D->Option DK
 | .int i=>some (.inl (.inl i))
 | .str x=>some (.inl (.inr x))
 | .tup ds=>(iI ds).map .inr
 |_=>none
noncomputable def kin:DK->DK->Bool
 | .inl _,.inl _=>true
 | .inr _,.inr _=>true
 |_,_=>false
noncomputable def sL (ks:List DK)(k:DK):Bool:=ks.any fun x=>decide (x=k)
noncomputable def sM (neg:Bool)(a:D)(ks:List DK):Res R:=match keyX a with
 |some k=>if ks.all (kin k) then .ok (.val (.bl (if neg then !sL ks k else sL ks k)) true []) else .stuck
 |none=>.stuck
noncomputable def qx (neg:Bool)(a b:R):Res R:=match b.d with
 | .dic ks _=>sM neg a.d ks
 |_=>n8 neg a b
noncomputable def qy:R->R->Res R:=qx false
noncomputable def fS:R->R->Res R:=qx true
noncomputable def yK (neg:Bool):R2:=fun x y H Q=>∃ a o,y=.ref a/\oH H a x o/\Q (.bl (if neg then !o.isSome else o.isSome)) H
theorem yL (hu:X.A.units+64<cLine):OpR X (compareOp .In) (yK false):=by
 intro pins s σ H x y v u Q I rx ry h
 obtain⟨a,o,rfl,g,q⟩:=h
 cases ry
 exact AV (by omega) I g rx fun s' I'=>⟨.bl _,H,I',rfl,q⟩
theorem qz (hu:X.A.units+64<cLine):OpR X (compareOp .NotIn) (yK true):=by
 intro pins s σ H x y v u Q I rx ry h
 obtain⟨a,o,rfl,g,q⟩:=h
 cases ry
 exact rV (by omega) I g rx fun s' I'=>⟨.bl _,H,I',rfl,q⟩
theorem m7 {κ:Type}[DecidableEq κ]{kvs:List (κ×V)}(inj:κ->DK)(hi:∀ a b,inj a=inj b->a=b)(k:κ):(ii kvs k).isSome=sL (kvs.map fun p=>inj p.1) (inj k):=by
 unfold sL
 induction kvs with
 |nil=>rfl
 |cons p r ih=>
  rw[List.map_cons,List.any_cons]
  by_cases e:p.1=k
  ·rw[gx e,decide_eq_true (congrArg inj e)];rfl
  ·rw[gy e,ih,decide_eq_false (fun z=>e (hi _ _ z)),Bool.false_or]
theorem Is.keyX {H:Hp}{m:Addr->Prop}{d:D}{v:V}{k:DK}(h:Is H m d v)(e:L3.keyX d=some k):(∃ k0,k=.inl k0/\v=kV k0)\/∃ k0 b,k=.inr k0/\v=.ref b/\H b=some (.tup (k0.map kV)):=by
 cases d with
 |int i=>cases e;exact .inl ⟨_,rfl,h⟩
 |str x=>cases e;exact .inl ⟨_,rfl,h⟩
 |tup ds=>
  have e:(iI ds).map Sum.inr=some k:=e
  obtain⟨k0,hk,rfl⟩:=Option.map_eq_some_iff.mp e
  obtain⟨b,e1,e2⟩:=Is.keyT (d:=.tup ds) h hk
  exact .inr ⟨k0,b,rfl,e1,e2⟩
 |_=>cases e
theorem vA {H:Hp}{a:Addr}{ks:List DK}{vs:List V}{m:Addr->Prop}{d:D}{x:V}{k:DK}(h:DAt H a ks vs)(hx:Is H m d x)(e:L3.keyX d=some k)(hk:ks.all (kin k)=true):∃ o,oH H a x o/\o.isSome=sL ks k:=by
 rcases hx.keyX e with⟨k0,rfl,rfl⟩|⟨k0,b,rfl,rfl,hb⟩
 ·rcases h with⟨kvs,e1,rfl,rfl⟩|⟨kvs,e1,rfl,rfl⟩
  ·exact⟨_,.inl (.inl ⟨kvs,k0,e1,rfl,rfl⟩),m7 Sum.inl (fun _ _ z=>Sum.inl.inj z) k0⟩
  ·cases kvs with
   |nil=>exact⟨none,.inr (.inl ⟨e1,⟨k0,rfl⟩,rfl⟩),rfl⟩
   |cons p r=>simp[kin]at hk
 ·rcases h with⟨kvs,e1,rfl,rfl⟩|⟨kvs,e1,rfl,rfl⟩
  ·cases kvs with
   |nil=>exact⟨none,.inr (.inr ⟨e1,⟨b,k0,rfl,hb⟩,rfl⟩),rfl⟩
   |cons p r=>simp[kin]at hk
  ·exact⟨_,.inl (.inr ⟨kvs,k0,b,e1,rfl,hb,rfl⟩),m7 Sum.inr (fun _ _ z=>Sum.inr.inj z) k0⟩
theorem sN {neg:Bool}{f:Value->Value->Sem Value}(h1:ib X E f (n8 neg))(h2:OpR X f (yK neg)):ib X E f (qx neg):=by
 obtain⟨r,o1,s1⟩:=h1
 refine⟨_,o1.or h2,fun g M ρ env σ H Q ra rb x y rep i1 i2 p=>?_⟩
 unfold qx at p
 cases q:rb.d with
 |dic ks ds=>
  right
  rw[q]at p i2
  dsimp only at p
  unfold sM at p
  cases q2:keyX ra.d with
  |none=>rw[q2]at p;exact p.elim
  |some k=>
   rw[q2]at p
   dsimp only at p
   by_cases hk:ks.all (kin k)=true
   ·rw[if_pos hk]at p
    obtain⟨a,vs,rfl,h1,h2⟩:=i2
    obtain⟨o,g1,g2⟩:=vA h1.1 i1 q2 hk
    refine⟨a,o,rfl,g1,?_⟩
    rw[g2]
    exact p _ M H (Ext.refl _ _) rep rfl
   ·rw[if_neg hk]at p;exact p.elim
 |_=>
  left
  refine s1 g M ρ env σ H Q ra rb x y rep i1 i2 ?_
  rw[q]at p
  exact p
theorem lK (hu:X.A.units+64<cLine):ib X E (compareOp .In) qy:=sN (Bb hu) (yL hu)
theorem im (hu:X.A.units+64<cLine):ib X E (compareOp .NotIn) fS:=sN (sK hu) (qz hu)
end
end L3
namespace L3
open PySem PySem.Spec PyProof.Rows L2
section
variable {X:Cx}{E:XK}
noncomputable def lL:List R->Res R
 | [r]=>match r.d with
  | .lst ds=>.ok (mkV (.tup ds) r.fr r.al)
  | .tup ds=>.ok (mkV (.tup ds) r.fr r.al)
  |_=>.stuck
 |_=>.stuck
theorem sO:jz X E (.type "tuple") lL:=by
 refine⟨_,kd,fun g M ρ env σ H Q rs vs rep i p=>?_⟩
 match rs,i,p with
 | [r],i,p=>
  obtain⟨v,w,rfl,i1,i2⟩:=i
  cases i2
  have i1:Is H (vmsk g M (aT [r]) ρ (bh [r])) r.d v:=i1
  replace i1:=i1.weak fun _ z=>oP z
  unfold lL at p
  dsimp only at p
  cases q:r.d with
  |lst ds=>
   rw[q]at p i1
   obtain⟨a,ws,rfl,h1,h2⟩:=i1.rd
   exact⟨a,ws,rfl,.inl ⟨.inl h1,fun l hl=>p.tup rep hl h2⟩⟩
  |tup ds=>
   rw[q]at p i1
   have i1':=i1
   obtain⟨a,ws,rfl,h1,h2⟩:=i1
   exact⟨a,ws,rfl,.inr ⟨SqT.of h1,p.val rep i1'⟩⟩
  |_=>rw[q]at p;exact p.elim
 | [],_,p=>exact p.elim
 |_::_::_,_,p=>exact p.elim
noncomputable def C7 (k2:R->R->Res R)(fc:En->Res R)(env:En)(rb:R):R->Res R
 | .val (.bl true) _ _=>(fc env).bind fun rc=>k2 rb rc
 | .val (.bl false) _ _=>.ok (.val (.bl false) true [])
 |_=>.stuck
noncomputable def dq (k1 k2:R->R->Res R)(fa fb fc:En->Res R):En->Res R:=fun env=>(fa env).bind fun ra=>(fb env).bind fun rb=>(k1 ra rb).bind (C7 k2 fc env rb)
theorem k9 {r r':R2}{k1 k2:R->R->Res R}{ta tb tc:TE}{fa fb fc:En->Res R}{mg:Str->Option Value}
 (h1:∀ g M ρ env σ H Q ra rb x y,Rep g M ρ env σ H->Is H (vmsk g M ra.fr ρ ra.al) ra.d x->Is H (vmsk g M rb.fr ρ rb.al) rb.d y->PostE mg E g M ρ env σ H Q (k1 ra rb)->r x y H Q)
 (h2:∀ g M ρ env σ H Q ra rb x y,Rep g M ρ env σ H->Is H (vmsk g M ra.fr ρ ra.al) ra.d x->Is H (vmsk g M rb.fr ρ rb.al) rb.d y->PostE mg E g M ρ env σ H Q (k2 ra rb)->r' x y H Q)
 (sa:Snd mg E ta fa) (sb:Snd mg E tb fb) (sc:Snd mg E tc fc):Snd mg E (nM r r' ta tb tc) (dq k1 k2 fa fb fc):=by
 intro g M ρ env σ H Q rep p
 refine sa.twoE sb rep p fun ra rb x y M1 H1 rep1 i1 i2 p1=>?_
 refine h1 g M1 ρ env σ H1 _ ra rb x y rep1 i1 i2 ?_
 cases q:k1 ra rb with
 |stuck=>rw[q]at p1;exact p1
 |exc c=>rw[q]at p1;exact p1
 |ok rr=>
  rw[q]at p1
  have p1:PostE mg E g M1 ρ env σ H1 Q (C7 k2 fc env rb rr):=p1
  unfold C7 at p1
  intro v M2 H2 e2 rep2 ro
  split at p1
  ·cases (show v=.bl true from ro)
   refine⟨true,rfl,ly ?_⟩
   have p2:=PostE.ext e2 p1
   have i2':=Is.ext e2 i2
   refine sc.oneE rep2 p2 fun rc z M3 H3 e3 rep3 i3 p3=>?_
   exact h2 g M3 ρ env σ H3 Q rb rc y z rep3 (Is.ext e3 i2') i3 p3
  ·cases (show v=.bl false from ro)
   exact⟨false,rfl,mJ (p1 (.bl false) M2 H2 e2 rep2 rfl)⟩
  ·exact p1.elim
theorem jF {a b c:Expr}{fa fb fc:En->Res R}{op op':CmpOp}{k1 k2:R->R->Res R}{pos:Pos}(ho:ib X E (compareOp op) k1)(ho':ib X E (compareOp op') k2)(ha:PD X E a fa)(hb:PD X E b fb)(hc:PD X E c fc)
 (hm:lastMarks [op,op'] [b,c]=false:=by with_unfolding_all rfl):PD X E (.Compare a [op,op'] [b,c] pos) (dq k1 k2 fa fb fc):=by
 obtain⟨r,o1,h1⟩:=ho
 obtain⟨r',o2,h2⟩:=ho'
 obtain⟨ta,pa,sa⟩:=ha
 obtain⟨tb,pb,sb⟩:=hb
 obtain⟨tc,pc,sc⟩:=hc
 exact⟨_,rE o1 o2 pa pb pc hm,k9 h1 h2 sa sb sc⟩
theorem qA {a b c:Expr}{fa fb fc:En->Res R}{op op':CmpOp}{k1 k2:R->R->Res R}{pos:Pos}(ho:ib X E (compareOp op) k1)(ho':ib X E (compareOp op') k2)(ha:PD X E a fa)(hb:PD X E b fb)(hc:PD X E c fc)
 (hm:lastMarks [op,op'] [b,c]=false:=by with_unfolding_all rfl):rp X E (.Compare a [op,op'] [b,c] pos) (vB (dq k1 k2 fa fb fc)):=by
 obtain⟨r,o1,h1⟩:=ho
 obtain⟨r',o2,h2⟩:=ho'
 obtain⟨ta,pa,sa⟩:=ha
 obtain⟨tb,pb,sb⟩:=hb
 obtain⟨tc,pc,sc⟩:=hc
 have S:=k9 h1 h2 sa sb sc
 refine⟨_,rF o1 o2 pa pb pc hm,fun g M ρ env σ H Q rep p=>S.oneT rep p fun r v M' H' e rep' i p'=>?_⟩
 cases q:r.d with
 |bl b=>
  rw[q]at i
  simp only[q]at p'
  cases i
  exact⟨b,rfl,p' M' H' (Ext.refl _ _) rep'⟩
 |_=>simp only[q]at p';exact p'.elim
end
end L3
namespace L3
open PySem PySem.Spec PyProof.Rows L2
end L3
namespace L3
open PySem PySem.Spec PyProof.Rows L2
section
variable {X:Cx}{E:XK}
end
end L3
namespace L3
open PySem PySem.Spec PyProof.Rows L2
section
variable {H:Hp}{m:Addr->Prop}
end
section
variable {X:Cx}{E:XK}
end
end L3
namespace L3
open PySem PySem.Spec PyProof.Rows L2
section
variable {H H':Hp}{m m':Addr->Prop}
end
section
variable {g:Gd}{M:Addr->Prop}{ρ:Pr}{env:En}{σ:St}{H:Hp}{d:Addr}{o:Obj}{u:HO}
open Classical in
end
section
variable {X:Cx}{E:XK}{tg:Expr}
end
end L3
namespace L3
open PySem PySem.Spec PyProof.Rows L2
section
variable {X:Cx}{E:XK}{tg:Expr}
end
noncomputable def Bc (t:List (Key×D))(k:Key)(d:D):List (Key×D):=if (t.any fun x=>decide (x.1=k))=true then t.map (fun x=>if x.1=k then (x.1,d) else x) else t++[(k,d)]
section
variable {H:Hp}{m:Addr->Prop}
noncomputable def REK (H:Hp)(m:Addr->Prop):List (Key×V)->List (Key×D)->Prop:=Paired fun a b=>a.1=b.1/\Is H m b.2 a.2
theorem REK.fst {a:List (Key×V)}{b:List (Key×D)}(r:REK H m a b):a.map Prod.fst=b.map Prod.fst:=by
 induction r with
 |nil=>rfl
 |cons h _ ih=>rw[List.map_cons,List.map_cons,ih,h.1]
theorem REK.snd {a:List (Key×V)}{b:List (Key×D)}(r:REK H m a b):IsAll H m (b.map Prod.snd) (a.map Prod.snd):=by
 induction r with
 |nil=>rfl
 |cons h _ ih=>exact⟨_,_,rfl,h.2,ih⟩
theorem REK.of:∀{a:List (Key×V)}{b:List (Key×D)},a.map Prod.fst=b.map Prod.fst->IsAll H m (b.map Prod.snd) (a.map Prod.snd)->REK H m a b
 | [],[],_,_=>.nil
 | [],_::_,e,_=>by cases e
 |_::_,[],e,_=>by cases e
 |p::a,q::b,e,h=>by
  obtain⟨v,r,z,h1,h2⟩:=h
  cases z
  simp only[List.map_cons,List.cons.injEq]at e
  exact .cons ⟨e.1,h1⟩ (REK.of e.2 h2)
theorem REK.append {a c:List (Key×V)}{b d:List (Key×D)}(r:REK H m a b)(s:REK H m c d):REK H m (a++c) (b++d):=by
 induction r with
 |nil=>exact s
 |cons h _ ih=>exact .cons h ih
theorem REK.any {a:List (Key×V)}{b:List (Key×D)}(r:REK H m a b)(k:Key):(a.any fun x=>decide (x.1=k))=(b.any fun x=>decide (x.1=k)):=by
 induction r with
 |nil=>rfl
 |cons h _ ih=>rw[List.any_cons,List.any_cons,ih,h.1]
theorem REK.repl {a:List (Key×V)}{b:List (Key×D)}{k:Key}{v:V}{d:D}(r:REK H m a b)(h:Is H m d v):REK H m (a.map fun x=>if x.1=k then (x.1,v) else x) (b.map fun x=>if x.1=k then (x.1,d) else x):=by
 induction r with
 |nil=>exact .nil
 | @cons p q ps qs hq t ih=>
  refine .cons ?_ ih
  dsimp only
  by_cases e:p.1=k
  ·rw[if_pos e,if_pos (hq.1▸e)];exact⟨hq.1,h⟩
  ·rw[if_neg e,if_neg (fun z=>e (hq.1.trans z))];exact hq
theorem REK.put {a:List (Key×V)}{b:List (Key×D)}{k:Key}{v:V}{d:D}(r:REK H m a b)(h:Is H m d v):REK H m (iS a k v) (Bc b k d):=by
 unfold iS Bc
 rw[r.any k]
 split
 ·exact r.repl h
 ·exact r.append (.cons ⟨rfl,h⟩ .nil)
theorem REK.flat {m':Addr->Prop}{a:List (Key×V)}{b:List (Key×D)}(hf:D.flats (b.map Prod.snd)=true)(r:REK H m a b):REK H m' a b:=REK.of r.fst (IsAll.flat hf r.snd)
end
section
variable {X:Cx}{E:XK}
end
end L3
namespace L3
open PySem PySem.Spec PyProof.Rows L2
theorem REK.length {H:Hp}{m:Addr->Prop}{a:List (Key×V)}{b:List (Key×D)}(r:REK H m a b):a.length=b.length:=Paired.length r
section
variable {X:Cx}{E:XK}
end
end L3
namespace L3
open PySem PySem.Spec PyProof.Rows L2
noncomputable abbrev Tri:=Int×Int×Int
noncomputable def dd (l:List Int)(x:Int):List Int:=if x∈l then l else l++[x]
noncomputable def sP (xs:List Int):List Int:=xs.foldl dd []
noncomputable def g1 (ts:List Tri):List Int:=sP (ts.map (·.1))
noncomputable def g2 (ts:List Tri)(x:Int):List Int:=sP ((ts.filter fun t=>decide (t.1=x)).map (·.2.1))
noncomputable def g3 (ts:List Tri)(x y:Int):List Int:=(ts.filter fun t=>decide (t.1=x)&&decide (t.2.1=y)).map (·.2.2)
noncomputable def ik (i:Int):DK:=.inl (.inl i)
noncomputable def Bd (ts:List Tri)(x:Int):D:=.dic ((g2 ts x).map ik) ((g2 ts x).map fun y=>.lst ((g3 ts x y).map .int))
noncomputable def C8 (ts:List Tri):D:=.dic ((g1 ts).map ik) ((g1 ts).map (Bd ts))
noncomputable def kvI (l:List Int)(A:Int->Addr):List (Key×V):=l.map fun x=>(.inl x,.ref (A x))
structure Gr (H:Hp) (a:Addr) (ts:List Tri) (A:Int->Addr) (B:Int->Int->Addr):Prop where
 root:H a=some (.dK (kvI (g1 ts) A))\/(g1 ts=[]/\H a=some (.dT []))
 inn:∀ x∈g1 ts,H (A x)=some (.dK (kvI (g2 ts x) (B x)))
 leaf:∀ x y,y∈g2 ts x->H (B x y)=some (.lst ((g3 ts x y).map .int))
 d1:∀ x∈g1 ts,A x≠a
 d2:∀ x∈g1 ts,∀ x'∈g1 ts,A x=A x'->x=x'
 d3:∀ x y,y∈g2 ts x->∀ x' y',y'∈g2 ts x'->B x y=B x' y'->x=x'/\y=y'
noncomputable def Cu (a:Addr)(ts:List Tri)(A:Int->Addr)(B:Int->Int->Addr)(b:Addr):Prop:=b=a\/(∃ x∈g1 ts,b=A x)\/∃ x y,y∈g2 ts x/\b=B x y
section
variable {H:Hp}{a:Addr}{ts:List Tri}{A:Int->Addr}{B:Int->Int->Addr}{x y z:Int}
end
theorem cX {H:Hp}{m:Addr->Prop}{F:Int->D}{G:Int->V}:∀{l:List Int},(∀ x∈l,Is H m (F x) (G x))->IsAll H m (l.map F) (l.map G)
 | [],_=>rfl
 |x::l,h=>⟨_,_,rfl,h x List.mem_cons_self,cX fun y hy=>h y (List.mem_cons_of_mem _ hy)⟩
theorem jG {H:Hp}{m:Addr->Prop}:∀(k:List Int),IsAll H m (k.map .int) (k.map .int)
 | []=>rfl
 |i::k=>⟨.int i,_,rfl,rfl,jG k⟩
theorem Gr.is {H:Hp}{a:Addr}{ts:List Tri}{A:Int->Addr}{B:Int->Int->Addr}(G:Gr H a ts A B):Is H (Cu a ts A B) (C8 ts) (.ref a):=by
 have keys:∀(l:List Int)(C:Int->Addr),l.map ik=(kvI l C).map (fun p=>.inl p.1):=fun l C=>by unfold kvI;rw[List.map_map];rfl
 have vals:∀(l:List Int)(C:Int->Addr),(kvI l C).map Prod.snd=l.map fun x=>.ref (C x):=fun l C=>by unfold kvI;rw[List.map_map];rfl
 have inner:∀ x∈g1 ts,Is H (Cu a ts A B) (Bd ts x) (.ref (A x)):=fun x hx=>by
  refine⟨A x,(g2 ts x).map fun y=>.ref (B x y),rfl,⟨.inl ⟨_,.inl (G.inn x hx),keys _ _,(vals _ _).symm⟩,.inr (.inl ⟨x,hx,rfl⟩)⟩,cX fun y hy=>?_⟩
  exact⟨B x y,_,rfl,.inl ⟨G.leaf x y hy,.inr (.inr ⟨x,y,hy,rfl⟩)⟩,jG _⟩
 refine⟨a,(g1 ts).map fun x=>.ref (A x),rfl,⟨?_,.inl rfl⟩,cX inner⟩
 rcases G.root with q|⟨q,e⟩
 ·exact .inl ⟨_,.inl q,keys _ _,(vals _ _).symm⟩
 ·rw[q];exact .inr ⟨[],.inl e,rfl,rfl⟩
end L3
namespace L3
open PySem PySem.Spec PyProof.Rows L2
end L3
namespace L3
open PySem PySem.Spec PyProof.Rows L2
section
variable {X:Cx}{E:XK}{tg:Expr}
end
end L3
namespace L3
open PySem PySem.Spec PyProof.Rows L2
end L3
namespace L3
open PySem PySem.Spec PyProof.Rows L2
section
variable {X:Cx}
end
section
variable {g:Gd}{M M2 M':Addr->Prop}{ρ:Pr}{env:En}{σ:St}{H H1 H':Hp}{d:Addr}{o:Obj}{u:HO}{m m':Addr->Prop}
end
section
variable {X:Cx}{E:XK}{scope:Scope}{tg:Expr}{tN:List Str}{capN:List Str}{caps:List Nat}{ix:List Nat}{asg:D->Bool->En->Option En}{elt iter:Expr}{pos:Pos}{ifs:List Expr}{f:En->Res R}{ft:En->Res Bool}{fe:En->Res R}
end
section
variable {X:Cx}{E:XK}{g:Gd}{M:Addr->Prop}{ρ:Pr}{env:En}{σ:St}{H:Hp}{D:Ends}{d:Addr}{o:Obj}{u:HO}
end
end L3
namespace L3
open PySem PySem.Spec PyProof.Rows L2
open Classical in
section
variable {P:Program}{w:World}{K:PySem.W.Frag}{mg:Str->Option Value}{base:Heap}
end
section
variable {X:Cx}{E:XK}
end
end L3
namespace L3
open PySem PySem.Spec PyProof.Rows L2
theorem C9 {n c:Nat}(h:n+64<c):n+1<c:=by omega
noncomputable def Be (l:List Int):D:=.dic ((sP l).map ik) ((sP l).map fun _=>.bl true)
noncomputable def Bf (ts:List Tri)(x:Int):D:=.dic ((g2 ts x).map ik) ((g2 ts x).map fun y=>Be (g3 ts x y))
noncomputable def C_ (ts:List Tri):D:=.dic ((g1 ts).map ik) ((g1 ts).map (Bf ts))
noncomputable def kvT (l:List Int):List (Key×V):=(sP l).map fun z=>(.inl z,.bl true)
structure Gq (H:Hp) (a:Addr) (ts:List Tri) (A:Int->Addr) (B:Int->Int->Addr):Prop where
 root:H a=some (.dK (kvI (g1 ts) A))\/(g1 ts=[]/\H a=some (.dT []))
 inn:∀ x∈g1 ts,H (A x)=some (.dK (kvI (g2 ts x) (B x)))
 leaf:∀ x y,y∈g2 ts x->H (B x y)=some (.dK (kvT (g3 ts x y)))
 d1:∀ x∈g1 ts,A x≠a
 d2:∀ x∈g1 ts,∀ x'∈g1 ts,A x=A x'->x=x'
 d3:∀ x y,y∈g2 ts x->∀ x' y',y'∈g2 ts x'->B x y=B x' y'->x=x'/\y=y'
 d4:∀ u∈g1 ts,∀ x y,y∈g2 ts x->A u≠B x y
 d5:∀ x y,y∈g2 ts x->B x y≠a
section
variable {H:Hp}{a:Addr}{ts:List Tri}{A:Int->Addr}{B:Int->Int->Addr}{x y z:Int}
end
theorem Gq.is {H:Hp}{a:Addr}{ts:List Tri}{A:Int->Addr}{B:Int->Int->Addr}(G:Gq H a ts A B):Is H (Cu a ts A B) (C_ ts) (.ref a):=by
 have keys:∀(l:List Int)(C:Int->Addr),l.map ik=(kvI l C).map (fun p=>.inl p.1):=fun l C=>by unfold kvI;rw[List.map_map];rfl
 have vals:∀(l:List Int)(C:Int->Addr),(kvI l C).map Prod.snd=l.map fun x=>.ref (C x):=fun l C=>by unfold kvI;rw[List.map_map];rfl
 have inner:∀ x∈g1 ts,Is H (Cu a ts A B) (Bf ts x) (.ref (A x)):=fun x hx=>by
  refine⟨A x,(g2 ts x).map fun y=>.ref (B x y),rfl,⟨.inl ⟨_,.inl (G.inn x hx),keys _ _,(vals _ _).symm⟩,.inr (.inl ⟨x,hx,rfl⟩)⟩,cX fun y hy=>?_⟩
  refine⟨B x y,(kvT (g3 ts x y)).map Prod.snd,rfl,⟨.inl ⟨_,.inl (G.leaf x y hy),?_,rfl⟩,.inr (.inr ⟨x,y,hy,rfl⟩)⟩,?_⟩
  ·unfold kvT;rw[List.map_map];rfl
  ·unfold kvT;rw[List.map_map];exact cX fun _ _=>rfl
 refine⟨a,(g1 ts).map fun x=>.ref (A x),rfl,⟨?_,.inl rfl⟩,cX inner⟩
 rcases G.root with q|⟨q,e⟩
 ·exact .inl ⟨_,.inl q,keys _ _,(vals _ _).symm⟩
 ·rw[q];exact .inr ⟨[],.inl e,rfl,rfl⟩
section
variable {X:Cx}{E:XK}{tg:Expr}
end
end L3
namespace L3
open PySem PySem.Spec PyProof.Rows L2
section
variable {X:Cx}{E:XK}
noncomputable def cp (i:Nat)(f:En->Res R):En->Res Fl:=fun env=>(f env).bind fun r=>if i<env.length then .ok (.nx ((frz env r.al).set i (some (.val r.d r.fr)))) else .stuck
theorem aU {i:Nat}{x:Str}{e:Expr}{f:En->Res R}{pos pos':Pos}(hN:X.N.Nodup)(hi:X.N[i]?=some x)(hx:xM X.env.scope x)(h:PD X E e f)(hs:autoParam (swapsWith e (some (.Name x pos')) pos.line X.env=pure false) autoR._auto_1)
 (hf:autoParam (X.fn x=true\/X.env.scope.names.lookup x=some .local) autoF._auto_1):p_ X E (.Assign [.Name x pos'] e pos) (cp i f):=by
 obtain⟨t,p1,s1⟩:=h
 refine⟨_,rC hN hi hx p1 hs hf,fun g M ρ env σ H D rep p=>?_⟩
 refine s1.oneS rep p fun r v M' H' e rep' ro p'=>?_
 by_cases hi:i<env.length
 ·rw[if_pos hi]at p'
  obtain⟨M2,x2,x2m,rep2,is2⟩:=ro.is rep' e rep.same
  obtain⟨M3,ρ3,x3,rep3,o3,_,_⟩:=Rep.frz r.al rep2
  have rep4:=rep3.put (i:=i) (sl:=.val r.d r.fr) (T:=fun _=>False) (by rw[lH];exact hi) (Is.frozen rep2 x3 o3 is2) (fun _ z=>z.elim) fun _ z=>z.elim
  exact p' _ M3 _ H' ⟨fun a z=>x3 a (x2m a z),fun _ _ q _=>q⟩ rep4
 ·rw[if_neg hi]at p';exact p'.elim
theorem qv (i:Nat) {x:Str} {pos:Pos} (hN:autoParam (X.N[i]?=some x) autoR._auto_1) (hv:autoParam (Vis X.env.scope x) autoG._auto_1) (hd:autoParam ((x==("__debug__" : Str))=false) autoD._auto_1)
 (hc:autoParam ((x==("__classdict__" : Str))=false) autoD._auto_1):PD X E (.Name x pos) (ah i):=yt (pv i hN hv hd hc)
end
end L3
namespace L2
open PySem PySem.Spec PyProof.Rows
section
variable {X:Cx}
noncomputable def Da:V->Option Int->Option Int->Hp->VK->Prop:=fun x lo hi H Q=>∃ z,x=.str z/\z.length<=sizeLine/\Q (.str (Txt.slice z lo hi)) H
theorem yM:SlR X Da:=by
 intro pins s σ H x v vl vu lo hi sl Q I rx hs pl pu h
 obtain⟨z,rfl,hz,q⟩:=h
 obtain⟨t,rfl⟩:=rx
 obtain⟨o,e1,e2,e3⟩:=hs
 refine⟨"str",_,slot_str_getitem.lookup,typeIs_str _ _ _,?_⟩
 have fin:∀ t' k,EP X pins σ Q (.str (Txt.slice z lo hi) t') { s with toks:=k }:=fun t' k=>⟨.str _,H,I.tok _,⟨_,rfl⟩,q⟩
 have hl:=Nat.le_trans (Txt.slice_le z lo hi) hz
 cases pl with
 |none=>cases pu with
  |none=>exact wpAny_getItem_str_slice (l:=none) (u:=none) (st:=none) ⟨o,e1,e2,e3⟩ rfl (post_val_or_str ⟨hl,fin⟩)
  |int j u=>exact wpAny_getItem_str_slice (l:=none) (u:=some (j,u)) (st:=none) ⟨o,e1,e2,e3⟩ rfl (post_val_or_str ⟨hl,fin⟩)
 |int i t1=>cases pu with
  |none=>exact wpAny_getItem_str_slice (l:=some (i,t1)) (u:=none) (st:=none) ⟨o,e1,e2,e3⟩ rfl (post_val_or_str ⟨hl,fin⟩)
  |int j u=>exact wpAny_getItem_str_slice (l:=some (i,t1)) (u:=some (j,u)) (st:=none) ⟨o,e1,e2,e3⟩ rfl (post_val_or_str ⟨hl,fin⟩)
end
end L2
namespace L3
open PySem PySem.Spec PyProof.Rows L2
section
variable {X:Cx}{E:XK}
noncomputable def fq (r:R)(lo hi:Option Int):Res R:=match r.d with
 | .lst xs=>.ok (jr (bW xs lo hi) r.fr r.al)
 | .tup xs=>.ok (mkV (.tup (bW xs lo hi)) r.fr r.al)
 | .str z=>if z.length<=lim then .ok (.val (.str (Txt.slice z lo hi)) true []) else .stuck
 |_=>.stuck
noncomputable def bg (fa:En->Res R)(fl fh:En->Res (Option Int)):En->Res R:=fun env=>(fa env).bind fun r=>(fl env).bind fun lo=>(fh env).bind fun hi=>fq r lo hi
theorem aS {e:Expr}{lo hi:Option Expr}{fa:En->Res R}{fl fh:En->Res (Option Int)}{p2 pos:Pos}(ha:PD X E e fa)(hl:Cs X E lo fl)(hh:Cs X E hi fh):PD X E (.Subscript e (.Slice lo hi none p2) pos) (bg fa fl fh):=by
 obtain⟨ta,p1,s1⟩:=ha
 obtain⟨tl,p2,s2⟩:=hl
 obtain⟨th,p3,s3⟩:=hh
 refine⟨_,rK (sl_list.or (sl_tup.or (sl_tupW.or yM))) p1 p2 p3,fun g M ρ env σ H Q rep p=>s1.oneE rep p fun r v M1 H1 e1 rep1 is q=>?_⟩
 refine s2 g M1 ρ env σ H1 _ rep1 ?_
 cases z1:fl env with
 |stuck=>rw[z1]at q;exact q
 |exc c=>rw[z1]at q;exact q
 |ok lo'=>
  rw[z1]at q
  intro M2 H2 e2 rep2
  have q2:PostE X.mg E g M2 ρ env σ H2 Q ((fh env).bind fun hi=>fq r lo' hi):=PostE.ext e2 q
  refine s3 g M2 ρ env σ H2 _ rep2 ?_
  cases z2:fh env with
  |stuck=>rw[z2]at q2;exact q2
  |exc c=>rw[z2]at q2;exact q2
  |ok hi'=>
   rw[z2]at q2
   intro M3 H3 e3 rep3
   have q3:PostE X.mg E g M3 ρ env σ H3 Q (fq r lo' hi'):=PostE.ext e3 q2
   have is3:=(is.ext e2).ext e3
   unfold fq at q3
   cases z:r.d with
   |lst xs=>
    rw[z]at q3 is3
    obtain⟨a,vs,rfl,h1,h2⟩:=is3.rd
    exact .inl ⟨a,vs,rfl,.inl h1,fun p hp=>q3.lst rep3 hp (h2.cut lo' hi')⟩
   |tup xs=>
    rw[z]at q3 is3
    have is4:=is3
    obtain⟨a,vs,rfl,h1,h2⟩:=is3
    by_cases hw:HT.sIx vs.length 0 lo'=0/\HT.sIx vs.length vs.length hi'=vs.length
    ·have ec:bW xs lo' hi'=xs:=by
      unfold bW
      rw[<- h2.length,hw.1,hw.2,h2.length]
      simp
     dsimp only at q3
     rw[ec]at q3
     exact .inr (.inr (.inl ⟨a,vs,rfl,SqT.of h1,hw,q3.val rep3 is4⟩))
    ·exact .inr (.inl ⟨a,vs,rfl,SqT.of h1,hw,fun p hp=>q3.tup rep3 hp (h2.cut lo' hi')⟩)
   |str y=>
    rw[z]at q3 is3
    dsimp only at q3
    by_cases hw:y.length<=lim
    ·rw[if_pos hw]at q3
     cases is3
     exact .inr (.inr (.inr ⟨y,rfl,dl hw,q3 _ M3 H3 (Ext.refl _ _) rep3 rfl⟩))
    ·rw[if_neg hw]at q3;exact q3.elim
   |_=>rw[z]at q3;exact q3.elim
noncomputable def vD:R->R->Res R:=oI (fun i j=>decide (0<=j)&&decide (j<=1000)&&decide (i.natAbs<1000)) fun i j=>.int (i ^ j.toNat)
theorem sQ:ib X E (binaryOp .Pow) vD:=mP _ _ x_ (fun i j h=>by
 simp only[Bool.and_eq_true,decide_eq_true_eq]at h
 exact⟨h.1.1,by omega,Nat.lt_trans h.2 (by decide)⟩) fun _ _ _ _=>rfl
end
end L3
namespace L3
open PySem PySem.Spec PyProof.Rows L2
section
variable {X:Cx}{E:XK}{hc hc2:Str}{Ch Ch2:Addr}{cs cs2:List Str}{np hpos np2 hpos2 pos epos p cpos:Pos}{b₀ c₀:Stmt}{suite suite2:List Stmt}{fsu fsu2:En->Res Fl}{k:Nat}{f:Addr}{fd:FuncData}{ps:List Str}{F:List D->Res R}{x:Str}{e:Expr}{es:List Expr}{fs:En->Res (List R)}
end
end L3
namespace L3
open PySem PySem.Spec PyProof.Rows L2
section
variable {X:Cx}{E:XK}
end
end L3
namespace L3
open PySem PySem.Spec PyProof.Rows L2
theorem IsAll.ptw {H:Hp}{m:Addr->Prop}:∀{ds:List D}{vs:List V},vs.length=ds.length->(∀(i:Nat) d v,ds[i]?=some d->vs[i]?=some v->Is H m d v)->IsAll H m ds vs
 | [],[],_,_=>rfl
 | [],_::_,h,_=>by simp at h
 |_::_,[],h,_=>by simp at h
 |d::ds,v::vs,h,f=>⟨v,vs,rfl,f 0 d v rfl rfl,IsAll.ptw (by simpa using h) fun i d' v' e1 e2=>f (i+1) d' v' (by simpa using e1) (by simpa using e2)⟩
section
variable {X:Cx}{E:XK}{scope:Scope}{tg:Expr}{tN:List Str}{capN:List Str}{caps:List Nat}{iter:Expr}{pos lpos:Pos}{src:En->Res Src}
noncomputable def vE (i:Nat)(src:En->Res Src):En->Res Fl:=fun env=>(src env).bind fun s=>if s.xs.length<=lim/\i<env.length then .ok (.nx (env.set i (some (.dis (.lst (s.xs.map fun _=>.lst [])))))) else .stuck
theorem vF {i:Nat}{y:Str}{py spos:Pos}(hc:X.calm=true)(S:CScope X scope tN capN caps)(hN:X.N.Nodup)(hi':X.N[i]?=some y)(hy:X.env.scope.names.lookup y=some .local)
 (hi:vw X E tg iter src) (hg:∀ cl C s3 H3 fp,PG (bG X scope (tN++capN) cl C s3 H3 fp) tg (jc 0)) (h0:0<tN.length)
 (hsw:autoParam (swapsWith (.ListComp (.List [] lpos) [⟨tg,iter,[],0⟩] scope pos) (some (.Name y py)) spos.line X.env=pure true) autoR._auto_1) (hs:autoParam (∀ x,foldedSetIterable iter X.env x=pure x) autoI._auto_1) :
 p_ X E (.Assign [.Name y py] (.ListComp (.List [] lpos) [⟨tg,iter,[],0⟩] scope pos) spos) (vE i src):=by
 obtain⟨wi,p1,s1⟩:=hi
 refine⟨fun D σ H=>wi σ H (dE X scope tg tN capN caps (.List [] lpos) [] σ fun Dl _ H'=>D.nx (σ.set i (some (.ref Dl))) H'),fun pins s σ H D I h=>mU hc S hN hi' hy hsw I p1 h hs,fun g M ρ env σ H D rep p=>?_⟩
 refine s1 g M ρ env σ H _ rep ?_
 unfold vE at p
 cases q:src env with
 |stuck=>rw[q]at p;exact p
 |exc c=>rw[q]at p;exact p
 |ok s=>
  rw[q]at p
  simp only[Res.bind_ok]at p
  intro J M1 H1 e1 rep1 wk Dl hDl cl C s3 fp
  by_cases hlim:s.xs.length<=lim/\i<env.length
  ·rw[if_pos hlim]at p
   have kp:∀{H2:Hp},Same H1 H2->∀ a o,H1 a=some o->(vmsk g M1 s.fr ρ s.al a\/fixd o)->H2 a=some o:=fun sm a o e _=>sm a o e
   refine⟨jc 0,fun _ H Q=>Q true H,AO AM,fun k m acc H2=>m=s.xs.length-k/\k<=s.xs.length/\acc.length=k/\Same H1 H2/\H2 Dl=some (.lst acc)/\∃ as:List Addr,acc=as.map V.ref/\as.Nodup/\∀ a∈as,a≠Dl/\H1 a=none/\H2 a=some (.lst []),
    hg cl C s3 _ fp,oS,rH dR,⟨_,rfl,Nat.zero_le _,rfl,bz hDl,aL,[],rfl,List.nodup_nil,fun _ z=>by cases z⟩,?_⟩
   rintro k m acc H2 ⟨rfl,hle,hacc,sm,hD2,as,rfl,nd,has⟩
   refine⟨hD2,?_⟩
   by_cases hlt:k<s.xs.length
   ·obtain⟨go,yl⟩:=wk.go H2 k s.xs[k] (kp sm) (by simp[hlt])
    refine .inr ⟨go,fun xv H3 o yy lo=>?_⟩
    obtain⟨s23,_⟩:=yl xv H3 yy
    refine⟨fun j hj=>List.getElem?_set_ne (by omega),ly ⟨Nat.zero_le _,fun b hb=>?_⟩⟩
    have nbD:b≠Dl:=fun e=>by rw[e,s23 _ _ hD2]at hb;cases hb
    have hb2:H2 b=none:=s23.free hb
    have hb1:H1 b=none:=sm.free hb2
    refine⟨by rw[aq (Ne.symm nbD)];exact s23 _ _ hD2,by rw[hacc];exact lC (by omega),s.xs.length-(k+1),by omega,rfl,hlt,by simp[<- hacc],fun a u e=>?_,aL,as++[b],by simp,?_,fun a ha=>?_⟩
    ·rw[aq (ak e hDl),aq (ak e hb1)];exact s23 _ _ (sm _ _ e)
    ·refine List.nodup_append.mpr ⟨nd,by simp,fun a ha c hc'=>?_⟩
     have:c=b:=by simpa using hc'
     subst this
     intro e;subst e
     rw[(has a ha).2.2]at hb2;cases hb2
    ·rcases List.mem_append.mp ha with ha|ha
     ·obtain⟨n1,n2,n3⟩:=has a ha
      refine⟨n1,n2,?_⟩
      rw[aq n1,aq (fun e=>by subst e;rw[n3]at hb2;cases hb2)]
      exact s23 _ _ n3
     ·have:a=b:=by simpa using ha
      subst this
      exact⟨nbD,hb1,by rw[aq nbD,aL]⟩
   ·have ei:k=s.xs.length:=by omega
    subst ei
    refine .inl ⟨wk.stop H2 (kp sm),?_⟩
    have rep2:=rep1.grow sm
    have bA:as.length=s.xs.length:=by simpa using hacc
    have fresh:∀ a,(a=Dl\/a∈as)->H1 a=none:=fun a z=>z.elim (fun e=>by rw[e];exact hDl) fun z=>(has a z).2.1
    have cell:∀ a,(a=Dl\/a∈as)->∃ vs,H2 a=some (.lst vs):=fun a z=>z.elim (fun e=>⟨as.map V.ref,by rw[e];exact hD2⟩) fun z=>⟨[],(has a z).2.2⟩
    have rep3:=rep2.put (i:=i) (sl:=.dis (.lst (s.xs.map fun _=>.lst []))) (v:=.ref Dl) (T:=fun a=>a=Dl\/a∈as) hlim.2 ⟨⟨Dl,as.map V.ref,rfl,.inl ⟨hD2,.inl rfl⟩,IsAll.ptw (by simp[bA]) fun j d v ed ev=>?_⟩,Dl,as.map V.ref,rfl,.inl rfl,.inl hD2,?_,fun j k b ej ek=>?_⟩ fun a z=>?_
    ·exact p _ M1 _ H2 (e1.frz.trans ⟨fun _ z=>z,fun a o e _=>sm a o e⟩) rep3
    ·rw[List.getElem?_map]at ed ev
     obtain⟨a,ea,rfl⟩:=Option.map_eq_some_iff.mp ev
     obtain⟨x,_,rfl⟩:=Option.map_eq_some_iff.mp ed
     have ha:=List.mem_of_getElem? ea
     exact⟨a,[],rfl,.inl ⟨(has a ha).2.2,.inr ha⟩,rfl⟩
    ·intro z
     obtain⟨a,ha,e⟩:=List.mem_map.mp z
     cases e
     exact(has _ ha).1 rfl
    ·rw[List.getElem?_map]at ej ek
     obtain⟨a,ea,e1⟩:=Option.map_eq_some_iff.mp ej
     obtain⟨c,ec,e2⟩:=Option.map_eq_some_iff.mp ek
     cases e1;cases e2
     have hj:=(List.getElem?_eq_some_iff.mp ea).1
     exact(List.getElem?_inj hj nd).mp (by rw[ea,ec])
    ·obtain⟨vs,hv⟩:=cell a z
     obtain⟨f0,f1,f2⟩:=rep1.free (fresh a z)
     exact⟨f1,f0,Mu.lst hv,fun j _=>f2 j⟩
  ·rw[if_neg hlim]at p;exact p.elim
end
section
variable {X:Cx}{E:XK}
noncomputable def fT:D->Bool
 | .lst es=>D.flats es
 |_=>false
noncomputable def fw (i:Nat)(env:En)(ds:List D)(j:Nat)(es:List D)(rv:R):Res Fl:=if rv.d.flat/\es.length<lim/\ds.all fT then .ok (.nx (env.set i (some (.dis (.lst (ds.set j (.lst (es++[rv.d])))))))) else .stuck
noncomputable def gD (i:Nat)(fv:En->Res R)(env:En)(ds:List D):Option Nat->Res Fl
 |some j=>match ds[j]? with
  |some (.lst es)=>(fv env).bind (fw i env ds j es)
  |_=>.stuck
 |none=>.stuck
noncomputable def dI (i:Nat)(fv:En->Res R)(env:En)(ds:List D)(re:R):Res Fl:=match re.d with
 | .int k=>gD i fv env ds (j_ ds.length k)
 |_=>.stuck
noncomputable def gE (i:Nat)(fe fv:En->Res R):En->Res Fl:=fun env=>match env[i]? with
 |some (some (.dis (.lst ds)))=>(fe env).bind (dI i fv env ds)
 |_=>.stuck
theorem n9 {i:Nat}{a b e:Expr}{fe fv:En->Res R}{spos apos cpos pos:Pos}(ha:PE X a (mF i))(hb:PD X E b fe)(h:PD X E e fv)(hs:i8 b)
 (hbase:autoParam (attributeBase (.Subscript a b spos) "append" X.env (eval (.Subscript a b spos) X.env)=eval (.Subscript a b spos) X.env) autoR._auto_1)
 (hfew:autoParam (((backTo cpos (starEach [e] X.env)).all (fun x=>!x.1)&&(backToKw cpos (keywordEach [] X.env)).all (fun x=>x.1.isSome)
   && decide (([e]:List Expr).length+([]:List Keyword).length+(if ([]:List Keyword).isEmpty then 0 else 1)<30))=true) autoR._auto_1)
 (hline:autoParam ((apos.endLine==cpos.line)=true) autoR._auto_1) (hse:autoParam (starEach [e] X.env=(false,eval e X.env)::starEach [] X.env) autoR._auto_1) (hplain:autoParam ((backTo cpos (starEach [] X.env)).any (·.1)=false) autoR._auto_1)
 (hsw:autoParam (swapsWith (.Call (.Attribute (.Subscript a b spos) "append" apos) [e] [] cpos) none pos.line X.env=pure false) autoR._auto_1) :
 p_ X E (.Expr (.Call (.Attribute (.Subscript a b spos) "append" apos) [e] [] cpos) pos) (gE i fe fv):=by
 obtain⟨tb,p2,s2⟩:=hb
 obtain⟨t,p1,s1⟩:=h
 refine⟨_,lu (oG PySem.F.plainAttrs_list PySem.F.slot_list_append PySem.F.type_list_append ig (rL ix_list ha p2 hs) (cP p1 dR hse) hbase hfew hline hse hplain) hsw,fun g M ρ env σ H D rep p=>?_⟩
 unfold gE at p
 split at p
 ·rename_i ds e1
  have hi:i<env.length:=(List.getElem?_eq_some_iff.mp e1).1
  obtain⟨v,ev,⟨root,vs,rfl,hroot,hall⟩,dst⟩:=rep.slot i _ e1
  obtain⟨r',vs',er,tr,hr',nin,inj⟩:=dst
  cases er
  have pm:∀ a,ρ i a->∀ o u,H a≠some (.frz o u):=fun a z o u q=>by
   obtain⟨_,_,uo,w,wm⟩:=rep.priv i a z
   rw[w]at q;cases q;exact wm
  have hroot:H root=some (.lst vs):=hroot.elim (·.1) fun⟨o,q,z⟩=>(pm _ z _ _ q).elim
  have evs:vs'=vs:=by
   rcases hr' with q|⟨_,q,_⟩|⟨q,_⟩<;>rw[hroot]at q<;>cases q
   rfl
  subst evs
  refine⟨_,ev,s2.oneS rep p fun re x M1 H1 x1 rep1 ro1 q1=>?_⟩
  obtain⟨M2,x2,x2m,rep2,is2⟩:=ro1.is rep1 x1 rep.same
  have q1:PostS X.mg E g M1 H1 D (dI i fv env ds re):=q1
  unfold dI at q1
  cases ed:re.d with
  |int k=>
   rw[ed]at q1 is2
   cases is2
   dsimp only at q1
   cases en:j_ ds.length k with
   |none=>rw[en]at q1;exact q1.elim
   |some j=>
    rw[en]at q1
    unfold gD at q1
    dsimp only at q1
    split at q1
    ·rename_i es ej
     obtain⟨w,ew,l,ws,rfl,hl,hes⟩:=hall.get ej
     have tl:ρ i l:=hl.elim (·.2) fun⟨_,_,z⟩=>z
     have hl:H l=some (.lst ws):=hl.elim (·.1) fun⟨o,q,z⟩=>(pm _ z _ _ q).elim
     have hl1:=x1.h _ _ hl
     have elen:=hall.length
     refine⟨root,vs',k,.ref l,rfl,rfl,SqL.of (x1.h _ _ hroot),by unfold L2.atI;rw[elen,en];exact ew,.inl ⟨rfl,ws,SqL.of hl1⟩,?_⟩
     refine s1.oneS (rep2:Rep g M2 ρ env σ H1) (PostS.frz (M':=M2) (H':=H1) ⟨x2m,fun _ _ q _=>q⟩ q1) fun rv y M3 H3 x3 rep3 ro3 q3=>?_
     obtain⟨M4,x4,x4m,rep4,is4⟩:=ro3.is rep3 x3 rep2.same
     have q3:PostS X.mg E g M3 H3 D (fw i env ds j es rv):=q3
     unfold fw at q3
     by_cases hc:rv.d.flat/\es.length<lim/\ds.all fT
     ·rw[if_pos hc]at q3
      obtain⟨c1,c2,c3⟩:=hc
      have up3:Same H H3:=x1.h.trans x3.h
      have hl3:=up3 _ _ hl
      have nrl:root≠l:=fun e=>nin (e▸List.mem_of_getElem? ew)
      have up:∀ a o,H3 a=some o->a≠l->bf H3 l (.lst (ws++[y])) a=some o:=fun a o q n=>by rw[aq n];exact q
      have keepF:∀ a o,H3 a=some o->((fun _=>False) a\/fixd o)->bf H3 l (.lst (ws++[y])) a=some o:=fun a o q z=>up a o q fun e=>by
       subst e;rw[hl3]at q;cases q;exact z.elim id id
      have flat1:∀{xs:List L3.D}{us:List V},L3.D.flats xs=true->IsAll H (ρ i) xs us->IsAll (bf H3 l (.lst (ws++[y]))) (ρ i) xs us:=fun hf z=>(IsAll.flat (m':=fun _=>False) hf (z.same up3)).mono keepF fun _ _ _ z=>z.elim
      have fl:∀{x:L3.D},x∈ds->fT x=true:=fun hx=>List.all_eq_true.mp c3 _ hx
      have fes:L3.D.flats es=true:=fl (List.mem_of_getElem? ej)
      have isd:IsAll (bf H3 l (.lst (ws++[y]))) (ρ i) (ds.set j (.lst (es++[rv.d]))) vs':=IsAll.ptw (by rw[List.length_set];exact elen) fun n d u ed eu=>by
       by_cases hn:n=j
       ·subst hn
        rw[List.getElem?_set_self (List.getElem?_eq_some_iff.mp ej).1]at ed
        cases ed
        rw[ew]at eu;cases eu
        exact⟨l,_,rfl,.inl ⟨aL,tl⟩,(flat1 fes hes).snoc ((Is.flat (m':=fun _=>False) c1 is4).mono keepF fun _ _ _ z=>z.elim)⟩
       ·rw[List.getElem?_set_ne (Ne.symm hn)]at ed
        obtain⟨u',eu',iu⟩:=hall.get ed
        rw[eu]at eu';cases eu'
        cases d with
        |lst es'=>
         obtain⟨l',ws',rfl,hl',hes'⟩:=iu
         have tl':ρ i l':=hl'.elim (·.2) fun⟨_,_,z⟩=>z
         have hl':H l'=some (.lst ws'):=hl'.elim (·.1) fun⟨o,q,z⟩=>(pm _ z _ _ q).elim
         have nl:l'≠l:=fun e=>hn (inj n j l (e▸eu) ew)
         exact⟨l',ws',rfl,.inl ⟨up _ _ (up3 _ _ hl') nl,tl'⟩,flat1 (fl (List.mem_of_getElem? ed)) hes'⟩
        |_=>exact absurd (fl (List.mem_of_getElem? ed)) (by simp[fT])
      obtain⟨f1,rep5⟩:=rep4.write (sl:=.dis (.lst (ds.set j (.lst (es++[rv.d]))))) (vs':=ws++[y]) tl hi ev ⟨⟨root,vs',rfl,.inl ⟨up _ _ (up3 _ _ hroot) nrl,tr⟩,isd⟩,root,vs',rfl,tr,.inl (up _ _ (up3 _ _ hroot) nrl),nin,inj⟩
      exact⟨l,ws,y,rfl,rfl,hl3,by rw[hes.length];exact lC c2,q3 σ M4 ρ _ (Frz.trans ⟨x4m,fun _ _ q _=>q⟩ f1) rep5⟩
     ·rw[if_neg hc]at q3;exact q3.elim
    ·exact q1.elim
  |_=>rw[ed]at q1;exact q1.elim
 ·exact p.elim
end
end L3
namespace L3
open PySem PySem.Spec PyProof.Rows L2
noncomputable def Cv:Bool->List V->HO
 |true,xs=>.tup xs
 |false,xs=>.lst xs
theorem oV:∀{k:Bool}{xs ys:List V},Cv k xs=Cv k ys->xs=ys
 |true,_,_,e=>by cases e;rfl
 |false,_,_,e=>by cases e;rfl
theorem oW:∀{k:Bool}{xs:List V}{o:Obj}{u:HO},Cv k xs≠.frz o u
 |true,_,_,_,e=>by cases e
 |false,_,_,_,e=>by cases e
noncomputable def SqX (k:Bool)(H:Hp)(a:Addr)(xs:List V):Prop:=Rd H a (Cv k xs)
theorem SqX.inj {k:Bool}{H:Hp}{a:Addr}{xs ys:List V}(h:SqX k H a xs)(g:SqX k H a ys):xs=ys:=by
 rcases h with h|⟨o,h⟩<;>rcases g with g|⟨o',g⟩<;>rw[h]at g
 ·exact oV (Option.some.inj g)
 ·exact(oW (Option.some.inj g)).elim
 ·exact(oW (Option.some.inj g).symm).elim
 ·have e:=Option.some.inj g
  injection e with _ e
  exact oV e
theorem SqX.some {k:Bool}{H:Hp}{a:Addr}{xs:List V}(h:SqX k H a xs):∃ o,H a=some o:=sf h
theorem SqX.at {X:Cx}{pins:List (Addr×Obj)}{σ:St}{H:Hp}{s:Shared}:∀{k:Bool}{a:Addr}{xs:List V},L2.Inv X pins σ H s->SqX k H a xs->∃ its:List Value,Vals xs its/\SAt k s.heap a its.toArray
 |true,_,_,I,h=>let ⟨its,r,p,_⟩:=I.tuple (.inl h);⟨its,r,p⟩
 |false,_,_,I,h=>let ⟨its,r,p,_⟩:=I.list (.inl h);⟨its,r,p.isList⟩
noncomputable def Db (ka kb:Bool)(a b:Addr):It:=
 ⟨fun i H=>∃ xs ys x y,SqX ka H a xs/\SqX kb H b ys/\xs[i]?=some x/\ys[i]?=some y,fun i H v H'=>∃ p x y,H p=none/\v=.ref p/\H'=bf H p (.tup [x,y])/\(∀ xs,SqX ka H a xs->xs[i]?=some x)/\∀ ys,SqX kb H b ys->ys[i]?=some y,
   fun i H=>∃ xs ys,SqX ka H a xs/\SqX kb H b ys/\(xs.length<=i\/ys.length<=i)⟩
structure TzSt (ka kb:Bool) (h:Heap) (z TI TO i1 i2 a b:Addr) (i:Nat):Prop where
 zip:IsZip h z TI TO .none
 ti:IsPair h TI (.ref i1) (.ref i2)
 to:∃ u v,IsPair h TO u v
 l:SIt ka h i1 a i
 r:SIt kb h i2 b i
theorem m8 {H:Hp}{z TI TO i1 i2 a b:Addr}(N:ZipNe z TI TO i1 i2)(f:∀ c∈[z,TI,TO,i1,i2],H c=none)(ha:∃ o,H a=some o)(hb:∃ o,H b=some o):ZipApart z TI TO i1 i2 a b:=by
 obtain⟨_,ha⟩:=ha
 obtain⟨_,hb⟩:=hb
 exact⟨N.TIz,N.TOz,N.i1z,N.i2z,N.TITO,N.TIi1,N.TIi2,N.TOi1,N.TOi2,N.i12,ak ha (f z (by simp)),ak ha (f TO (by simp)),ak ha (f i1 (by simp)),ak ha (f i2 (by simp)),
  ak hb (f z (by simp)),ak hb (f TO (by simp)),ak hb (f i1 (by simp)),ak hb (f i2 (by simp))⟩
theorem qB {P:Program}{w:World}{K:PySem.W.Frag}{es:List Expr}{k:Nat}{pos:Pos}(ka kb:Bool)(a b z TI TO i1 i2:Addr)(N:ZipNe z TI TO i1 i2):Turn P w K (.Tuple es k pos) (Db ka kb a b) [z,TI,TO,i1,i2] z (fun i h=>TzSt ka kb h z TI TO i1 i2 a b i) where
 mem:=by simp
 obj:=fun i h st c hc=>by
  obtain⟨u,v,hto⟩:=st.to
  obtain⟨o1,e1,c1,d1⟩:=st.l
  obtain⟨o2,e2,c2,d2⟩:=st.r
  simp only[List.mem_cons,List.not_mem_nil,or_false]at hc
  rcases hc with rfl|rfl|rfl|rfl|rfl
  ·exact⟨_,st.zip,fun v z=>by cases z⟩
  ·exact⟨_,st.ti,fun v z=>by cases z⟩
  ·exact⟨_,hto,fun v z=>by cases z⟩
  ·exact⟨o1,e1,fun v z=>by rw[d1]at z;cases z⟩
  ·exact⟨o2,e2,fun v z=>by rw[d2]at z;cases z⟩
 keep:=fun i h h' st kk=>by
  obtain⟨u,v,hto⟩:=st.to
  exact⟨kk z (by simp) _ st.zip,kk TI (by simp) _ st.ti,⟨u,v,kk TO (by simp) _ hto⟩,L2.SIt.at st.l fun o q=>kk i1 (by simp) o q,L2.SIt.at st.r fun o q=>kk i2 (by simp) o q⟩
 item:=by
  intro X hP hw hK hc i pins s σ H E I hf st hg
  subst hP hw hK
  obtain⟨xs,ys,x,y,hq,hq2,hx,hy⟩:=hg
  obtain⟨its,rv,p⟩:=hq.at I
  obtain⟨its2,rv2,p2⟩:=hq2.at I
  obtain⟨u,hu,ru⟩:=rv.get hx
  obtain⟨u2,hu2,ru2⟩:=rv2.get hy
  obtain⟨o1,o2,hto⟩:=st.to
  have A:=m8 N (fun c hc=>(hf c hc).1) hq.some hq2.some
  have fz:=hf z (by simp)
  have fI:=hf TI (by simp)
  have fO:=hf TO (by simp)
  have f1:=hf i1 (by simp)
  have f2:=hf i2 (by simp)
  refine pU A st.zip st.ti hto st.l st.r p p2 (x:=u) (y:=u2) (by simpa using hu) (by simpa using hu2) fun h' hz' hto' h1' h2' hp hsz hk=>?_
  refine⟨_,rfl,wpAny_letOwnedTupleGo_zip hz' fun h'' hz'' hs''=>?_⟩
  have zlt:z<s.heap.objs.size:=Heap.lt_size st.zip
  have keep2:∀ c o,c≠z->c≠TO->c≠i1->c≠i2->s.heap.get? c=some o->h''.get? c=some o:=fun c o n1 n2 n3 n4 q=>(hs''.2 c n1).trans (hk c o n1 n2 n3 n4 q)
  have hT'':h''.get? s.heap.objs.size=some { cls:=.type "tuple",data:=.seq #[u,u2] }:=(hs''.2 _ (Nat.ne_of_gt zlt)).trans hp
  have fresh:=I.hok.fresh (Nat.le_refl s.heap.objs.size)
  have nin:∀{c:Addr},c∉[z,TO,i1,i2]->c≠z/\c≠TO/\c≠i1/\c≠i2:=fun hn=>⟨fun z=>hn (by simp[z]),fun z=>hn (by simp[z]),fun z=>hn (by simp[z]),fun z=>hn (by simp[z])⟩
  have I1:L2.Inv X pins σ (bf H s.heap.objs.size (.tup [x,y])) { s with heap:=h'' }:=by
   refine I.step (t':=s.toks) (g':=s.gens) (d':=s.drawn) (ch:=[z,TO,i1,i2]) (fun c hb=>?_) (fun c o _ _ hn q _=>let ⟨n1,n2,n3,n4⟩:=nin hn;keep2 c o n1 n2 n3 n4 q)
    (fun c o _ _ hn q _=>let ⟨n1,n2,n3,n4⟩:=nin hn;⟨o.slots,keep2 c o n1 n2 n3 n4 q⟩) (fun c o _ q hH=>by rw[aq (Nat.ne_of_lt (Heap.lt_size q))];exact hH)
    (fun c o hn q=>let ⟨n1,n2,n3,n4⟩:=nin hn;⟨o,keep2 c o n1 n2 n3 n4 q⟩) (fun c zs q=>by rw[aq (ak q fresh)];exact q)
    (fun c o' u' q=>by rw[aq (ak q fresh)];exact q) (fun c ps q=>⟨#[],by rw[aq (ak q fresh)];simp[q]⟩) (fun m hm=>?_) (fun c u' q=>?_) I.bare
   ·simp only[List.mem_cons,List.not_mem_nil,or_false]at hb
    rcases hb with rfl|rfl|rfl|rfl
    ·exact⟨fz.2.2.2.1,fz.2.1,fz.2.2.2.2.1,fz.2.2.2.2.2⟩
    ·exact⟨fO.2.2.2.1,fO.2.1,fO.2.2.2.2.1,fO.2.2.2.2.2⟩
    ·exact⟨f1.2.2.2.1,f1.2.1,f1.2.2.2.2.1,f1.2.2.2.2.2⟩
    ·exact⟨f2.2.2.2.1,f2.2.1,f2.2.2.2.2.1,f2.2.2.2.2.2⟩
   ·obtain⟨o,es',ep,ho',r⟩:=hm
    exact⟨o,es',ep,keep2 _ o (Ne.symm fz.2.1) (Ne.symm fO.2.1) (Ne.symm f1.2.1) (Ne.symm f2.2.1) ho',r⟩
   ·by_cases hb:c=s.heap.objs.size
    ·subst hb
     rw[aL]at q;cases q
     refine⟨by show 2<=sizeLine;decide,[u,u2],.cons ru (.cons ru2 .nil),⟨_,hT'',rfl,0,rfl⟩⟩
    ·rw[aq hb]at q
     refine(I.hok c u' q).stay (fun d v hc' q'=>?_) (fun d r=>by rw[aq (ak r fresh)];exact r) fun d zs r=>by rw[aq (ak r fresh)];exact r
     have tr:∃ w,H d=some w:=hc'.elim (fun z=>⟨u',by rw[z];exact q⟩) fun z=>⟨_,z⟩
     obtain⟨w',hw'⟩:=tr
     exact keep2 d v (ak hw' fz.1) (ak hw' fO.1) (ak hw' f1.1) (ak hw' f2.1) q'
  refine⟨.ref s.heap.objs.size,_,I1,rfl,⟨_,x,y,fresh,rfl,rfl,fun zs hz'=>by rw[<- hq.inj hz'];exact hx,fun zs hz'=>by rw[<- hq2.inj hz'];exact hy⟩,?_,fun c hb=>?_⟩
  ·have mv:∀ c o,c≠z->h'.get? c=some o->h''.get? c=some o:=fun c o n q=>(hs''.2 c n).trans q
   exact⟨hz'',keep2 TI _ N.TIz N.TITO N.TIi1 N.TIi2 st.ti,⟨_,_,mv TO _ N.TOz hto'⟩,L2.SIt.at h1' fun o q=>mv i1 o N.i1z q,L2.SIt.at h2' fun o q=>mv i2 o N.i2z q⟩
  ·have lt:∀{c:Addr}{o:Obj},s.heap.get? c=some o->H c=none->(bf H s.heap.objs.size (.tup [x,y])) c=none:=fun q n=>by rw[aq (Nat.ne_of_lt (Heap.lt_size q))];exact n
   obtain⟨oo1,q1,_⟩:=st.l
   obtain⟨oo2,q2,_⟩:=st.r
   simp only[List.mem_cons,List.not_mem_nil,or_false]at hb
   rcases hb with rfl|rfl|rfl|rfl|rfl
   ·exact lt st.zip fz.1
   ·exact lt st.ti fI.1
   ·exact lt hto fO.1
   ·exact lt q1 f1.1
   ·exact lt q2 f2.1
 done:=by
  intro X hP hw hK hc i pins s σ H E I hf st hg
  subst hP hw hK
  obtain⟨xs,ys,hq,hq2,hx⟩:=hg
  obtain⟨its,rv,p⟩:=hq.at I
  obtain⟨its2,rv2,p2⟩:=hq2.at I
  obtain⟨o1,o2,hto⟩:=st.to
  have A:=m8 N (fun c hc=>(hf c hc).1) hq.some hq2.some
  have fz:=hf z (by simp)
  have fO:=hf TO (by simp)
  have f1:=hf i1 (by simp)
  have f2:=hf i2 (by simp)
  have l1:=rv.length
  have l2:=rv2.length
  refine r0 (I.ok.hd hc) A st.zip st.ti hto st.l st.r p p2 (hx.imp (fun z=>by simp;omega) fun z=>by simp;omega) fun h' hk=>⟨rfl,?_⟩
  have nin:∀{c:Addr},c∉[z,TO,i1,i2]->c≠z/\c≠TO/\c≠i1/\c≠i2:=fun hn=>⟨fun z=>hn (by simp[z]),fun z=>hn (by simp[z]),fun z=>hn (by simp[z]),fun z=>hn (by simp[z])⟩
  refine I.step (t':=s.toks) (g':=s.gens) (d':=s.drawn) (ch:=[z,TO,i1,i2]) (fun c hb=>?_) (fun c o _ _ hn q _=>let ⟨n1,n2,n3,n4⟩:=nin hn;hk c o n1 n2 n3 n4 q)
   (fun c o _ _ hn q _=>let ⟨n1,n2,n3,n4⟩:=nin hn;⟨o.slots,hk c o n1 n2 n3 n4 q⟩) (fun c o _ q hH=>hH)
   (fun c o hn q=>let ⟨n1,n2,n3,n4⟩:=nin hn;⟨o,hk c o n1 n2 n3 n4 q⟩) (fun c zs q=>q)
   (fun c o' u' q=>q) (fun c ps q=>⟨#[],by simp[q]⟩) (fun m hm=>?_) (fun c u' q=>?_) I.bare
  ·simp only[List.mem_cons,List.not_mem_nil,or_false]at hb
   rcases hb with rfl|rfl|rfl|rfl
   ·exact⟨fz.2.2.2.1,fz.2.1,fz.2.2.2.2.1,fz.2.2.2.2.2⟩
   ·exact⟨fO.2.2.2.1,fO.2.1,fO.2.2.2.2.1,fO.2.2.2.2.2⟩
   ·exact⟨f1.2.2.2.1,f1.2.1,f1.2.2.2.2.1,f1.2.2.2.2.2⟩
   ·exact⟨f2.2.2.2.1,f2.2.1,f2.2.2.2.2.1,f2.2.2.2.2.2⟩
  ·obtain⟨o,es',ep,ho',r⟩:=hm
   exact⟨o,es',ep,hk _ o (Ne.symm fz.2.1) (Ne.symm fO.2.1) (Ne.symm f1.2.1) (Ne.symm f2.2.1) ho',r⟩
  ·refine(I.hok c u' q).stay (fun d v hc' q'=>?_) (fun d r=>r) fun d zs r=>r
   have tr:∃ w,H d=some w:=hc'.elim (fun z=>⟨u',by rw[z];exact q⟩) fun z=>⟨_,z⟩
   obtain⟨w',hw'⟩:=tr
   exact hk d v (ak hw' fz.1) (ak hw' fO.1) (ak hw' f1.1) (ak hw' f2.1) q'
 self:=fun A i s Q E st h=>wpAny_pyIter_zip st.zip h
section
variable {X:Cx}{E:XK}{es:List Expr}{k:Nat}{mr:Pos}
noncomputable def Bg (ta:TA):TI:=fun σ H R=>ta σ H fun vs H1=>∃ ka kb a b xs ys,vs=[.ref a,.ref b]/\SqX ka H1 a xs/\SqX kb H1 b ys/\R (Db ka kb a b) H1
theorem vG {l r:Expr} {ta:TA} {p pos:Pos} (hg:Gl X "zip") (hm:X.mg "zip"=none) (ha:PA X [l,r] ta) (hs:autoParam (starEach [l,r] X.env=(false,eval l X.env)::starEach [r] X.env) autoR._auto_1) (hpl:autoParam ((backTo pos (starEach [r] X.env)).any (·.1)=false) autoR._auto_1) :
 PI X (.Tuple es k mr) (.Call (.Name "zip" p) [l,r] [] pos) (Bg ta):=by
 intro pins s σ H R I h
 refine Call_ (ic I hg hm (by decide +kernel:bootBuiltins "zip"=some (.type "zip")) (PyProof.Rows.callWith_type1 (b7 (ha pos pins s σ H _ I h) fun us s1 ⟨vs,H1,I1,r1,q1⟩=>?_) hs hpl))
 have fpc:∀ c∈[s1.heap.objs.size+4,s1.heap.objs.size+2,s1.heap.objs.size+3,s1.heap.objs.size,s1.heap.objs.size+1],FpOk X pins H1 c:=fun c hb=>by
  have hc:s1.heap.objs.size<=c:=by
   simp only[List.mem_cons,List.not_mem_nil,or_false]at hb
   rcases hb with rfl|rfl|rfl|rfl|rfl
   ·exact Nat.le_add_right _ 4
   ·exact Nat.le_add_right _ 2
   ·exact Nat.le_add_right _ 3
   ·exact Nat.le_refl _
   ·exact Nat.le_add_right _ 1
  exact I1.fpOk hc (I1.hok.fresh hc)
 obtain⟨ka,kb,a,b,xs,ys,e,hq,hq2,q⟩:=q1
 subst e
 obtain⟨u,c,rfl,ru,rc⟩:=wY r1
 cases ru
 cases rc
 obtain⟨its,rv,pl⟩:=hq.at I1
 obtain⟨its2,rv2,pl2⟩:=hq2.at I1
 refine pV pl pl2 fun h' g1 g2 g3 g4 g5 kp=>?_
 have I2:L2.Inv X pins σ H1 { s1 with heap:=h' }:=I1.kept (t':=s1.toks) kp
 refine wpAny_pyIter_zip g1 ?_
 exact⟨s1.heap.objs.size+4,_,_,_,H1,rfl,I2,qB ka kb a b (s1.heap.objs.size+4) (s1.heap.objs.size+2) (s1.heap.objs.size+3) s1.heap.objs.size (s1.heap.objs.size+1) (yE s1.heap.objs.size),⟨g1,g2,⟨_,_,g3⟩,g4,g5⟩,fpc,q⟩
noncomputable def sR (k:Bool)(H:Hp)(m:Addr->Prop)(a:Addr)(vs:List V):Prop:=∀ H':Hp,(∀ a o,H a=some o->(m a\/fixd o)->H' a=some o)->SqX k H' a vs
theorem qC {ka kb:Bool}{a b:Addr}{m:Addr->Prop}{H:Hp}{ds es:List D}{vs ws:List V}(h:sR ka H m a vs)(h2:sR kb H m b ws)(is:IsAll H m ds vs)(is2:IsAll H m es ws):Walk (Db ka kb a b) m H (dn ds es):=by
 refine⟨fun H' i d k e=>?_,fun H' k=>⟨vs,ws,h H' k,h2 H' k,by rw[m6,is.length,is2.length];omega⟩⟩
 rw[m5]at e
 cases q:ds[i]? with
 |none=>rw[q]at e;cases e
 |some d0=>
  cases q2:es[i]? with
  |none=>rw[q,q2]at e;cases e
  |some e0=>
   rw[q,q2]at e
   have e:D.tup [d0,e0]=d:=by simpa using e
   obtain⟨v,ev,iv⟩:=(is.mono k fun _ _ _ z=>z:IsAll H' m ds vs).get q
   obtain⟨v2,ev2,iv2⟩:=(is2.mono k fun _ _ _ z=>z:IsAll H' m es ws).get q2
   have k1:=h H' k
   have k2:=h2 H' k
   refine⟨⟨vs,ws,v,v2,k1,k2,ev,ev2⟩,fun x H'' y=>?_⟩
   obtain⟨p,x',y',hp,rfl,rfl,y1,y2⟩:=y
   have z1:=y1 vs k1
   have z2:=y2 ws k2
   rw[ev]at z1;cases z1
   rw[ev2]at z2;cases z2
   have sm:Same H' (bf H' p (.tup [v,v2])):=bz hp
   refine⟨sm,?_⟩
   rw[<- e]
   exact⟨p,_,rfl,aL,v,[v2],rfl,Is.same sm iv,v2,[],rfl,Is.same sm iv2,rfl⟩
noncomputable def sS:D->Option (Bool×List D)
 | .lst ds=>some (false,ds)
 | .tup ds=>some (true,ds)
 |_=>none
theorem oX {H:Hp}{m:Addr->Prop}{d:D}{v:V}{k:Bool}{ds:List D}(e:sS d=some (k,ds))(h:Is H m d v):∃ a vs,v=.ref a/\SqX k H a vs/\sR k H m a vs/\IsAll H m ds vs:=by
 cases d with
 |lst es=>
  cases e
  obtain⟨a,vs,rfl,h1,h2⟩:=h
  refine⟨a,vs,rfl,h1.imp (·.1) fun⟨o,z,_⟩=>⟨o,z⟩,fun H' kp=>?_,h2⟩
  rcases h1 with⟨z,zm⟩|⟨o,z,zm⟩
  ·exact .inl (kp a _ z (.inl zm))
  ·exact .inr ⟨o,kp a _ z (.inl zm)⟩
 |tup es=>
  cases e
  obtain⟨a,vs,rfl,h1,h2⟩:=h
  exact⟨a,vs,rfl,.inl h1,fun H' kp=>.inl (kp a _ h1 (.inr True.intro)),h2⟩
 |_=>cases e
noncomputable def k_:List R->Res Src
 | [r,q]=>match sS r.d,sS q.d with
  |some (_,ds),some (_,es)=>.ok ⟨dn ds es,r.fr&&q.fr,r.al++q.al⟩
  |_,_=>.stuck
 |_=>.stuck
noncomputable def jH (fs:En->Res (List R)):En->Res Src:=fun env=>(fs env).bind k_
theorem fy {l r:Expr} {fs:En->Res (List R)} {p pos:Pos} (hg:Gl X "zip") (hm:X.mg "zip"=none) (ha:rn X E [l,r] fs) (hs:autoParam (starEach [l,r] X.env=(false,eval l X.env)::starEach [r] X.env) autoR._auto_1) (hpl:autoParam ((backTo pos (starEach [r] X.env)).any (·.1)=false) autoR._auto_1) :
 vw X E (.Tuple es k mr) (.Call (.Name "zip" p) [l,r] [] pos) (jH fs):=by
 obtain⟨t,p1,s1⟩:=ha
 refine⟨_,vG hg hm p1 hs hpl,fun g M ρ env σ H Rq rep p=>s1.one rep (P:=fun M H r=>PostI X.mg E g M ρ env σ H Rq r) p (fun _ _ z=>z) (fun _ _ _ z=>z) (fun _ _ _ _ _ e p=>p.ext e) fun rs vs M1 H1 e1 rep1 is q=>?_⟩
 match rs,is,q with
 | [r,r2],is,q=>
  obtain⟨v,w,rfl,i1,v2,w2,rfl,i2,i3⟩:=is
  cases i3
  have i1:Is H1 (vmsk g M1 (aT [r,r2]) ρ (bh [r,r2])) r.d v:=i1
  have i2:Is H1 (vmsk g M1 (aT [r,r2]) ρ (bh [r,r2])) r2.d v2:=i2
  replace i1:=i1.weak fun _ z=>oU z
  replace i2:=i2.weak fun _ z=>oU z
  unfold k_ at q
  dsimp only at q
  cases z:sS r.d with
  |none=>rw[z]at q;exact q.elim
  |some x=>
   cases z2:sS r2.d with
   |none=>rw[z,z2]at q;exact q.elim
   |some y=>
    obtain⟨ka,ds⟩:=x
    obtain⟨kb,es⟩:=y
    rw[z,z2]at q
    dsimp only at q
    obtain⟨a,ws,rfl,h1,h2,h3⟩:=oX z i1
    obtain⟨b,us,rfl,g1,g2,g3⟩:=oX z2 i2
    exact⟨ka,kb,a,b,ws,us,rfl,h1,g1,q _ M1 H1 (Ext.refl _ _) rep1 (qC h2 g2 h3 g3)⟩
 | [],_,q=>exact q.elim
 | [_],_,q=>exact q.elim
 |_::_::_::_,_,q=>exact q.elim
end
end L3
namespace L3
open PySem PySem.Spec PyProof.Rows L2
section
variable {X:Cx}{E:XK}
noncomputable def dJ (kvs:List (Str×Int))(k:Str):Option Int:=(kvs.find? fun p=>decide (p.1=k)).map (·.2)
noncomputable def vH (kvs:List (Str×Int))(r:R):Res R:=match r.d with
 | .str k=>(match dJ kvs k with
  |some v=>.ok (.val (.int v) true [])
  |none=>.stuck)
 |_=>.stuck
noncomputable def yN (kvs:List (Str×Int))(f:En->Res R):En->Res R:=fun env=>(f env).bind (vH kvs)
noncomputable def n_ (w:World):List DictEntry->List (Str×Int)->Prop
 | [],[]=>True
 |e::es,p::ps=>(e.hash=hashStr w p.1/\(∃ t,e.key=.str p.1 t)/\∃ t,e.val=.int p.2 t)/\n_ w es ps
 |_,_=>False
noncomputable def TabAt (w:World) (K:PySem.W.Frag) (a:Addr) (kvs:List (Str×Int)):Prop:=∃ es ep,K.lookup a=some ⟨.type "dict",none,.dict es ep,#[]⟩/\n_ w es.toList kvs/\(kvs.map (·.1)).Nodup
noncomputable def f7:List DictEntry->List (Str×Int)->List (Key×Value)
 |e::es,p::ps=>(.inr p.1,e.val)::f7 es ps
 |_,_=>[]
theorem io {P:Program}{w:World}:∀{es:List DictEntry}{kvs:List (Str×Int)},n_ w es kvs->Pairs (aV P w) es (f7 es kvs)
 | [],[],_=>.nil
 |e::es,p::ps,h=>by
  obtain⟨⟨_,⟨t,hk⟩,_⟩,h2⟩:=h
  exact .cons (by rw[hk];exact eY P w p.1 t) rfl (io h2)
 | [],_::_,h=>h.elim
 |_::_,[],h=>h.elim
theorem jI {P:Program}{w:World}:∀{es:List DictEntry}{kvs:List (Str×Int)},n_ w es kvs->∀ e∈es,∃ k,(aV P w).is k e.key=true/\e.hash=(aV P w).hash k
 | [],[],_,_,h=>by cases h
 |e::es,p::ps,h,x,hx=>by
  obtain⟨⟨hh,⟨t,hk⟩,_⟩,h2⟩:=h
  rcases List.mem_cons.mp hx with rfl|hx
  ·exact⟨.inr p.1,by rw[hk];exact eY P w p.1 t,hh⟩
  ·exact jI h2 x hx
 | [],_::_,h,_,_=>h.elim
 |_::_,[],h,_,_=>h.elim
theorem lM {w:World}:∀{es:List DictEntry}{kvs:List (Str×Int)},n_ w es kvs->(f7 es kvs).map (·.1)=kvs.map fun p=>(.inr p.1:Key)
 | [],[],_=>rfl
 |e::es,p::ps,h=>by
  unfold f7
  rw[List.map_cons,List.map_cons,lM h.2]
 | [],_::_,h=>h.elim
 |_::_,[],h=>h.elim
theorem oY {w:World}{k:Str}{v:Int}:∀{es:List DictEntry}{kvs:List (Str×Int)},n_ w es kvs->dJ kvs k=some v->∃ u,valueAt (f7 es kvs) (.inr k:Key)=some u/\RelV (.int v) u
 | [],[],_,e=>by cases e
 |e::es,p::ps,h,q=>by
  obtain⟨⟨_,_,⟨t,hv⟩⟩,h2⟩:=h
  unfold dJ at q
  unfold f7 valueAt
  by_cases c:p.1=k
  ·rw[List.find?_cons,decide_eq_true c]at q
   have q:p.2=v:=by simpa using q
   refine⟨e.val,?_,t,by rw[hv,q]⟩
   rw[List.find?_cons,decide_eq_true (by rw[c])];rfl
  ·rw[List.find?_cons,decide_eq_false c]at q
   obtain⟨u,e1,e2⟩:=oY h2 (show dJ ps k=some v from q)
   refine⟨u,?_,e2⟩
   rw[List.find?_cons,decide_eq_false (fun z=>c (Sum.inr.inj z))]
   exact e1
 | [],_::_,h,_=>h.elim
 |_::_,[],h,_=>h.elim
theorem yO {x:Str} {a:Addr} {kvs:List (Str×Int)} {i:Expr} {ty:TE} {pos np:Pos} (hg:Gl X x) (hm:X.mg x=some (.ref a)) (tb:TabAt X.w X.K a kvs) (hi:PE X i ty) (hs:ym i) (hd:(x==("__debug__" : Str))=false) :
 PE X (.Subscript (.Name x np) i pos) (fun σ H Q=>ty σ H fun y H2=>∃ k v,y=.str k/\dJ kvs k=some v/\Q (.int v) H2):=by
 intro pins s σ H Q I h
 have hn:=lr (X:=X) (v:=.ref a) (pos:=np) hg hm rfl hd
 refine vc PySem.F.slot_dict_getitem.lookup hs (b7 (hn pins s σ H (fun v H1=>v=.ref a/\H1=H) I ⟨rfl,rfl⟩) fun u s1 ⟨x,H1,I1,rx,ex,eh⟩=>?_)
 subst ex eh
 obtain rfl:u=Value.ref a:=rx
 refine b7 (hi pins s1 σ _ _ I1 h) fun iv s2 ⟨y,H2,I2,ry,k,v,ey,ht,q⟩=>?_
 subst ey
 obtain⟨es,ep,lk,te,nd⟩:=tb
 have dd:s2.heap.DictOf (aV X.prog X.w) a (f7 es.toList kvs):=⟨_,es,ep,I2.kIn _ _ lk,⟨rfl,rfl,rfl⟩,rfl,fun e he=>jI te e (by simpa using he),io te,by
  rw[lM te]
  have:((kvs.map (·.1)).map fun n=>(.inr n:Key)).Nodup:=by
   rw[List.Nodup,List.pairwise_map]
   exact nd.imp fun{a b} h e=>h (Sum.inr.inj e)
  rw[List.map_map]at this
  exact this⟩
 obtain⟨w',hw,rw'⟩:=oY te ht
 exact⟨dd.typeIs,wpAny_getItem_of (ji (k:=.inr k) ry) dd.mapOf hw ⟨.int v,H2,I2.tok _,rw',q⟩⟩
theorem yP {x:Str} {kvs:List (Str×Int)} {i:Expr} {f:En->Res R} {pos np:Pos} (hg:Gl X x) (tb:∃ a,X.mg x=some (.ref a)/\TabAt X.w X.K a kvs) (hi:PD X E i f) (hs:ym i) (hd:autoParam ((x==("__debug__" : Str))=false) autoD._auto_1) :
 PD X E (.Subscript (.Name x np) i pos) (yN kvs f):=by
 obtain⟨a,hm,ta⟩:=tb
 obtain⟨t,p1,s1⟩:=hi
 refine⟨_,yO hg hm ta p1 hs hd,fun g M ρ env σ H Q rep p=>s1.oneE rep p fun r v M1 H1 e1 rep1 i1 q1=>?_⟩
 unfold vH at q1
 cases hq:r.d with
 |str k=>
  rw[hq]at q1 i1
  dsimp only at q1
  cases ht:dJ kvs k with
  |none=>rw[ht]at q1;exact q1.elim
  |some n=>
   rw[ht]at q1
   exact⟨k,n,i1,ht,q1 _ M1 H1 (Ext.refl _ _) rep1 rfl⟩
 |_=>rw[hq]at q1;exact q1.elim
end
end L3
namespace L3
open PySem PySem.Spec PyProof.Rows L2
section
variable {X:Cx}{E:XK}
noncomputable def lN (a b:R):Res R:=match a.d,b.d with
 | .str x,.str y=>.ok (.val (.bl (!(decide (y.cps.toList<x.cps.toList)))) true [])
 |_,_=>.stuck
theorem yQ:OpR X (compareOp .LtE) (fun x y H Q=>∃ i j,x=.str i/\y=.str j/\Q (.bl (!(decide (j.cps.toList<i.cps.toList)))) H):=by
 intro pins s σ H x y v u Q I rx ry h
 obtain⟨i,j,rfl,rfl,q⟩:=h
 obtain⟨t,rfl⟩:=rx
 obtain⟨t',rfl⟩:=ry
 exact P.le_str (yb I q rfl)
theorem lO:ib X E (compareOp .LtE) lN:=by
 refine⟨_,yQ,fun g M ρ env σ H Q ra rb x y rep i1 i2 p=>?_⟩
 unfold lN at p
 cases ha:ra.d with
 |str a=>
  cases hb:rb.d with
  |str b=>
   rw[ha,hb]at p
   rw[ha]at i1
   rw[hb]at i2
   exact⟨a,b,i1,i2,p _ M H (Ext.refl _ _) rep rfl⟩
  |_=>rw[ha,hb]at p;exact p.elim
 |_=>rw[ha]at p;exact p.elim
noncomputable def kStr:List R->Res R
 | [r]=>match r.d with
  | .int i=>if i.natAbs<1000000 then .ok (.val (.str (toString i)) true []) else .stuck
  | .str x=>.ok (.val (.str x) true [])
  |_=>.stuck
 |_=>.stuck
theorem qE:CallR X (.type "str") (fun xs H Q=>(∃ i,xs=[.int i]/\i.natAbs<1000000/\Q (.str (toString i)) H)\/∃ x,xs=[.str x]/\Q (.str x) H):=by
 intro pins s σ H xs us Q I r h
 rcases h with⟨i,rfl,hz,q⟩|⟨x,rfl,q⟩
 ·obtain⟨u,rfl,t,rfl⟩:=gw r
  have:i.natAbs.log2<1920:=by
   by_cases h0:i.natAbs=0
   ·rw[h0];decide
   ·exact(Nat.log2_lt h0).mpr (Nat.lt_of_lt_of_le hz (Nat.le_trans (by decide:1000000<=2 ^ 20) (Nat.pow_le_pow_right (by decide) (by decide))))
  exact PySem.P.str_of_int this ⟨.str _,H,I.tok _,⟨_,rfl⟩,q⟩
 ·obtain⟨u,rfl,t,rfl⟩:=gw r
  exact PySem.P.str_of_str ⟨.str _,H,I,⟨_,rfl⟩,q⟩
theorem lP:jz X E (.type "str") kStr:=by
 refine⟨_,qE,fun g M ρ env σ H Q rs vs rep i p=>?_⟩
 match rs,i,p with
 | [r],i,p=>
  obtain⟨v,w,rfl,i1,i2⟩:=i
  cases i2
  have i1:Is H (vmsk g M (aT [r]) ρ (bh [r])) r.d v:=i1
  unfold kStr at p
  dsimp only at p
  cases z:r.d with
  |int n=>
   rw[z]at p i1
   dsimp only at p
   by_cases hc:n.natAbs<1000000
   ·rw[if_pos hc]at p
    cases (show v=.int n from i1)
    exact .inl ⟨n,rfl,hc,p _ M H (Ext.refl _ _) rep rfl⟩
   ·rw[if_neg hc]at p;exact p.elim
  |str x=>
   rw[z]at p i1
   cases (show v=.str x from i1)
   exact .inr ⟨x,rfl,p _ M H (Ext.refl _ _) rep rfl⟩
  |_=>rw[z]at p;exact p.elim
 | [],_,p=>exact p.elim
 |_::_::_,_,p=>exact p.elim
noncomputable def eL:List D->Option (List Str)
 | []=>some []
 | .str x::ds=>(eL ds).map (x::·)
 |_::_=>none
theorem ip:∀ xs:List Str,eL (xs.map .str)=some xs
 | []=>rfl
 |x::xs=>by rw[List.map_cons];unfold eL;rw[ip xs];rfl
theorem jJ {H:Hp}{m:Addr->Prop}:∀{ds:List D}{vs:List V}{xs:List Str},IsAll H m ds vs->eL ds=some xs->vs=xs.map V.str
 | [],_,_,h,e=>by cases h;cases e;rfl
 | .str x::ds,_,xs,h,e=>by
  obtain⟨v,r,rfl,h1,h2⟩:=h
  unfold eL at e
  cases q:eL ds with
  |none=>rw[q]at e;cases e
  |some ys=>
   rw[q]at e;cases e
   rw[jJ h2 q,List.map_cons,show v=.str x from h1]
 | .non::_,_,_,_,e=>by cases e
 | .bl _::_,_,_,_,e=>by cases e
 | .int _::_,_,_,_,e=>by cases e
 | .tup _::_,_,_,_,e=>by cases e
 | .lst _::_,_,_,_,e=>by cases e
 | .dic _ _::_,_,_,_,e=>by cases e
theorem la:∀{xs:List Str}{its:List Value},Vals (xs.map V.str) its->∃ l:List (Str×Tok),its=strValues l/\l.map (·.1)=xs
 | [],its,h=>by cases h;exact⟨[],rfl,rfl⟩
 |x::xs,its,h=>by
  rw[List.map_cons]at h
  cases h with
  |cons h1 h2=>
   obtain⟨t,rfl⟩:=h1
   obtain⟨l,rfl,rfl⟩:=la h2
   exact⟨(x,t)::l,rfl,rfl⟩
noncomputable def iJ (sep:Str)(xs:List Str):Nat:=(xs.map (·.length)).sum+xs.length*sep.length
theorem sT {sep:Str}{xs:List Str}(h:iJ sep xs<=1000000):JoinOk sep xs=true:=by
 unfold JoinOk
 rw[Bool.not_eq_true']
 unfold Builtin.Str.tooLong
 rw[StrLaws.joinTotal]
 have:1000000<=sizeLine:=by decide
 unfold iJ at h
 exact decide_eq_false (by omega)
noncomputable def Bh:V->List V->Hp->VK->Prop:=fun x vs H Q=>∃ sep p xs,x=.str sep/\vs=[.ref p]/\Rd H p (.lst (xs.map V.str))/\iJ sep xs<=1000000/\Q (.str (Txt.join sep xs)) H
theorem vI:CV X "str.join" Bh:=by
 intro pins s σ H x vs v us Q I rx rv h
 obtain⟨sep,p,xs,rfl,rfl,hH,hj,q⟩:=h
 obtain⟨t,rfl⟩:=rx
 obtain⟨u,rfl,ru⟩:=rv.one
 cases ru
 obtain⟨z,its,n,r,e⟩:=(show ObjOk X.prog X.w H s.heap p (.lst (xs.map V.str)) from rM I.hok hH)
 obtain⟨l,rfl,hl⟩:=la r
 exact SC.join (l:=l) ⟨_,e,rfl,n,rfl⟩ hl (sT hj) fun t' k=>⟨.str _,H,I.tok _,⟨_,rfl⟩,q⟩
noncomputable def ir (sep:Str)(r:R):Res R:=match r.d with
 | .lst ds=>(match eL ds with
  |some xs=>if iJ sep xs<=1000000 then .ok (.val (.str (Txt.join sep xs)) true []) else .stuck
  |none=>.stuck)
 |_=>.stuck
noncomputable def jK (fa:En->Res R)(env:En)(ra:R):Res R:=match ra.d with
 | .str sep=>(fa env).bind (ir sep)
 |_=>.stuck
noncomputable def f8 (fo fa:En->Res R):En->Res R:=fun env=>(fo env).bind (jK fa env)
theorem fU {o a:Expr} {fo fa:En->Res R} {apos cpos:Pos} (ho:PD X E o fo) (ha:PD X E a fa) (hbase:autoParam (attributeBase o "join" X.env (eval o X.env)=eval o X.env) autoR._auto_1)
 (hfew:autoParam (((backTo cpos (starEach [a] X.env)).all (fun x=>!x.1)&&(backToKw cpos (keywordEach [] X.env)).all (fun x=>x.1.isSome)&&decide (([a]:List Expr).length+([]:List Keyword).length+(if ([]:List Keyword).isEmpty then 0 else 1)<30))=true) autoR._auto_1)
 (hline:autoParam ((apos.endLine==cpos.line)=true) autoR._auto_1) (hs:autoParam (starEach [a] X.env=(false,eval a X.env)::starEach [] X.env) autoR._auto_1) (hplain:autoParam ((backTo cpos (starEach [] X.env)).any (·.1)=false) autoR._auto_1) :
 PD X E (.Call (.Attribute o "join" apos) [a] [] cpos) (f8 fo fa):=by
 obtain⟨to,p0,s0⟩:=ho
 obtain⟨t,p1,s1⟩:=ha
 refine⟨_,oG PySem.F.plainAttrs_str PySem.F.slot_str_join PySem.F.type_str_join vI p0 (cP p1 dR hs) hbase hfew hline hs hplain,fun g M ρ env σ H Q rep p=>?_⟩
 have p:PostE X.mg E g M ρ env σ H Q ((fo env).bind (jK fa env)):=p
 refine s0.oneE rep p fun ra v M1 H1 e1 rep1 i1 q1=>?_
 unfold jK at q1
 cases hq:ra.d with
 |str sep=>
  rw[hq]at q1 i1
  dsimp only at q1
  cases (show v=.str sep from i1)
  refine⟨rfl,s1.oneE rep1 q1 fun rb y M2 H2 e2 rep2 i2 q2=>?_⟩
  unfold ir at q2
  cases hr:rb.d with
  |lst ds=>
   rw[hr]at q2 i2
   dsimp only at q2
   obtain⟨b,ws,rfl,h,k⟩:=i2
   cases hx:eL ds with
   |none=>rw[hx]at q2;exact q2.elim
   |some xs=>
    rw[hx]at q2
    dsimp only at q2
    by_cases hc:iJ sep xs<=1000000
    ·rw[if_pos hc]at q2
     cases jJ k hx
     exact⟨sep,b,xs,rfl,rfl,h.imp (fun z=>z.1) (fun⟨o,z,_⟩=>⟨o,z⟩),hc,q2 _ M2 H2 (Ext.refl _ _) rep2 rfl⟩
    ·rw[if_neg hc]at q2;exact q2.elim
  |_=>rw[hr]at q2;exact q2.elim
 |_=>rw[hq]at q1;exact q1.elim
noncomputable def yR:V->List V->Hp->VK->Prop:=fun x vs H Q=>∃ a b,x=.str a/\vs=[.str b]/\0<b.length/\a.length<=100000/\(Txt.split a b).length<=100000/\(Builtin.Str.partsBetween a (Builtin.Str.occurrences a b 0 a.length (a.length+1)) b.length).length<=100000/\∀ p,H p=none->Q (.ref p) (bf H p (.lst ((Txt.split a b).map V.str)))
theorem gF:∀(l:List (Str×Tok)),Vals ((l.map (·.1)).map V.str) (strValues l)
 | []=>.nil
 |(x,t)::l=>.cons ⟨t,rfl⟩ (gF l)
theorem sU:CV X "str.split" yR:=by
 intro pins s σ H x vs v us Q I rx rv h
 obtain⟨a,b,rfl,rfl,hb,ha,hn,hp,q⟩:=h
 obtain⟨t,rfl⟩:=rx
 obtain⟨u,rfl,ru⟩:=rv.one
 obtain⟨t',rfl⟩:=ru
 have hz:100000<=sizeLine:=by decide
 have hy:(b.length==0)=false:=by simpa using Nat.ne_of_gt hb
 have fin:∀(l:List (Str×Tok))(k:Nat),l.map (·.1)=Txt.split a b->EP X pins σ Q (.ref s.heap.objs.size) { s with heap:=s.heap.push { cls:=.type "list",data:=.seq (strValues l).toArray },toks:=k }:=fun l k e=>by
  have hv:=gF l
  rw[e]at hv
  exact⟨.ref _,_,I.lnew hv (by rw[List.length_map];omega),rfl,q _ I.fresh⟩
 cases h1:(decide (a.length<b.length) || decide (Builtin.Str.strKind a<Builtin.Str.strKind b))
 ·cases hf:(Builtin.Str.occurrences a b 0 a.length (a.length+1)).isEmpty
  ·refine call_meets F.slot_str_split (typeIs_str _ _ _) F.entry_str_split (F.args_str_split_2 _ _) (meets_str_split_sep a b t t' h1 hy hf (by omega) (by omega)) ?_
   show EP X pins σ Q _ { s with toks:=_,heap:=s.heap.push { cls:=.type "list",data:=.seq (strsFrom s.toks (Builtin.Str.partsBetween a (Builtin.Str.occurrences a b 0 a.length (a.length+1)) b.length)).toArray } }
   rw[strsFrom_eq]
   exact fin (numbered s.toks _) _ ((numbered_texts _ _).trans ((if_neg (ne_true_of_eq_false h1)).trans (if_neg (ne_true_of_eq_false hf))).symm)
  ·exact call_meets F.slot_str_split (typeIs_str _ _ _) F.entry_str_split (F.args_str_split_2 _ _) (meets_str_split_not_found a b t t' h1 hy hf)
    (fin [(a,t)] _ ((if_neg (ne_true_of_eq_false h1)).trans (if_pos hf)).symm)
 ·exact call_meets F.slot_str_split (typeIs_str _ _ _) F.entry_str_split (F.args_str_split_2 _ _) (meets_str_split_cannot_occur a b t t' h1)
   (fin [(a,t)] _ (if_pos h1).symm)
noncomputable def fV (a b:Str):Prop:=0<b.length/\a.length<=100000/\(Txt.split a b).length<=100000/\(Builtin.Str.partsBetween a (Builtin.Str.occurrences a b 0 a.length (a.length+1)) b.length).length<=100000
instance (a b:Str):Decidable (fV a b):=by unfold fV;infer_instance
noncomputable def cS (a:Str)(r:R):Res R:=match r.d with
 | .str b=>if fV a b then .ok (.new ((Txt.split a b).map .str) true) else .stuck
 |_=>.stuck
noncomputable def gG (fa:En->Res R)(env:En)(ra:R):Res R:=match ra.d with
 | .str a=>(fa env).bind (cS a)
 |_=>.stuck
noncomputable def gi (fo fa:En->Res R):En->Res R:=fun env=>(fo env).bind (gG fa env)
theorem jL {H:Hp}{m:Addr->Prop}:∀ xs:List Str,IsAll H m (xs.map .str) (xs.map V.str)
 | []=>rfl
 |x::xs=>⟨_,_,rfl,rfl,jL xs⟩
theorem jM:∀ xs:List Str,D.flats (xs.map .str)=true
 | []=>rfl
 |x::xs=>by rw[List.map_cons];unfold D.flats;rw[jM xs];rfl
theorem fA {o a:Expr} {fo fa:En->Res R} {apos cpos:Pos} (ho:PD X E o fo) (ha:PD X E a fa) (hbase:autoParam (attributeBase o "split" X.env (eval o X.env)=eval o X.env) autoR._auto_1)
 (hfew:autoParam (((backTo cpos (starEach [a] X.env)).all (fun x=>!x.1)&&(backToKw cpos (keywordEach [] X.env)).all (fun x=>x.1.isSome)&&decide (([a]:List Expr).length+([]:List Keyword).length+(if ([]:List Keyword).isEmpty then 0 else 1)<30))=true) autoR._auto_1)
 (hline:autoParam ((apos.endLine==cpos.line)=true) autoR._auto_1) (hs:autoParam (starEach [a] X.env=(false,eval a X.env)::starEach [] X.env) autoR._auto_1) (hplain:autoParam ((backTo cpos (starEach [] X.env)).any (·.1)=false) autoR._auto_1) :
 PD X E (.Call (.Attribute o "split" apos) [a] [] cpos) (gi fo fa):=by
 obtain⟨to,p0,s0⟩:=ho
 obtain⟨t,p1,s1⟩:=ha
 refine⟨_,oG PySem.F.plainAttrs_str PySem.F.slot_str_split PySem.F.type_str_split sU p0 (cP p1 dR hs) hbase hfew hline hs hplain,fun g M ρ env σ H Q rep p=>?_⟩
 have p:PostE X.mg E g M ρ env σ H Q ((fo env).bind (gG fa env)):=p
 refine s0.oneE rep p fun ra v M1 H1 e1 rep1 i1 q1=>?_
 unfold gG at q1
 cases hq:ra.d with
 |str a=>
  rw[hq]at q1 i1
  dsimp only at q1
  cases (show v=.str a from i1)
  refine⟨rfl,s1.oneE rep1 q1 fun rb y M2 H2 e2 rep2 i2 q2=>?_⟩
  unfold cS at q2
  cases hr:rb.d with
  |str b=>
   rw[hr]at q2 i2
   dsimp only at q2
   cases (show y=.str b from i2)
   by_cases hc:fV a b
   ·rw[if_pos hc]at q2
    obtain⟨c1,c2,c3,c4⟩:=hc
    refine⟨a,b,rfl,rfl,c1,c2,c3,c4,fun p hp=>?_⟩
    have hf:D.flats ((Txt.split a b).map .str)=true:=jM _
    have q3:PostE X.mg E g M2 ρ env σ H2 Q (.ok (jr ((Txt.split a b).map .str) true [])):=by unfold jr;rw[if_pos hf];exact q2
    exact q3.lst rep2 hp (jL _)
   ·rw[if_neg hc]at q2;exact q2.elim
  |_=>rw[hr]at q2;exact q2.elim
 |_=>rw[hq]at q1;exact q1.elim
noncomputable def Dc (x:Str):It:=⟨fun i _=>i<x.cps.size,fun i H v H'=>H'=H/\∃ c,x.cps[i]?=some c/\v=.str ⟨#[c]⟩,fun i _=>x.cps.size<=i⟩
theorem lb {P:Program} {w:World} {K:PySem.W.Frag} {tg:Expr} (it:Addr) (x:Str) (ty:String) (t:Tok) (hty:["enumerate", "zip", "dict_itemiterator", "dict_reverseitemiterator", "odict_iterator", "itertools.zip_longest", "itertools.pairwise"].contains ty=false)
 (W:∀ A':Around,A'.handled=none->Walks P w A' it [it] [it] x.cps.size (SignAt x) (fun i h=>h.IsStrIter it ty x t i))
 (hself:∀(A:Around)(i:Nat)(s:Shared)(Q:Value->Shared->Prop)(E:Value->Shared->Prop),s.heap.IsStrIter it ty x t i->Q (.ref it) s->wpAny (model P w) A (pyIter (.ref it)) Q E s):Turn P w K tg (Dc x) [it] it (fun i h=>i<=x.cps.size/\h.IsStrIter it ty x t i) where
 mem:=by simp
 obj:=fun i h st b hb=>by
  have e:b=it:=by simpa using hb
  subst e
  obtain⟨_,o,ho,hc,hd⟩:=st
  exact⟨o,ho,fun v z=>by rw[hd]at z;cases z⟩
 keep:=fun i h h' st k=>⟨st.1,let ⟨o,ho,r⟩:=st.2;⟨o,k it (by simp) o ho,r⟩⟩
 item:=by
  intro X hP hw hK hc i pins s σ H E I hf st hg
  subst hP hw hK
  obtain⟨f0,f1,f2,f3,f4,f5⟩:=hf it (by simp)
  refine(W X.A (I.ok.hd hc)).item i s _ _ hg st.2 fun v h' tk hv st' kk=>?_
  obtain⟨c,u,hcu,rfl⟩:=hv
  have I1:L2.Inv X pins σ H { s with heap:=h',toks:=tk }:=I.turned (fun b o hb e=>kk b o (by simpa using hb) e) f0 f1 f3 f4 f5
  obtain⟨o,ho,hoc,hod⟩:=st'
  exact⟨_,rfl,oD (s:={ s with heap:=h',toks:=tk }) (n:=ty) ho hoc hod hty ⟨.str ⟨#[c]⟩,H,I1,⟨u,rfl⟩,⟨rfl,c,hcu,rfl⟩,⟨hg,o,ho,hoc,hod⟩,fun b hb=>(hf b hb).1⟩⟩
 done:=by
  intro X hP hw hK hc i pins s σ H E I hf st hg
  subst hP hw hK
  obtain⟨f0,f1,f2,f3,f4,f5⟩:=hf it (by simp)
  have e:i=x.cps.size:=Nat.le_antisymm st.1 hg
  have st2:=st.2
  rw[e]at st2
  exact(W X.A (I.ok.hd hc)).done s _ _ st2 fun h' tk kk=>⟨rfl,I.turned (fun b o hb e=>kk b o (by simpa using hb) e) f0 f1 f3 f4 f5⟩
 self:=fun A i s Q E st h=>hself A i s Q E st.2 h
noncomputable def Bi (tl:TE):TI:=fun σ H R=>tl σ H fun x H1=>∃ z,x=.str z/\R (Dc z) H1
theorem vJ {tg l:Expr}{tl:TE}(hl:PE X l tl):PI X tg l (Bi tl):=by
 intro pins s σ H R I h
 refine b7 (hl pins s σ H _ I h) fun v s1 ⟨x,H1,I1,r1,z,ex,q⟩=>?_
 subst ex
 obtain⟨t,rfl⟩:=r1
 have fp:∀ b∈[s1.heap.objs.size],FpOk X pins H1 b:=fun b hb=>by
  have e:b=s1.heap.objs.size:=by simpa using hb
  subst e
  exact I1.fpOk (Nat.le_refl _) (I1.hok.fresh (Nat.le_refl _))
 cases ha:z.cps.all (·< 128)
 ·refine wpAny_pyIter_wide ha ?_
  exact⟨s1.heap.objs.size,[s1.heap.objs.size],_,_,H1,rfl,I1.kept (t':=s1.toks) fun b o e=>Heap.get?_push_of_some _ e,lb s1.heap.objs.size z "str_iterator" t (by decide) (fun A' hA=>Walks.strWide hA _ z t) (fun _ _ _ _ _ st h=>wpAny_pyIter_striter_wide st h),⟨Nat.zero_le _,_,Heap.get?_push_size _ rfl,rfl,rfl⟩,fp,q⟩
 ·refine wpAny_pyIter_ascii ha ?_
  exact⟨s1.heap.objs.size,[s1.heap.objs.size],_,_,H1,rfl,I1.kept (t':=s1.toks) fun b o e=>Heap.get?_push_of_some _ e,lb s1.heap.objs.size z "str_ascii_iterator" t (by decide) (fun A' hA=>Walks.strAscii hA _ z t) (fun _ _ _ _ _ st h=>wpAny_pyIter_striter_ascii st h),⟨Nat.zero_le _,_,Heap.get?_push_size _ rfl,rfl,rfl⟩,fp,q⟩
noncomputable def fB (z:Str):List D:=z.cps.toList.map fun c=>.str ⟨#[c]⟩
noncomputable def oZ (r:R):Res Src:=match r.d with
 | .str z=>.ok ⟨fB z,true,[]⟩
 |_=>.stuck
noncomputable def o0 (f:En->Res R):En->Res Src:=fun env=>(f env).bind oZ
theorem qF {m:Addr->Prop}{H:Hp}(z:Str):Walk (Dc z) m H (fB z):=by
 refine⟨fun H' i d k e=>?_,fun H' k=>by show z.cps.size<=(fB z).length;unfold fB;simp⟩
 unfold fB at e
 rw[List.getElem?_map]at e
 obtain⟨c,hc,rfl⟩:=Option.map_eq_some_iff.mp e
 have hi:=(List.getElem?_eq_some_iff.mp hc).1
 refine⟨by show i<z.cps.size;simpa using hi,fun x H'' y=>?_⟩
 obtain⟨rfl,c',hc',rfl⟩:=y
 have:c'=c:=by
  rw[Array.getElem?_toList]at hc
  rw[hc]at hc';exact(Option.some.inj hc').symm
 rw[this]
 exact⟨Same.refl _,rfl⟩
theorem m9 {tg l:Expr}{f:En->Res R}(hl:PD X E l f):vw X E tg l (o0 f):=by
 obtain⟨t,p1,s1⟩:=hl
 refine⟨_,vJ p1,fun g M ρ env σ H Rq rep p=>s1.one rep (P:=fun M H r=>PostI X.mg E g M ρ env σ H Rq r) p (fun _ _ z=>z) (fun _ _ _ z=>z) (fun _ _ _ _ _ e p=>p.ext e) fun r v M1 H1 e1 rep1 i1 q=>?_⟩
 unfold oZ at q
 cases z:r.d with
 |str x=>
  rw[z]at i1 q
  cases (show v=.str x from i1)
  exact⟨x,rfl,q _ M1 H1 (Ext.refl _ _) rep1 (qF x)⟩
 |_=>rw[z]at q;exact q.elim
noncomputable def m_:List R->Res R
 | [r]=>match r.d with
  | .str x=>(match PySem.intText? x with
   |some n=>if x.length<=100 then .ok (.val (.int n) true []) else .stuck
   |none=>.stuck)
  |_=>.stuck
 |_=>.stuck
theorem qG:CallR X (.type "int") (fun xs H Q=>∃ x n,xs=[.str x]/\PySem.intText? x=some n/\x.length<=100/\Q (.int n) H):=by
 intro pins s σ H xs us Q I r h
 obtain⟨x,n,rfl,hn,hl,q⟩:=h
 obtain⟨u,rfl,t,rfl⟩:=gw r
 exact PySem.W.KIN.call_text hn (by omega) ⟨.int n,H,I.tok _,⟨_,rfl⟩,q⟩
theorem vK:jz X E (.type "int") m_:=by
 refine⟨_,qG,fun g M ρ env σ H Q rs vs rep i p=>?_⟩
 match rs,i,p with
 | [r],i,p=>
  obtain⟨v,w,rfl,i1,i2⟩:=i
  cases i2
  have i1:Is H (vmsk g M (aT [r]) ρ (bh [r])) r.d v:=i1
  unfold m_ at p
  dsimp only at p
  cases z:r.d with
  |str x=>
   rw[z]at p i1
   dsimp only at p
   cases (show v=.str x from i1)
   cases hn:PySem.intText? x with
   |none=>rw[hn]at p;exact p.elim
   |some n=>
    rw[hn]at p
    dsimp only at p
    by_cases hc:x.length<=100
    ·rw[if_pos hc]at p
     exact⟨x,n,rfl,hn,hc,p _ M H (Ext.refl _ _) rep rfl⟩
    ·rw[if_neg hc]at p;exact p.elim
  |_=>rw[z]at p;exact p.elim
 | [],_,p=>exact p.elim
 |_::_::_,_,p=>exact p.elim
end
end L3
namespace L3
open PySem PySem.Spec PyProof.Rows L2
mutual
noncomputable def KtIs (K:PySem.W.Frag):D->V->Prop
 | .str x,v=>v=.str x
 | .tup ds,v=>∃ a vs,v=.ref a/\(∃ p∈K,mC p.2=some (a,vs))/\KtAll K ds vs
 |_,_=>False
noncomputable def KtAll (K:PySem.W.Frag):List D->List V->Prop
 | [],vs=>vs=[]
 |d::ds,vs=>∃ v r,vs=v::r/\KtIs K d v/\KtAll K ds r
end
section
variable {K:PySem.W.Frag}{H:Hp}{m:Addr->Prop}
mutual
theorem KtIs.is (kt:WrT K H):∀{d:D}{v:V},KtIs K d v->Is H m d v
 | .str _,_,h=>h
 | .tup ds,_,h=>by
  obtain⟨a,vs,e,⟨p,hp,hk⟩,r⟩:=h
  exact⟨a,vs,e,kt p hp a vs hk,KtAll.is kt r⟩
 | .non,_,h=>h.elim
 | .bl _,_,h=>h.elim
 | .int _,_,h=>h.elim
 | .lst _,_,h=>h.elim
 | .dic _ _,_,h=>h.elim
theorem KtAll.is (kt:WrT K H):∀{ds:List D}{vs:List V},KtAll K ds vs->IsAll H m ds vs
 | [],_,h=>h
 |d::ds,_,h=>by
  obtain⟨v,r,e,h1,h2⟩:=h
  exact⟨v,r,e,KtIs.is kt h1,KtAll.is kt h2⟩
end
end
section
variable {X:Cx}{E:XK}
theorem xh {x:Str} {d:D} {np:Pos} (hg:Gl X x) (h:∃ a,X.mg x=some (.ref a)/\KtIs X.K d (.ref a)) (hd:autoParam ((x==("__debug__" : Str))=false) autoD._auto_1):PD X E (.Name x np) (vC d):=by
 obtain⟨a,hm,hk⟩:=h
 refine⟨fun σ H Q=>WrT X.K H->Q (.ref a) H,fun pins s σ H Q I h=>lr (v:=.ref a) hg hm rfl hd pins s σ H Q I (h I.kt),fun g M ρ env σ H Q rep p kt=>?_⟩
 exact p _ M H (Ext.refl M H) rep (hk.is kt)
noncomputable def sV (kvs:List (Str×Int))(r:R):Res R:=match r.d with
 | .str k=>.ok (.val (.bl (dJ kvs k).isSome) true [])
 |_=>.stuck
noncomputable def sW (kvs:List (Str×Int))(f:En->Res R):En->Res R:=fun env=>(f env).bind (sV kvs)
theorem o5 {w:World}{k:Str}:∀{es:List DictEntry}{kvs:List (Str×Int)},n_ w es kvs->(valueAt (f7 es kvs) (.inr k:Key)).isSome=(dJ kvs k).isSome
 | [],[],_=>rfl
 |e::es,p::ps,h=>by
  unfold dJ f7 valueAt
  by_cases c:p.1=k
  ·rw[List.find?_cons,List.find?_cons,decide_eq_true c,decide_eq_true (by rw[c])];rfl
  ·rw[List.find?_cons,List.find?_cons,decide_eq_false c,decide_eq_false (fun z=>c (Sum.inr.inj z))]
   exact o5 h.2
 | [],_::_,h=>h.elim
 |_::_,[],h=>h.elim
theorem sX {a:Addr}{kvs:List (Str×Int)}(tb:TabAt X.w X.K a kvs)(hs:(a==sysModules)=false):OpR X (compareOp .In) (fun x y H Q=>∃ k,x=.str k/\y=.ref a/\Q (.bl (dJ kvs k).isSome) H):=by
 intro pins s σ H x y v u Q I rx ry h
 obtain⟨k,rfl,rfl,q⟩:=h
 cases ry
 obtain⟨es,ep,lk,te,nd⟩:=tb
 have dd:s.heap.DictOf (aV X.prog X.w) a (f7 es.toList kvs):=⟨_,es,ep,I.kIn _ _ lk,⟨rfl,rfl,rfl⟩,rfl,fun e he=>jI te e (by simpa using he),io te,by
  rw[lM te]
  have:((kvs.map (·.1)).map fun n=>(.inr n:Key)).Nodup:=by
   rw[List.Nodup,List.pairwise_map]
   exact nd.imp fun{a b} h e=>h (Sum.inr.inj e)
  rw[List.map_map]at this
  exact this⟩
 refine wpAny_in_of (ji (k:=.inr k) rx) hs dd.mapOf ?_
 rw[o5 te]
 exact⟨.bl _,H,I.tok _,rfl,q⟩
theorem sY {x:Str} {kvs:List (Str×Int)} {i:Expr} {f:En->Res R} {pos np:Pos} (hg:Gl X x) (tb:∃ a,X.mg x=some (.ref a)/\TabAt X.w X.K a kvs) (ns:∀ a,X.mg x=some (.ref a)->(a==sysModules)=false) (hi:PD X E i f) (hd:autoParam ((x==("__debug__" : Str))=false) autoD._auto_1) (hb:autoParam (behindInMarks .In (.Name x np)=false) autoR._auto_1) :
 PD X E (.Compare i [.In] [.Name x np] pos) (sW kvs f):=by
 obtain⟨a,hm,ta⟩:=tb
 obtain⟨t,p1,s1⟩:=hi
 refine⟨_,oE (sX ta (ns a hm)) p1 (lr (v:=.ref a) hg hm rfl hd) hb,fun g M ρ env σ H Q rep p=>s1.oneE rep p fun r v M1 H1 e1 rep1 i1 q1=>?_⟩
 unfold sV at q1
 cases hq:r.d with
 |str k=>
  rw[hq]at q1 i1
  exact⟨k,i1,rfl,q1 _ M1 H1 (Ext.refl _ _) rep1 rfl⟩
 |_=>rw[hq]at q1;exact q1.elim
noncomputable def Bj (scope:Scope)(tN:List Str):Bool:=
 (scope.kind==.function)&&scope.names.all (fun y=>y.2 != .cell&&y.2 != .free)&&scope.names.all (fun y=>y.2 != .local || scope.names.lookup y.1==some .local)&&tN.all (fun x=>scope.names.lookup x==some .local)&&decide tN.Nodup
theorem CScope.nil {X:Cx}{scope:Scope}{tN:List Str}(h:Bj scope tN=true):CScope X scope tN [] []:=by
 unfold Bj at h
 simp only[Bool.and_eq_true,List.all_eq_true,Bool.or_eq_true,beq_iff_eq,bne_iff_ne,decide_eq_true_eq,ne_eq]at h
 obtain⟨⟨⟨⟨a1,a2⟩,a3⟩,a4⟩,a5⟩:=h
 exact⟨a1,fun y hy=>(a2 y hy).1,fun y hy hl=>(a3 y hy).resolve_left fun z=>z hl,a4,fun y hy hf=>((a2 y hy).2 hf).elim,⟨fun k y e=>by simp at e,fun y hy=>by simp at hy,fun y hy=>by simp at hy,rfl⟩,by simpa using a5⟩
noncomputable def i9 (r:R):Res R:=match r.d with
 | .lst ds=>(match eL ds with
  |some xs=>if xs.length<=1000 then .ok (.val (.int ((ij xs).length:Nat)) true []) else .stuck
  |none=>.stuck)
 |_=>.stuck
noncomputable def lQ (f:En->Res R):En->Res R:=fun env=>(f env).bind i9
theorem qH {e:Expr}{f:En->Res R}{x1 x2:Str}{p1 p2 pos1 pos2:Pos}(hc:X.calm=true)(h:PD X E e f)
 (hg1:Gl X x1) (hm1:X.mg x1=none) (hv1:bootBuiltins x1=some (.builtin "len")) (hg2:Gl X x2) (hm2:X.mg x2=none) (hv2:bootBuiltins x2=some (.type "set"))
 (hn1:autoParam (x1≠"__name__") autoD._auto_1) (hdb1:autoParam ((x1==("__debug__" : Str))=false) autoD._auto_1) (hn2:autoParam (x2≠"__name__") autoD._auto_1) (hdb2:autoParam ((x2==("__debug__" : Str))=false) autoD._auto_1)
 (he2:autoParam (starEach [e] X.env=(false,eval e X.env)::starEach [] X.env) autoR._auto_1) (hpl2:autoParam ((backTo pos2 (starEach [] X.env)).any (·.1)=false) autoR._auto_1)
 (he1:autoParam (starEach [.Call (.Name x2 p2) [e] [] pos2] X.env=(false,eval (.Call (.Name x2 p2) [e] [] pos2) X.env)::starEach [] X.env) autoR._auto_1) (hpl1:autoParam ((backTo pos1 (starEach [] X.env)).any (·.1)=false) autoR._auto_1) :
 PD X E (.Call (.Name x1 p1) [.Call (.Name x2 p2) [e] [] pos2] [] pos1) (lQ f):=by
 obtain⟨t,p1,s1⟩:=h
 refine⟨_,jg nU hg1 hm1 hv1 (cP (kF (nT hc) hg2 hm2 hv2 (cP p1 dR he2) hn2 hdb2 he2 hpl2) dR he1) hn1 hdb1 he1 hpl1,fun g M ρ env σ H Q rep p=>?_⟩
 refine s1.oneE rep p fun r v M1 H1 e1 rep1 i1 q1=>?_
 unfold i9 at q1
 cases qd:r.d with
 |lst ds=>
  rw[qd]at q1 i1
  dsimp only at q1
  cases qt:eL ds with
  |none=>rw[qt]at q1;exact q1.elim
  |some xs=>
   rw[qt]at q1
   dsimp only at q1
   by_cases hz:xs.length<=1000
   ·rw[if_pos hz]at q1
    obtain⟨a,vs,rfl,h1,h2⟩:=i1
    cases jJ h2 qt
    refine⟨a,xs,rfl,h1.imp (·.1) (fun⟨o,z,_⟩=>⟨o,z⟩),hz,fun b hb=>⟨b,xs,rfl,aL,hz,?_⟩⟩
    have sm:Same H1 (bf H1 b (.ext fun h=>rY X.prog X.w h b xs)):=bz hb
    exact q1 _ M1 _ ⟨fun _ z=>z,sm,fun _ z=>.inl z⟩ (rep1.grow sm) rfl
   ·rw[if_neg hz]at q1;exact q1.elim
 |_=>rw[qd]at q1;exact q1.elim
noncomputable def sZ (env:En)(_:R):Res Fl:=.ok (.nx env)
noncomputable def s_ (f:En->Res R):En->Res Fl:=fun env=>(f env).bind (sZ env)
theorem tf {e:Expr}{f:En->Res R}{pos:Pos}(h:PD X E e f)(hs:autoParam (swapsWith e none pos.line X.env=pure false) autoR._auto_1):p_ X E (.Expr e pos) (s_ f):=by
 obtain⟨t,p1,s1⟩:=h
 refine⟨_,lu p1 hs,fun g M ρ env σ H D rep p=>s1.oneS rep p fun r v M' H' e rep' ro p'=>?_⟩
 exact p' σ M' ρ H' (Ext.refl _ _).frz rep'
end
end L3
namespace L3
open PySem PySem.Spec PyProof.Rows L2
section
variable {X:Cx}{E:XK}
theorem lc (y:Str):Str.empty++y=y:=by
 cases y with
 |mk a=>
  show(⟨#[]++a⟩ : Str)=⟨a⟩
  simp
theorem cH (a b:Str):(a++b).length=a.length+b.length:=by
 cases a with
 |mk a=>
  cases b with
  |mk b=>show(a++b).size=a.size+b.size;simp
theorem yS {ea eb:Expr}{c:Str}{j:Nat}{p1 p2 p3 pos:Pos}{ta tb:TE}(ha:PE X ea ta)(hb:PE X eb tb) :
 PE X (.JoinedStr [.FormattedValue ea (-1) none p1,.Constant (.str c) j p2,.FormattedValue eb (-1) none p3] pos) (fun σ H Q=>ta σ H fun x H1=>∃ a,x=.str a/\a.length+c.length<=sizeLine/\tb σ H1 fun y H2=>∃ b,y=.str b/\a.length+c.length+b.length<=sizeLine/\Q (.str (a++c++b)) H2):=by
 intro pins s σ H Q I h
 refine JoinedStr_many (joinParts_cons (FormattedValue_plain (b7 (ha pins s σ H _ I h) fun u s1 ⟨x,H1,I1,rx,a,ex,hz,q1⟩=>?_)))
 subst ex
 obtain⟨t,rfl⟩:=rx
 refine formatField_str (fun t' tk=>?_) (by omega)
 refine⟨by rw[lc];omega,?_⟩
 rw[lc]
 refine joinParts_cons (b7 ((rz (X:=X) (x:=c) (j:=j) (pos:=p2)) pins _ σ H1 (fun v H'=>v=.str c/\H'=H1) (I1.tok tk) ⟨rfl,rfl⟩) fun u s2 ⟨x,H2,I2,rx,ex,eh⟩=>?_)
 subst ex eh
 obtain⟨t2,rfl⟩:=rx
 refine⟨by rw[cH];exact hz,?_⟩
 show wpAny _ _ (joinParts (a++c) [eval (.FormattedValue eb (-1) none p3) X.env]) _ _ _
 refine joinParts_cons (FormattedValue_plain (b7 (hb pins s2 σ _ _ I2 q1) fun u s3 ⟨y,H3,I3,ry,b,ey,hz2,q2⟩=>?_))
 subst ey
 obtain⟨t3,rfl⟩:=ry
 refine formatField_str (fun t' tk=>?_) (by omega)
 refine⟨by rw[cH,cH];exact hz2,?_⟩
 exact joinParts_nil ⟨.str _,H3,(I3.tok tk).tok _,⟨_,rfl⟩,q2⟩ (by rw[cH,cH];exact hz2)
noncomputable def o6 (c a:Str)(r:R):Res R:=match r.d with
 | .str b=>if a.length+c.length+b.length<=1000000 then .ok (.val (.str (a++c++b)) true []) else .stuck
 |_=>.stuck
noncomputable def na (c:Str)(fb:En->Res R)(env:En)(ra:R):Res R:=match ra.d with
 | .str a=>if a.length+c.length<=1000000 then (fb env).bind (o6 c a) else .stuck
 |_=>.stuck
noncomputable def yT (c:Str)(fa fb:En->Res R):En->Res R:=fun env=>(fa env).bind (na c fb env)
theorem yU {ea eb:Expr}{c:Str}{j:Nat}{p1 p2 p3 pos:Pos}{fa fb:En->Res R}(ha:PD X E ea fa)(hb:PD X E eb fb) :
 PD X E (.JoinedStr [.FormattedValue ea (-1) none p1,.Constant (.str c) j p2,.FormattedValue eb (-1) none p3] pos) (yT c fa fb):=by
 obtain⟨ta,pa,sa⟩:=ha
 obtain⟨tb,pb,sb⟩:=hb
 have hs:1000000<=sizeLine:=by decide
 refine⟨_,yS pa pb,fun g M ρ env σ H Q rep p=>?_⟩
 have p:PostE X.mg E g M ρ env σ H Q ((fa env).bind (na c fb env)):=p
 refine sa.oneE rep p fun ra v M1 H1 e1 rep1 i1 q1=>?_
 unfold na at q1
 cases hq:ra.d with
 |str a=>
  rw[hq]at q1 i1
  dsimp only at q1
  by_cases hz:a.length+c.length<=1000000
  ·rw[if_pos hz]at q1
   refine⟨a,i1,Nat.le_trans hz hs,sb.oneE rep1 q1 fun rb y M2 H2 e2 rep2 i2 q2=>?_⟩
   unfold o6 at q2
   cases hr:rb.d with
   |str b=>
    rw[hr]at q2 i2
    dsimp only at q2
    by_cases hz2:a.length+c.length+b.length<=1000000
    ·rw[if_pos hz2]at q2
     exact⟨b,i2,Nat.le_trans hz2 hs,q2 _ M2 H2 (Ext.refl _ _) rep2 rfl⟩
    ·rw[if_neg hz2]at q2;exact q2.elim
   |_=>rw[hr]at q2;exact q2.elim
  ·rw[if_neg hz]at q1;exact q1.elim
 |_=>rw[hq]at q1;exact q1.elim
end
end L3
set_option autoImplicit false
namespace L3
open PySem L2
section
variable {env env':En}{i j:Nat}{d:D}{ds es:List D}{f g:Bool}{al bl:List Nat}{x y:Int}
noncomputable def kS (k:En->Res Fl):Fl->Res Fl
 | .nx env'=>k env'
 |r=>.ok r
theorem o7 (f k:En->Res Fl)(env:En):aE f k env=(f env).bind (kS k):=by
 rfl
theorem Dd (k:En->Res Fl)(e:En):kS k (.nx e)=k e:=(rfl)
theorem De (k:En->Res Fl)(r:R):kS k (.rt r)=.ok (.rt r):=(rfl)
noncomputable def Df (a b:En->Res Fl)(env:En)(k:Bool):Res Fl:=if k then a env else b env
theorem yV (c:En->Res Bool)(a b:En->Res Fl)(env:En):dX c a b env=(c env).bind (Df a b env):=(rfl)
theorem Bk (a b:En->Res Fl)(env:En):Df a b env true=a env:=(rfl)
theorem Bl (a b:En->Res Fl)(env:En):Df a b env false=b env:=(rfl)
theorem Bm (env:En):bt env=.ok (.nx env):=(rfl)
noncomputable def Bn (r:R):Res Fl:=.ok (.rt r)
theorem Bo (a:En->Res R)(env:En):aX a env=(a env).bind Bn:=(rfl)
theorem yW (r:R):Bn r=.ok (.rt r):=(rfl)
noncomputable def Bp (i:Nat)(env:En)(r:R):Res Fl:=if i<env.length then .ok (.nx (put env i r)) else .stuck
theorem Bq (i:Nat)(a:En->Res R)(env:En):ca i a env=(a env).bind (Bp i env):=(rfl)
theorem yX (r:R)(h:i<env.length):Bp i env r=.ok (.nx (put env i r)):=if_pos h
theorem yY:put env i (.val d f [])=env.set i (some (.val d f)):=(rfl)
theorem yZ:put env i (.new ds f)=env.set i (some (.own ds f)):=(rfl)
theorem y0:put env i (.fre d)=env.set i (some (.tre d)):=(rfl)
noncomputable def y3 (i:Nat):Option (Option Sl)->Res R
 |some (some (.val d fr))=>.ok (mkV d fr [])
 |some (some (.own ds fr))=>.ok (.val (.lst ds) fr [i])
 |some (some (.tre d))=>.ok (.val d true [i])
 |some (some (.pin d))=>.ok (.val d true [i])
 |some (some (.dis d))=>.ok (.val d true [i])
 |_=>.stuck
theorem Br (i:Nat)(env:En):ah i env=y3 i env[i]?:=by unfold ah y3;rfl
theorem Bs:y3 i (some (some (.val d f)))=.ok (mkV d f []):=(rfl)
theorem Bt:y3 i (some (some (.own ds f)))=.ok (.val (.lst ds) f [i]):=(rfl)
theorem Bu:y3 i (some (some (.tre d)))=.ok (.val d true [i]):=(rfl)
theorem Bv:y3 i (some (some (.pin d)))=.ok (.val d true [i]):=(rfl)
theorem vL:y3 i (some (some (.dis d)))=.ok (.val d true [i]):=(rfl)
theorem D0 (d:D)(env:En):vC d env=.ok (.val d true []):=(rfl)
theorem y6 (h:d.flat=true):mkV d f al=.val d true []:=by unfold mkV;rw[if_pos h]
theorem y9 (h:d.flat=false):mkV d f al=.val d f al:=by unfold mkV;rw[if_neg (by rw[h];simp)]
theorem bu (h:D.flats ds=true):jr ds f al=.new ds true:=by unfold jr;rw[if_pos h]
theorem o8:jr ds true []=.new ds true:=by unfold jr;split<;>rfl
noncomputable def DL (op:R->R->Res R)(fb:En->Res R)(env:En)(ra:R):Res R:=(fb env).bind (op ra)
theorem Dg (op:R->R->Res R)(fa fb:En->Res R)(env:En):v2 op fa fb env=(fa env).bind (DL op fb env):=(rfl)
theorem Bw (op:R->R->Res R)(fb:En->Res R)(env:En)(ra:R):DL op fb env ra=(fb env).bind (op ra):=(rfl)
theorem Bx:bc (.val (.int x) f al) (.val (.int y) g bl)=.ok (.val (.int (x+y)) true []):=(rfl)
theorem By:nW (.val (.int x) f al) (.val (.int y) g bl)=.ok (.val (.int (x-y)) true []):=(rfl)
theorem y_ (h1:-18446744073709551616<y)(h2:y<18446744073709551616):jt (.val (.int x) f al) (.val (.int y) g bl)=.ok (.val (.int (x*y)) true []):=by
 have:sr x y=true:=by
  unfold sr
  rw[Bool.or_eq_true,Bool.and_eq_true,Bool.and_eq_true]
  exact .inr ⟨decide_eq_true (by omega),decide_eq_true (by omega)⟩
 show(if sr x y=true then _ else _)=_
 rw[if_pos this]
theorem Bz (h:0<y):kf (.val (.int x) f al) (.val (.int y) g bl)=.ok (.val (.int (x % y)) true []):=by
 show(if decide (0<y)=true then _ else _)=_
 rw[if_pos (decide_eq_true h)]
theorem BA (h:0<y)(h2:y<1073741824):ss (.val (.int x) f al) (.val (.int y) g bl)=.ok (.val (.int (x / y)) true []):=by
 show(if (decide (0<y)&&decide (y<1073741824))=true then _ else _)=_
 rw[if_pos (by rw[decide_eq_true h,decide_eq_true h2];rfl)]
theorem Dh:Cq (.val (.int x) f al) (.val (.int y) g bl)=.ok (.val (.bl (decide (x<y))) true []):=(rfl)
theorem za:su (.val (.int x) f al) (.val (.int y) g bl)=.ok (.val (.bl (decide (x<=y))) true []):=(rfl)
theorem Di:vq (.val (.int x) f al) (.val (.int y) g bl)=.ok (.val (.bl (decide (y<=x))) true []):=(rfl)
theorem eU {a b:R}(h:a.d.dep<=50)(h2:b.d.dep<=50):jv a b=.ok (.val (.bl (cq a.d b.d)) true []):=by unfold jv;rw[if_pos ⟨h,h2⟩]
theorem nc {a b:R}(h:a.d.dep<=50)(h2:b.d.dep<=50):nJ a b=.ok (.val (.bl (!cq a.d b.d)) true []):=by unfold nJ;rw[if_pos ⟨h,h2⟩]
theorem cI:cq (.int x) (.int y)=(x==y):=(rfl)
noncomputable def tj (xs ys:List D)(f:Bool)(al:List Nat):Res R:=if xs.length+ys.length<=lim then .ok (jr (xs++ys) f al) else .stuck
theorem vM:bc (.val (.lst ds) f al) (.val (.lst es) g bl)=tj ds es (f&&g) (al++bl):=(rfl)
theorem vN:bc (.val (.lst ds) f al) (.new es g)=tj ds es (f&&g) (al++[]):=(rfl)
theorem vO:bc (.new ds f) (.val (.lst es) g bl)=tj ds es (f&&g) ([]++bl):=(rfl)
theorem vP:bc (.new ds f) (.new es g)=tj ds es (f&&g) []:=(rfl)
theorem jN (h:ds.length+es.length<=1000000):tj ds es f al=.ok (jr (ds++es) f al):=if_pos h
noncomputable def xi (fs:En->Res (List R))(env:En)(r:R):Res (List R):=(fs env).bind (fun rs=>.ok (r::rs))
noncomputable def tm (r:R)(rs:List R):Res (List R):=.ok (r::rs)
theorem zb (env:En):ao env=.ok []:=(rfl)
theorem vQ (a:En->Res R)(fs:En->Res (List R))(env:En):ad a fs env=(a env).bind (xi fs env):=(rfl)
theorem vR (fs:En->Res (List R))(env:En)(r:R):xi fs env r=(fs env).bind (tm r):=(rfl)
theorem tp (r:R)(rs:List R):tm r rs=.ok (r::rs):=(rfl)
noncomputable def BB (rs:List R):Res R:=if rs.length<=lim then .ok (mkV (.tup (rs.map R.d)) (aT rs) (bh rs)) else .stuck
theorem BC (fs:En->Res (List R))(env:En):dC fs env=(fs env).bind BB:=(rfl)
theorem zc (rs:List R)(h:rs.length<=1000000):BB rs=.ok (mkV (.tup (rs.map R.d)) (aT rs) (bh rs)):=if_pos h
noncomputable def BD (rs:List R):Res R:=if rs.length<=lim then .ok (jr (rs.map R.d) (aT rs) (bh rs)) else .stuck
theorem BE (fs:En->Res (List R))(env:En):fZ fs env=(fs env).bind BD:=(rfl)
theorem zd (rs:List R)(h:rs.length<=1000000):BD rs=.ok (jr (rs.map R.d) (aT rs) (bh rs)):=if_pos h
theorem tq:aT []=true:=(rfl)
theorem ld (r:R)(rs:List R):aT (r::rs)=(r.fr&&aT rs):=(rfl)
theorem tu:bh []=[]:=(rfl)
theorem qI (r:R)(rs:List R):bh (r::rs)=r.al++bh rs:=(rfl)
noncomputable def xj (F:List D->Res R)(rs:List R):Res R:=(F (rs.map R.d)).bind (fun r=>.ok (dD rs r))
noncomputable def tw (rs:List R)(r:R):Res R:=.ok (dD rs r)
theorem ze (F:List D->Res R)(fs:En->Res (List R))(env:En):aG F fs env=(fs env).bind (xj F):=(rfl)
theorem vS (F:List D->Res R)(rs:List R):xj F rs=(F (rs.map R.d)).bind (tw rs):=(rfl)
theorem tz (rs:List R)(r:R):tw rs r=.ok (dD rs r):=(rfl)
theorem tB (rs:List R)(h:d.flat=true):dD rs (.val d f al)=.val d true []:=if_pos h
theorem gH (rs:List R)(h:d.flat=false):dD rs (.val d true al)=.fre d:=by
 show uS d true rs=_
 unfold uS;rw[if_neg (by rw[h];simp),if_pos rfl]
theorem tD (rs:List R)(h:d.flat=false):dD rs (.val d false al)=.val d (aT rs) (bh rs):=by
 show uS d false rs=_
 unfold uS;rw[if_neg (by rw[h];simp),if_neg (by simp)]
theorem ng (rs:List R)(h:D.flats ds=true):dD rs (.new ds f)=.new ds true:=by
 show(if D.flats ds=true then _ else _)=_
 rw[if_pos h]
theorem qJ (rs:List R)(h:D.flats ds=false):dD rs (.new ds true)=.fre (.lst ds):=by
 show(if D.flats ds=true then _ else _)=_
 rw[if_neg (by rw[h];simp),if_pos rfl]
theorem Dj (k:List R->Res R)(fs:En->Res (List R))(env:En):dW k fs env=(fs env).bind k:=(rfl)
noncomputable def tE:D->Res R
 | .lst ds=>.ok (.val (.int ds.length) true [])
 | .tup ds=>.ok (.val (.int ds.length) true [])
 | .str z=>if z.length<=lim then .ok (.val (.int z.length) true []) else .stuck
 |_=>.stuck
theorem BF (r:R):cg [r]=tE r.d:=by unfold cg tE;rfl
theorem zf:tE (.lst ds)=.ok (.val (.int ds.length) true []):=(rfl)
theorem zg:tE (.tup ds)=.ok (.val (.int ds.length) true []):=(rfl)
noncomputable def kB (ra:R):Res Bool:=match ra.d with
 | .bl b=>.ok b
 |_=>.stuck
theorem Dk (a:En->Res R)(env:En):vB a env=(a env).bind kB:=(rfl)
theorem Dm (b:Bool):kB (.val (.bl b) f al)=.ok b:=(rfl)
noncomputable def zh (ra:R):Res Bool:=tru ra.d
theorem zi (a:En->Res R)(env:En):dB a env=(a env).bind zh:=(rfl)
theorem zj (b:Bool):zh (.val (.bl b) f al)=.ok b:=(rfl)
noncomputable def xk (b:Bool):Res Bool:=.ok (!b)
theorem zk (a:En->Res Bool)(env:En):ff a env=(a env).bind xk:=(rfl)
theorem vT (b:Bool):xk b=.ok (!b):=(rfl)
noncomputable def tF (b:En->Res Bool)(env:En)(k:Bool):Res Bool:=if k then b env else .ok false
noncomputable def zl (b:En->Res Bool)(env:En)(k:Bool):Res Bool:=if k then .ok true else b env
theorem zn (a b:En->Res Bool)(env:En):iU a b env=(a env).bind (tF b env):=(rfl)
theorem BG (a b:En->Res Bool)(env:En):ms a b env=(a env).bind (zl b env):=(rfl)
theorem zo (b:En->Res Bool)(env:En):tF b env true=b env:=(rfl)
theorem zp (b:En->Res Bool)(env:En):tF b env false=.ok false:=(rfl)
theorem BH (b:En->Res Bool)(env:En):zl b env true=.ok true:=(rfl)
theorem BI (b:En->Res Bool)(env:En):zl b env false=b env:=(rfl)
noncomputable def tG (b:En->Res R)(env:En)(ra:R):Res R:=match ra.d with
 | .bl true=>b env
 | .bl false=>.ok (.val (.bl false) true [])
 |_=>.stuck
theorem zq (a b:En->Res R)(env:En):sw a b env=(a env).bind (tG b env):=(rfl)
theorem vU (b:En->Res R)(env:En):tG b env (.val (.bl true) f al)=b env:=(rfl)
theorem vV (b:En->Res R)(env:En):tG b env (.val (.bl false) f al)=.ok (.val (.bl false) true []):=(rfl)
noncomputable def zr (b:En->Res R)(env:En)(ra:R):Res R:=match ra.d with
 | .bl true=>.ok (.val (.bl true) true [])
 | .bl false=>b env
 |_=>.stuck
theorem BJ (a b:En->Res R)(env:En):C4 a b env=(a env).bind (zr b env):=(rfl)
theorem zt (b:En->Res R)(env:En):zr b env (.val (.bl true) f al)=.ok (.val (.bl true) true []):=(rfl)
theorem zu (b:En->Res R)(env:En):zr b env (.val (.bl false) f al)=b env:=(rfl)
noncomputable def xl (ra:R):Res R:=match ra.d with
 | .bl b=>.ok (.val (.bl (!b)) true [])
 |_=>.stuck
theorem zv (a:En->Res R)(env:En):yx a env=(a env).bind xl:=(rfl)
theorem zw (b:Bool):xl (.val (.bl b) f al)=.ok (.val (.bl (!b)) true []):=(rfl)
noncomputable def xm (f:Bool)(al:List Nat):Option D->Res R
 |some d=>.ok (mkV d f al)
 |none=>.stuck
noncomputable def iV (a b:D)(f:Bool)(al:List Nat):Res R:=match a,b with
 | .lst xs,.int i=>xm f al (atI xs i)
 | .tup xs,.int i=>xm f al (atI xs i)
 | .str z,.int i=>if z.length<=lim then (match atI z.cps.toList i with
  |some c=>.ok (.val (.str ⟨#[c]⟩) true [])
  |none=>.stuck) else .stuck
 |_,_=>.stuck
theorem Dn (a b:R):mt a b=iV a.d b.d a.fr a.al:=by
 unfold mt iV xm;rfl
theorem BK {k:Int}:iV (.lst ds) (.int k) f al=xm f al (atI ds k):=(rfl)
theorem BL {k:Int}:iV (.tup ds) (.int k) f al=xm f al (atI ds k):=(rfl)
theorem BM:xm f al (some d)=.ok (mkV d f al):=(rfl)
noncomputable def vW (ds:List D)(fr:Bool)(rb:R):Res R:=match rb.d with
 | .int k=>match atI ds k with
  |some d=>.ok (mkV d fr [])
  |none=>.stuck
 |_=>.stuck
noncomputable def qK (i:Nat)(fb:En->Res R)(env:En):Option (Option Sl)->Res R
 |some (some (.own ds fr))=>(fb env).bind (vW ds fr)
 |_=>v2 mt (ah i) fb env
theorem BN (i:Nat)(fb:En->Res R)(env:En):aR i fb env=qK i fb env env[i]?:=by unfold aR qK;rfl
theorem zx (fb:En->Res R):qK i fb env (some (some (.own ds f)))=(fb env).bind (vW ds f):=(rfl)
theorem zy (fb:En->Res R):qK i fb env (some (some (.val d f)))=v2 mt (ah i) fb env:=(rfl)
theorem zA (fb:En->Res R):qK i fb env (some (some (.tre d)))=v2 mt (ah i) fb env:=(rfl)
theorem zB {k:Int}:vW ds f (.val (.int k) g al)=xm f [] (atI ds k):=by unfold vW xm;rfl
theorem DG {α:Type}(a:α)(l:List α):atI (a::l) 0=some a:=by
 unfold atI j_;rw[if_pos (by omega),if_pos (by simp)];rfl
theorem D1 {α:Type}(a b:α)(l:List α):atI (a::b::l) 1=some b:=by
 unfold atI j_;rw[if_pos (by omega),if_pos (by simp;omega)];rfl
theorem D2 {α:Type}(a b c:α)(l:List α):atI (a::b::c::l) 2=some c:=by
 unfold atI j_;rw[if_pos (by omega),if_pos (by simp;omega)];rfl
theorem D6 {α:Type}(a b c d:α)(l:List α):atI (a::b::c::d::l) 3=some d:=by
 unfold atI j_;rw[if_pos (by omega),if_pos (by simp;omega)];rfl
noncomputable def kO (r:R):Res (Option Int):=match r.d with
 | .int i=>.ok (some i)
 |_=>.stuck
theorem vX (env:En):cZ env=.ok none:=(rfl)
theorem vY (a:En->Res R)(env:En):cE a env=(a env).bind kO:=(rfl)
theorem Do:kO (.val (.int x) f al)=.ok (some x):=(rfl)
noncomputable def BO (T:String)(r:R):Res R:=.ok (.val (.bl (rq T r.d)) true [])
theorem BP (T:String)(a:En->Res R)(env:En):gh T a env=(a env).bind (BO T):=(rfl)
theorem zC (T:String)(r:R):BO T r=.ok (.val (.bl (rq T r.d)) true []):=(rfl)
theorem tH:rq "int" (.int x)=true:=(rfl)
theorem zD:rq "bool" (.int x)=false:=(rfl)
theorem zE:rq "list" (.lst ds)=true:=(rfl)
theorem zF:rq "tuple" (.tup ds)=true:=(rfl)
noncomputable def BQ (asg:D->Bool->En->Option En)(body:En->Res Fl)(env:En)(s:Src):Res Fl:=cr asg s.fr body s.xs (frz env s.al)
theorem BR (src:En->Res Src)(asg:D->Bool->En->Option En)(body:En->Res Fl)(env:En):gC src asg body env=(src env).bind (BQ asg body env):=(rfl)
theorem zG (asg:D->Bool->En->Option En)(body:En->Res Fl)(env:En)(xs:List D):BQ asg body env ⟨xs,f,al⟩=cr asg f body xs (frz env al):=(rfl)
noncomputable def qL (r:R):Res Src:=match r.d with
 | .lst ds=>.ok ⟨ds,r.fr,r.al⟩
 | .tup ds=>.ok ⟨ds,r.fr,r.al⟩
 |_=>.stuck
theorem zH (a:En->Res R)(env:En):fj a env=(a env).bind qL:=(rfl)
theorem tI:qL (.val (.lst ds) f al)=.ok ⟨ds,f,al⟩:=(rfl)
theorem tJ:qL (.val (.tup ds) f al)=.ok ⟨ds,f,al⟩:=(rfl)
theorem vZ:qL (.new ds f)=.ok ⟨ds,f,[]⟩:=(rfl)
theorem tL:qL (.fre (.lst ds))=.ok ⟨ds,true,[]⟩:=(rfl)
theorem tM:qL (.fre (.tup ds))=.ok ⟨ds,true,[]⟩:=(rfl)
noncomputable def DM (rs:List R):Res Src:=match rs.map R.d with
 | [.int j]=>if cR j then .ok ⟨fg 0 j.toNat,true,[]⟩ else .stuck
 |_=>.stuck
theorem BS (fs:En->Res (List R))(env:En):Av fs env=(fs env).bind DM:=(rfl)
theorem BT (h1:-4611686018427387904<=x)(h2:x<4611686018427387904):cR x=true:=by
 unfold cR;rw[Bool.and_eq_true];exact⟨decide_eq_true (by omega),decide_eq_true (by omega)⟩
theorem o9 (h1:-4611686018427387904<=x)(h2:x<4611686018427387904):DM [.val (.int x) f al]=.ok ⟨fg 0 x.toNat,true,[]⟩:=if_pos (BT h1 h2)
noncomputable def o_ (rs:List R):Res Src:=match rs with
 | [r]=>match r.d with
  | .lst ds=>.ok ⟨cG 0 ds,r.fr,r.al⟩
  |_=>.stuck
 |_=>.stuck
theorem v0 (fs:En->Res (List R))(env:En):oT fs env=(fs env).bind o_:=(rfl)
theorem tO:o_ [.val (.lst ds) f al]=.ok ⟨cG 0 ds,f,al⟩:=(rfl)
theorem tP:o_ [.new ds f]=.ok ⟨cG 0 ds,f,[]⟩:=(rfl)
theorem tQ:o_ [.fre (.lst ds)]=.ok ⟨cG 0 ds,true,[]⟩:=(rfl)
theorem tR:frz env []=env:=(rfl)
noncomputable def tS (n:Nat)(caps:List Nat)(asg:D->Bool->En->Option En)(test:En->Res Bool)(elt:En->Res R)(env:En)(s:Src):Res R:=if s.xs.length<=lim then
 (dF (fun d=>asg d s.fr (cO env n caps)) test elt s.xs).noX.bind fun rs=>.ok (jr (rs.map R.d) (aT rs) (s.al++caps.filter (isOwn env))) else .stuck
theorem zI (n:Nat)(caps:List Nat)(src:En->Res Src)(asg:D->Bool->En->Option En)(test:En->Res Bool)(elt:En->Res R)(env:En) :
 bV n caps src asg test elt env=(src env).bind (tS n caps asg test elt env):=(rfl)
theorem b5 {n:Nat}{caps:List Nat}{asg:D->Bool->En->Option En}{test:En->Res Bool}{elt:En->Res R}{xs:List D}{rs:List R}(hl:xs.length<=1000000)
 (h:dF (fun d=>asg d f (cO env n caps)) test elt xs=.ok rs):tS n caps asg test elt env ⟨xs,f,al⟩=.ok (jr (rs.map R.d) (aT rs) (al++caps.filter (isOwn env))):=by
 unfold tS;dsimp only;rw[if_pos (show xs.length<=lim from hl),h];rfl
theorem aZ {α:Type}{mk:D->Option En}{test:En->Res Bool}{elt:En->Res R}(g:α->D)(k:α->R):∀(xs:List α),(∀ a∈xs,∃ e,mk (g a)=some e/\test e=.ok true/\elt e=.ok (k a))->dF mk test elt (xs.map g)=.ok (xs.map k)
 | [],_=>rfl
 |a::r,h=>by
  obtain⟨e,h1,h2,h3⟩:=h a (by simp)
  rw[List.map_cons,List.map_cons]
  unfold dF
  rw[h1];dsimp only
  rw[h2];dsimp only[Res.bind]
  rw[if_pos rfl,h3,aZ g k r fun b hb=>h b (by simp[hb])]
noncomputable def qM (i:Nat)(env:En)(ds:List D)(fr:Bool)(r:R):Res Fl:=if ds.length<lim/\¬ i∈r.al then .ok (.nx ((frz env r.al).set i (some (.own (ds++[r.d]) (fr&&r.fr))))) else .stuck
noncomputable def pd (i:Nat)(a:En->Res R)(env:En):Option (Option Sl)->Res Fl
 |some (some (.own ds fr))=>(a env).bind (qM i env ds fr)
 |some (some (.tre (.lst ds)))=>(a env).bind (qM i env ds true)
 |_=>.stuck
theorem BU (a:En->Res R)(env:En):lI i a env=pd i a env env[i]?:=by
 unfold lI jB pd
 cases env[i]? with
 |none=>rfl
 |some o=>cases o with
  |none=>rfl
  |some s=>cases s with
   |tre d=>cases d<;>rfl
   |_=>rfl
theorem zJ (a:En->Res R):pd i a env (some (some (.own ds f)))=(a env).bind (qM i env ds f):=(rfl)
theorem zK (a:En->Res R):pd i a env (some (some (.tre (.lst ds))))=(a env).bind (qM i env ds true):=(rfl)
theorem jO {r:R}(h:ds.length<1000000)(hr:r.al=[]):qM i env ds f r=.ok (.nx (env.set i (some (.own (ds++[r.d]) (f&&r.fr))))):=by
 unfold qM;rw[hr];rw[if_pos ⟨h,by simp⟩];rfl
end
theorem gI (x:Int):(D.int x).flat=true:=(rfl)
theorem v3 (x:Bool):(D.bl x).flat=true:=(rfl)
theorem jP (x:Str):(D.str x).flat=true:=(rfl)
theorem tT:D.non.flat=true:=(rfl)
theorem fC (ds:List D):(D.tup ds).flat=D.flats ds:=(rfl)
theorem gJ (ds:List D):(D.lst ds).flat=false:=(rfl)
theorem lf:D.flats []=true:=(rfl)
theorem ba (d:D)(ds:List D):D.flats (d::ds)=(d.flat&&D.flats ds):=(rfl)
theorem v4 (x:Int):(D.int x).dep=0:=(rfl)
theorem zL (x:Bool):(D.bl x).dep=0:=(rfl)
theorem v5 (x:Str):(D.str x).dep=0:=(rfl)
theorem v6:D.non.dep=0:=(rfl)
theorem pf (ds:List D):(D.tup ds).dep=D.deps ds+1:=(rfl)
theorem v7 (ds:List D):(D.lst ds).dep=D.deps ds+1:=(rfl)
theorem nh:D.deps []=0:=(rfl)
theorem lg (d:D)(ds:List D):D.deps (d::ds)=max d.dep (D.deps ds):=(rfl)
theorem zM (r:R):kP (.ok (.rt r))=.ok r:=(rfl)
theorem zN (e:En):kP (.ok (.nx e))=.ok (.val .non true []):=(rfl)
theorem v8 (d:D)(f:Bool)(al:List Nat):(R.val d f al).d=d:=(rfl)
theorem v9 (ds:List D)(f:Bool):(R.new ds f).d=.lst ds:=(rfl)
theorem v_ (d:D):(R.fre d).d=d:=(rfl)
theorem tU (d:D)(f:Bool)(al:List Nat):(R.val d f al).fr=f:=(rfl)
theorem tV (ds:List D)(f:Bool):(R.new ds f).fr=f:=(rfl)
theorem tW (d:D):(R.fre d).fr=true:=(rfl)
theorem tX (d:D)(f:Bool)(al:List Nat):(R.val d f al).al=al:=(rfl)
theorem tY (ds:List D)(f:Bool):(R.new ds f).al=[]:=(rfl)
theorem tZ (d:D):(R.fre d).al=[]:=(rfl)
theorem jQ {α β:Type}(a:α)(k:α->Res β):(Res.ok a).bind k=k a:=(rfl)
noncomputable def BV:D->Res R
 | .lst ds=>match c0 ds with
  |some bs=>.ok (.val (.bl (bs.all id)) true [])
  |none=>.stuck
 |_=>.stuck
theorem ni (r:R):mY [r]=BV r.d:=by
 rcases r with⟨d,f,al⟩|⟨ds,f⟩|⟨d⟩<;>first|rfl|(cases d<;>rfl)
theorem fW {α:Type}(xs:List α):BV (.lst (xs.map fun _=>D.bl true))=.ok (.val (.bl true) true []):=by
 have:∀ xs:List α,c0 (xs.map fun _=>D.bl true)=some (xs.map fun _=>true):=by
  intro xs
  induction xs with
  |nil=>rfl
  |cons a r ih=>rw[List.map_cons];unfold c0;rw[ih];rfl
 show(match c0 (xs.map fun _=>D.bl true) with|some bs=>Res.ok (R.val (D.bl (bs.all id)) true [])|none=>Res.stuck)=_
 rw[this];dsimp only
 congr 3
 rw[List.all_eq_true]
 intro x hx
 obtain⟨_,_,rfl⟩:=List.mem_map.mp hx
 rfl
theorem D7:((0:Nat):Int)=0:=(rfl)
theorem D8:((1:Nat):Int)=1:=(rfl)
theorem D9:((2:Nat):Int)=2:=(rfl)
theorem D_:((3:Nat):Int)=3:=(rfl)
theorem Ea:((4:Nat):Int)=4:=(rfl)
theorem BW {α β:Type}(c:Str)(k:α->Res β):(Res.exc c:Res α).bind k=.exc c:=(rfl)
theorem wa (c:Str):kP (.exc c)=.exc c:=(rfl)
noncomputable def t0 (c:Str)(rs:List R):Res Fl:=if rs.length<=lim then .exc c else .stuck
theorem wb (c:Str)(fs:En->Res (List R))(env:En):cw c fs env=(fs env).bind (t0 c):=(rfl)
theorem t4 {c:Str}{rs:List R}(h:rs.length<=1000000):t0 c rs=.exc c:=if_pos h
noncomputable def Dp:D->Res R
 | .int i=>.ok (.val (.int (-i)) true [])
 |_=>.stuck
noncomputable def BX (r:R):Res R:=Dp r.d
theorem BY (fa:En->Res R)(env:En):sI fa env=(fa env).bind BX:=by
 unfold sI;congr 1
theorem zO {x:Int}{f:Bool}{al:List Nat}:BX (.val (.int x) f al)=.ok (.val (.int (-x)) true []):=(rfl)
theorem wc:D.non.isNon=true:=(rfl)
theorem we (x:Int):(D.int x).isNon=false:=(rfl)
theorem wf (x:List D):(D.tup x).isNon=false:=(rfl)
theorem wg (x:List D):(D.lst x).isNon=false:=(rfl)
theorem Res.noX_ok {α:Type}(a:α):(Res.ok a).noX=.ok a:=(rfl)
noncomputable def lR (neg:Bool)(a b:D):Res R:=match b with
 | .dic ks _=>sM neg a ks
 | .lst ds=>xf neg a ds
 | .tup ds=>xf neg a ds
 |_=>.stuck
theorem xn (neg:Bool)(a b:R):qx neg a b=lR neg a.d b.d:=by
 unfold qx n8 lR
 cases b.d<;>rfl
theorem Dq (a b:R):qy a b=lR false a.d b.d:=xn false a b
theorem ph (a b:R):fS a b=lR true a.d b.d:=xn true a b
theorem nk (ks:List DK)(ds:List D):(D.dic ks ds).flat=false:=(rfl)
noncomputable def Ds (xs ys:List D)(f:Bool)(al:List Nat):Res R:=if xs.length+ys.length<=lim/\xs≠[] then .ok (mkV (.tup (xs++ys)) f al) else .stuck
theorem zP {xs ys:List D}{f g:Bool}{al bl:List Nat}:bc (.val (.tup xs) f al) (.val (.tup ys) g bl)=Ds xs ys (f&&g) (al++bl):=(rfl)
theorem qN {rs:List R}{d:D}(h:d.flat=false):dD rs (.fre d)=.fre d:=by
 show uS d true rs=_
 unfold uS;rw[if_neg (by rw[h];simp),if_pos rfl]
theorem zQ {b:Bool}:rq "bool" (.bl b)=true:=(rfl)
theorem Dt (k:En->Res Fl)(r:R)(e:En):kS k (.rm r e)=.ok (.rm r e):=(rfl)
noncomputable def xo (i:Nat)(env:En)(r:R):Res Fl:=if i<env.length then .ok (.nx ((frz env r.al).set i (some (.val r.d r.fr)))) else .stuck
theorem zR (i:Nat)(a:En->Res R)(env:En):cp i a env=(a env).bind (xo i env):=(rfl)
theorem gK {i:Nat}{env:En}{r:R}(h:i<env.length):xo i env r=.ok (.nx ((frz env r.al).set i (some (.val r.d r.fr)))):=if_pos h
theorem wj {ds:List D}{f:Bool}{al:List Nat}:zh (.val (.lst ds) f al)=.ok (!ds.isEmpty):=(rfl)
noncomputable def xp (fl fh:En->Res (Option Int))(env:En)(r:R):Res R:=(fl env).bind fun lo=>(fh env).bind fun hi=>fq r lo hi
noncomputable def xq (fh:En->Res (Option Int))(env:En)(r:R)(lo:Option Int):Res R:=(fh env).bind fun hi=>fq r lo hi
theorem t5 (fa:En->Res R)(fl fh:En->Res (Option Int))(env:En):bg fa fl fh env=(fa env).bind (xp fl fh env):=(rfl)
theorem wl (fl fh:En->Res (Option Int))(env:En)(r:R):xp fl fh env r=(fl env).bind (xq fh env r):=(rfl)
theorem wn (fh:En->Res (Option Int))(env:En)(r:R)(lo:Option Int):xq fh env r lo=(fh env).bind (fq r lo):=(rfl)
theorem wo {ds:List D}{f:Bool}{al:List Nat}(lo hi:Option Int):fq (.val (.lst ds) f al) lo hi=.ok (jr (bW ds lo hi) f al):=(rfl)
theorem wq {ds:List D}{f:Bool}(lo hi:Option Int):fq (.new ds f) lo hi=.ok (jr (bW ds lo hi) f []):=(rfl)
theorem wt {ds:List D}{f:Bool}{al:List Nat}(lo hi:Option Int):fq (.val (.tup ds) f al) lo hi=.ok (mkV (.tup (bW ds lo hi)) f al):=(rfl)
theorem wu {z:Str}{f:Bool}{al:List Nat}(lo hi:Option Int)(h:z.length<=1000000):fq (.val (.str z) f al) lo hi=.ok (.val (.str (Txt.slice z lo hi)) true []):=if_pos h
theorem wv {f g:Bool}{al bl:List Nat}:vD (.val (.int 10) f al) (.val (.int 60) g bl)=.ok (.val (.int 1000000000000000000000000000000000000000000000000000000000000) true []):=(rfl)
noncomputable def BZ (i:Nat)(env:En)(s:Src):Res Fl:=if s.xs.length<=lim/\i<env.length then .ok (.nx (env.set i (some (.dis (.lst (s.xs.map fun _=>.lst [])))))) else .stuck
theorem B0 (i:Nat)(src:En->Res Src)(env:En):vE i src env=(src env).bind (BZ i env):=(rfl)
theorem zS {i:Nat}{env:En}{xs:List D}{f:Bool}{al:List Nat}(h:xs.length<=1000000)(h2:i<env.length):BZ i env ⟨xs,f,al⟩=.ok (.nx (env.set i (some (.dis (.lst (xs.map fun _=>.lst [])))))):=if_pos ⟨h,h2⟩
noncomputable def jR (i:Nat)(fe fv:En->Res R)(env:En):Option (Option Sl)->Res Fl
 |some (some (.dis (.lst ds)))=>(fe env).bind (dI i fv env ds)
 |_=>.stuck
theorem t6 (i:Nat)(fe fv:En->Res R)(env:En):gE i fe fv env=jR i fe fv env env[i]?:=by unfold gE jR;rfl
theorem oa {i:Nat}{fe fv:En->Res R}{env:En}{ds:List D}:jR i fe fv env (some (some (.dis (.lst ds))))=(fe env).bind (dI i fv env ds):=(rfl)
theorem oe {i:Nat}{fv:En->Res R}{env:En}{ds:List D}{k:Int}{f:Bool}{al:List Nat}{j:Nat}{es:List D}(h:j_ ds.length k=some j)(h2:ds[j]?=some (.lst es)):dI i fv env ds (.val (.int k) f al)=(fv env).bind (fw i env ds j es):=by
 show gD i fv env ds (j_ ds.length k)=_
 rw[h];unfold gD;dsimp only;rw[h2]
theorem og {i:Nat}{env:En}{ds:List D}{j:Nat}{es:List D}{r:R}(h:r.d.flat=true)(h2:es.length<1000000)(h3:ds.all fT=true):fw i env ds j es r=.ok (.nx (env.set i (some (.dis (.lst (ds.set j (.lst (es++[r.d])))))))):=if_pos ⟨h,h2,h3⟩
theorem ww (fs:En->Res (List R))(env:En):jH fs env=(fs env).bind k_:=(rfl)
theorem t7 {ds es:List D}{f g:Bool}{al bl:List Nat}:k_ [.val (.lst ds) f al,.val (.lst es) g bl]=.ok ⟨dn ds es,f&&g,al++bl⟩:=(rfl)
theorem t8 {ds es:List D}{f g:Bool}{al bl:List Nat}:k_ [.val (.tup ds) f al,.val (.tup es) g bl]=.ok ⟨dn ds es,f&&g,al++bl⟩:=(rfl)
theorem t9 {i:Nat}{fb:En->Res R}{env:En}{d:D}:qK i fb env (some (some (.dis d)))=v2 mt (ah i) fb env:=(rfl)
theorem B1 (kvs:List (Str×Int))(f:En->Res R)(env:En):yN kvs f env=(f env).bind (vH kvs):=(rfl)
theorem t_ {kvs:List (Str×Int)}{k:Str}{v:Int}{f:Bool}{al:List Nat}(h:dJ kvs k=some v):vH kvs (.val (.str k) f al)=.ok (.val (.int v) true []):=by
 show(match dJ kvs k with|some v=>(Res.ok (R.val (.int v) true []):Res R)|none=>.stuck)=_
 rw[h]
end L3
local macro_rules|`(tactic| simp_arith[$as,*] $[$l:location]?)=>do
 let ls←("L3.cb L3.gf L3.B1 L3.t_ L3.t9 L3.vL L3.t5 L3.wl L3.wn L3.wo L3.wq L3.wt L3.wu L3.wv L3.B0 L3.zS L3.t6 L3.oa L3.ww L3.t7 L3.t8 L3.BJ L3.zt L3.zu L3.Dt L3.zR L3.gK L3.Bv L3.wj decide_true decide_false List.map_cons List.map_nil List.length_cons List.length_nil List.replicate List.cons_append List.nil_append List.append_nil Nat.reduceAdd Nat.max_self Nat.zero_max Nat.max_zero Nat.zero_add Nat.reduceSub L3.o7 L3.Bq L3.Dg L3.Bw L3.Br L3.Bs L3.Bt L3.Bu L3.y6 L3.y9 L3.gI L3.v3 L3.jP L3.tT L3.fC L3.gJ L3.lf L3.ba L3.v4 L3.zL L3.v5 L3.v6 L3.pf L3.v7 L3.nh L3.lg L3.D0 L3.jQ List.getElem?_cons_zero List.getElem?_cons_succ L3.Bz L3.BA L3.Bx L3.By L3.y_ Int.reduceLT Int.reduceLE Int.reduceNeg L3.yX L3.yY L3.yZ L3.y0 L3.Dd L3.De List.set_cons_zero List.set_cons_succ Nat.reduceLT Nat.reduceLeDiff L3.yV L3.Bk L3.Bl L3.Bm L3.Bo L3.yW L3.Dh L3.za L3.Di L3.cI L3.vM L3.vN L3.vO L3.vP L3.zb L3.vQ L3.vR L3.tp L3.BC L3.zc L3.BE L3.zd L3.tq L3.ld L3.tu L3.qI L3.ze L3.vS L3.tz L3.tB L3.gH L3.tD L3.ng L3.qJ L3.Dj L3.BF L3.zf L3.zg L3.Dk L3.Dm L3.zi L3.zj L3.zk L3.vT L3.zn L3.BG L3.zo L3.zp L3.BH L3.BI L3.zq L3.vU L3.vV L3.zv L3.zw L3.Dn L3.BK L3.BL L3.BM L3.BN L3.zx L3.zy L3.zA L3.zB L3.DG L3.D1 L3.D2 L3.D6 L3.vX L3.vY L3.Do L3.BP L3.zC L3.tH L3.zD L3.zE L3.zF L3.BR L3.zG L3.zH L3.tI L3.tJ L3.vZ L3.tL L3.tM L3.BS L3.v0 L3.tO L3.tP L3.tQ L3.tR L3.wc L3.we L3.wf L3.wg L3.BW L3.wa L3.wb L3.t4 L3.Res.noX_ok L3.BY L3.zO L3.D7 L3.D8 L3.D9 L3.D_ L3.Ea Int.reduceBEq L3.ni Bool.not_not Nat.reduceEqDiff L3.zI L3.BU L3.zJ L3.zK L3.v8 L3.v9 L3.v_ L3.tU L3.tV L3.tW L3.tX L3.tY L3.tZ Bool.and_true Bool.true_and Bool.and_false Bool.false_and Bool.and_self Bool.not_true Bool.not_false L3.zM L3.zN L3.bu L3.o8 L3.Dq L3.ph L3.nk L3.zP L3.zQ L3.qN".splitOn " ").toArray.mapM fun s=>`(Lean.Parser.Tactic.simpLemma| $(Lean.mkIdent s.toName):ident)
 `(tactic| simp only[$[$ls:simpLemma],*,$as,*] $[$l]?)
local macro_rules|`(tactic| simp_arith $[$l:location]?)=>`(tactic| simp_arith[L3.jQ] $[$l]?)
namespace L3
open PySem L2
theorem ua {α β:Type}(g:α->β)(xs:List α)(lo hi:Option Int):bW (xs.map g) lo hi=(bW xs lo hi).map g:=by
 unfold bW;rw[List.length_map,List.map_take,List.map_drop]
theorem ub {α:Type}(xs:List α)(lo hi:Option Int):(bW xs lo hi).length<=xs.length:=by
 unfold bW;rw[List.length_take,List.length_drop];omega
theorem uc {α:Type}(xs:List α):bW xs (some 1) none=xs.tail:=by
 unfold bW
 have h1:HT.sIx xs.length 0 (some 1)=min 1 xs.length:=HT.sIx_nat xs.length 0 1
 have h2:HT.sIx xs.length xs.length none=xs.length:=rfl
 rw[h1,h2]
 cases xs with
 |nil=>rfl
 |cons a r=>
  have:min 1 (a::r).length=1:=by simp
  rw[this];simp
theorem bX {ds:List D}:(∀ d∈ds,d.flat=true)->D.flats ds=true:=by
 induction ds with
 |nil=>intro _;rfl
 |cons d r ih=>intro h;rw[ba,h d (by simp),ih fun x hx=>h x (by simp[hx])];rfl
theorem aK {α:Type}(g:α->D)(xs:List α)(h:∀ a,(g a).flat=true):D.flats (xs.map g)=true:=
 bX fun d hd=>by obtain⟨a,_,rfl⟩:=List.mem_map.mp hd;exact h a
theorem cx (xs:List Int):D.flats (xs.map D.int)=true:=aK _ _ gI
theorem pi {ds:List D}{n:Nat}:(∀ d∈ds,d.dep<=n)->D.deps ds<=n:=by
 induction ds with
 |nil=>intro _;rw[nh];omega
 |cons d r ih=>
  intro h
  have h1:=h d (by simp)
  have h2:=ih fun x hx=>h x (by simp[hx])
  rw[lg];omega
theorem ud {α:Type}{g:α->D}{xs:List α}{n:Nat}(h:∀ a,(g a).dep<=n):D.deps (xs.map g)<=n:=
 pi fun d hd=>by obtain⟨a,_,rfl⟩:=List.mem_map.mp hd;exact h a
theorem fE {α:Type}(g:α->D)(fr:Bool)(al:List Nat)(xs:List α):(xs.map fun a=>R.val (g a) fr al).map R.d=xs.map g:=by rw[List.map_map];rfl
theorem iy {α:Type}(g:α->D):∀(xs:List α)(n:Nat),cG n (xs.map g)=(xs.zipIdx n).map fun p=>.tup [.int (p.2:Nat),g p.1]
 | [],_=>rfl
 |a::r,n=>by rw[List.map_cons,List.zipIdx_cons,List.map_cons];unfold cG;rw[iy g r (n+1)]
theorem i_ (n:Nat):fg 0 n=(List.range n).map fun k=>.int (k:Nat):=by
 unfold fg;congr 1;funext k;simp
theorem nn {α:Type}(g:α->D){asg:D->Bool->En->Option En}{fr:Bool}{body:En->Res Fl}(P:List α->En->Prop):∀(xs pre:List α)(env:En),P pre env->
 (∀(pre post:List α)(a:α)(env:En),(∀ b∈pre,b∈pre)->P pre env->a∈xs->∃ dz env2,asg (g a) fr env=some dz/\body dz=.ok (.nx env2)/\P (pre++[a]) env2)->
 ∃ env',cr asg fr body (xs.map g) env=.ok (.nx env')/\P (pre++xs) env'
 | [],pre,env,h,_=>⟨env,rfl,by rw[List.append_nil];exact h⟩
 |a::r,pre,env,h,st=>by
  obtain⟨dz,env2,h1,h2,h3⟩:=st pre [] a env (fun _ z=>z) h (by simp)
  obtain⟨env',e1,e2⟩:=nn g P r (pre++[a]) env2 h3 fun p q b e z hp hb=>st p q b e z hp (by simp[hb])
  refine⟨env',?_,by rw[List.append_assoc]at e2;exact e2⟩
  rw[List.map_cons]
  unfold cr
  rw[h1];dsimp only
  rw[h2];exact e1
theorem cB {α:Type}(g:α->D){asg:D->Bool->En->Option En}{fr:Bool}{body:En->Res Fl}(all:List α)(P:List α->En->Prop):∀(xs pre:List α)(env:En),all=pre++xs->P pre env->
 (∀(pre post:List α)(a:α)(env:En),all=pre++a::post->P pre env->∃ dz env2,asg (g a) fr env=some dz/\body dz=.ok (.nx env2)/\P (pre++[a]) env2)->
 ∃ env',cr asg fr body (xs.map g) env=.ok (.nx env')/\P all env'
 | [],pre,env,e,h,_=>⟨env,rfl,by rw[e,List.append_nil];exact h⟩
 |a::r,pre,env,e,h,st=>by
  obtain⟨dz,env2,h1,h2,h3⟩:=st pre r a env e h
  obtain⟨env',e1,e2⟩:=cB g all P r (pre++[a]) env2 (by rw[e];simp) h3 st
  refine⟨env',?_,e2⟩
  rw[List.map_cons]
  unfold cr
  rw[h1];dsimp only
  rw[h2];exact e1
theorem lS {α β:Type}(g:α->β)(xs:List α)(k:Int):atI (xs.map g) k=(atI xs k).map g:=by
 unfold atI;rw[List.length_map]
 cases j_ xs.length k with
 |none=>rfl
 |some j=>simp
theorem lT {α:Type}{xs:List α}{k:Int}(h0:0<=k)(h:k<xs.length):∃ a,atI xs k=some a/\xs[k.toNat]?=some a:=by
 unfold atI j_;rw[if_pos h0,if_pos h]
 have:k.toNat<xs.length:=by omega
 exact⟨xs[k.toNat],by simp[this],by simp[this]⟩
structure Rl where
 room:Int
 sign:Int
 to:Int
 put:List Int
noncomputable def Rl.d (r:Rl):D:=.tup [.int r.room,.int r.sign,.int r.to,.tup (r.put.map .int)]
theorem Rl.flat (r:Rl):r.d.flat=true:=by unfold Rl.d;simp only[fC,ba,gI,cx,lf,Bool.and_self]
end L3
namespace W
open PySem PySem.Spec PyProof.Rows L2 L3
noncomputable def top (i:Nat):Stmt:=PySem.Challenge.pw_callwalk_k52_shown_read_again.main.body.getD i (.Pass ⟨0,0,0,0⟩)
noncomputable abbrev s__law_cell_at:Stmt:=top 26
noncomputable abbrev fF:List Str:=["_law_script", "_law_k"]
noncomputable abbrev P__law_cell_at:List Str:=["_law_script", "_law_k"]
theorem iW:FnScope fF P__law_cell_at (defScope s__law_cell_at):=⟨rfl,rfl,rfl,by decide +kernel,rfl,by decide +kernel,by decide +kernel⟩
noncomputable def c5:En->Res Fl:=
 (aE (dX (vB (v2 Cq (ah 1) (dW cg (ad (ah 0) ao)))) (aX (v2 kf (aR 0 (ah 1)) (v2 vD (vC (.int 10)) (vC (.int 60))))) bt)
 (aX (vC (.int 0))))
noncomputable def bp:List D->Res R:=cb fF c5
noncomputable abbrev s__law_digit:Stmt:=top 27
noncomputable abbrev gL:List Str:=["_law_cell", "_law_prime", "_law_many"]
noncomputable abbrev P__law_digit:List Str:=["_law_cell", "_law_prime", "_law_many"]
theorem kh:FnScope gL P__law_digit (defScope s__law_digit):=⟨rfl,rfl,rfl,by decide +kernel,rfl,by decide +kernel,by decide +kernel⟩
noncomputable def gM:En->Res Fl:=
 (aX (v2 kf (v2 kf (v2 bc (v2 jt (v2 kf (ah 0) (v2 vD (vC (.int 10)) (vC (.int 60)))) (vC (.int 48271))) (vC (.int 11))) (ah 1)) (ah 2)))
noncomputable def aA:List D->Res R:=cb gL gM
noncomputable abbrev s__law_word:Stmt:=top 28
noncomputable abbrev iL:List Str:=["_law_number", "_law_some"]
noncomputable abbrev P__law_word:List Str:=["_law_number"]
theorem sc__law_word:FnScope iL P__law_word (defScope s__law_word):=⟨rfl,rfl,rfl,by decide +kernel,rfl,by decide +kernel,by decide +kernel⟩
noncomputable def iM:En->Res Fl:=
 (aE (ca 1 (fZ (ad (vC (.str "call")) (ad (vC (.str "back")) (ad (vC (.str "values")) (ad (vC (.str "own")) (ad (vC (.str "shared")) (ad (vC (.str "end")) (ad (vC (.str "come")) (ad (vC (.str "skip")) (ad (vC (.str "stop")) (ad (vC (.str "surely")) (ad (vC (.str "longest")) (ad (vC (.str "any")) ao))))))))))))))
 (aX (aR 1 (v2 kf (ah 0) (vC (.int 12))))))
noncomputable def dh:List D->Res R:=cb iL iM
noncomputable abbrev s__law_names:Stmt:=top 29
noncomputable abbrev gO:List Str:=["_law_cell", "_law_others", "_law_size", "_law_base", "_law_k", "_law_spot", "_law_lot", "_law_sign", "_law_name", "_law_at"]
noncomputable abbrev P__law_names:List Str:=["_law_cell"]
theorem sc__law_names:FnScope gO P__law_names (defScope s__law_names):=⟨rfl,rfl,rfl,by decide +kernel,rfl,by decide +kernel,by decide +kernel⟩
noncomputable def ck:En->Res Fl:=fun env=>
 (ca 3 (v2 bc (ah 3) (v2 mt (vC (.str "abcdefghijklmnopqrstuvwxyz")) (aG aA (ad (v2 bc (ah 0) (v2 jt (v2 jt (vC (.int 5)) (ah 4)) (ah 4))) (ad (vC (.int 1093)) (ad (vC (.int 26)) ao))))))) env
noncomputable def c6:En->Res Fl:=fun env=>
 (aE (ca 7 (v2 mt (vC (.str "bcdefghjklopqrstuvwxyz")) (v2 kf (v2 bc (ah 0) (v2 jt (ah 4) (v2 bc (vC (.int 1)) (v2 kf (v2 ss (ah 0) (vC (.int 22))) (vC (.int 7)))))) (vC (.int 22)))))
 (aE (ca 8 (v2 bc (v2 bc (bg (ah 3) cZ (cE (ah 5))) (ah 7)) (bg (ah 3) (cE (v2 bc (ah 5) (vC (.int 1)))) cZ)))
 (aE (dX (vB (v2 jv (ah 6) (vC (.int 2)))) (ca 8 (v2 bc (vC (.str "main")) (ah 7))) bt)
 (aE (dX (vB (v2 jv (ah 6) (vC (.int 3)))) (ca 8 (bg (vC (.str "main")) cZ (cE (v2 bc (vC (.int 1)) (ah 4))))) bt)
 (aE (dX (vB (v2 jv (ah 6) (vC (.int 4)))) (cp 8 (aG dh (ad (v2 bc (v2 ss (ah 0) (vC (.int 7))) (v2 jt (ah 4) (v2 bc (vC (.int 1)) (v2 kf (v2 ss (ah 0) (vC (.int 12))) (vC (.int 5)))))) ao))) bt)
 (lI 1 (ah 8))))))) env
noncomputable def gP:En->Res Fl:=
 (aE (ca 1 (fZ ao))
 (aE (ca 2 (v2 bc (vC (.int 1)) (aG aA (ad (ah 0) (ad (vC (.int 1063)) (ad (vC (.int 8)) ao))))))
 (aE (ca 3 (vC (.str "")))
 (aE (gC (Av (ad (ah 2) ao)) (gN 4) ck)
 (aE (cp 5 (aG aA (ad (ah 0) (ad (vC (.int 1069)) (ad (ah 2) ao)))))
 (aE (cp 6 (aG aA (ad (ah 0) (ad (vC (.int 1087)) (ad (vC (.int 5)) ao)))))
 (aE (gC (Av (ad (aG aA (ad (ah 0) (ad (vC (.int 1061)) (ad (vC (.int 4)) ao)))) ao)) (gN 4) c6)
 (aE (cp 9 (aG aA (ad (ah 0) (ad (vC (.int 1091)) (ad (v2 bc (dW cg (ad (ah 1) ao)) (vC (.int 1))) ao)))))
 (aX (v2 bc (v2 bc (bg (ah 1) cZ (cE (ah 9))) (fZ (ad (vC (.str "main")) ao))) (bg (ah 1) (cE (ah 9)) cZ)))))))))))
noncomputable def cT:List D->Res R:=cb gO gP
noncomputable abbrev s__law_row:Stmt:=top 30
noncomputable abbrev jS:List Str:=["_law_cell", "_law_values", "_law_many", "_law_names_here", "_law_last", "_law_lot", "_law_side", "_law_which", "_law_number", "_law_goal"]
noncomputable abbrev P__law_row:List Str:=["_law_cell", "_law_values", "_law_many", "_law_names_here", "_law_last"]
theorem sc__law_row:FnScope jS P__law_row (defScope s__law_row):=⟨rfl,rfl,rfl,by decide +kernel,rfl,by decide +kernel,by decide +kernel⟩
noncomputable def ki:En->Res Fl:=fun env=>
 (aX (dC (ad (vC (.str "skip")) ao))) env
noncomputable def kj:En->Res Fl:=fun env=>
 (aE (dX (vB (v2 vq (ah 5) (vC (.int 10)))) (aX (dC (ad (v2 mt (fZ (ad (vC (.str "back")) (ad (vC (.str "stop")) ao))) (v2 nW (ah 5) (vC (.int 10)))) ao))) bt)
 ki) env
noncomputable def kn:En->Res Fl:=fun env=>
 (aE (dX (iU (vB (v2 vq (ah 5) (vC (.int 7)))) (vB (v2 su (ah 5) (vC (.int 9))))) (aX (dC (ad (v2 mt (fZ (ad (vC (.str "go")) (ad (vC (.str "fork")) (ad (vC (.str "fork")) ao)))) (v2 nW (ah 5) (vC (.int 7)))) (ad (ah 9) ao)))) bt)
 kj) env
noncomputable def kq:En->Res Fl:=fun env=>
 (aE (dX (ms (vB (v2 jv (ah 5) (vC (.int 5)))) (vB (v2 jv (ah 5) (vC (.int 6))))) (aX (dC (ad (vC (.str "if")) (ad (ah 7) (ad (ah 8) (ad (ah 9) ao)))))) bt)
 kn) env
noncomputable def lU:En->Res Fl:=fun env=>
 (aE (dX (ms (vB (v2 jv (ah 5) (vC (.int 3)))) (vB (v2 jv (ah 5) (vC (.int 4))))) (aX (dC (ad (v2 mt (fZ (ad (vC (.str "any")) (ad (vC (.str "turn")) ao))) (v2 nW (ah 5) (vC (.int 3)))) (ad (ah 7) ao)))) bt)
 kq) env
noncomputable def lV:En->Res Fl:=fun env=>
 (aE (dX (ms (vB (v2 jv (ah 5) (vC (.int 1)))) (vB (v2 jv (ah 5) (vC (.int 2))))) (aX (dC (ad (vC (.str "set")) (ad (ah 7) (ad (ah 8) ao))))) bt)
 lU) env
noncomputable def d6:En->Res Fl:=fun env=>
 (aE (dX (vB (v2 vq (ah 5) (vC (.int 12)))) (aX (dC (ad (vC (.str "call")) (ad (aR 3 (aG aA (ad (ah 0) (ad (vC (.int 1031)) (ad (dW cg (ad (ah 3) ao)) ao))))) ao)))) bt)
 lV) env
noncomputable def gQ:En->Res Fl:=fun env=>
 (aE (cp 9 (aG aA (ad (ah 0) (ad (vC (.int 1021)) (ad (ah 2) ao)))))
 d6) env
noncomputable def gR:En->Res Fl:=fun env=>
 (aE (cp 8 (aG aA (ad (ah 0) (ad (vC (.int 1019)) (ad (aR 1 (ah 6)) ao)))))
 gQ) env
noncomputable def gS:En->Res Fl:=fun env=>
 (aE (ca 7 (v2 mt (fZ (ad (vC (.str "shared")) (ad (vC (.str "own")) ao))) (ah 6)))
 gR) env
noncomputable def d7:En->Res Fl:=fun env=>
 (aE (cp 6 (aG aA (ad (ah 0) (ad (vC (.int 1013)) (ad (vC (.int 2)) ao)))))
 gS) env
noncomputable def d8:En->Res Fl:=fun env=>
 (aE (dX (dB (ah 4)) (ca 5 (v2 mt (fZ (ad (vC (.int 7)) (ad (vC (.int 10)) (ad (vC (.int 11)) ao)))) (aG aA (ad (ah 0) (ad (vC (.int 1009)) (ad (vC (.int 3)) ao)))))) bt)
 d7) env
noncomputable def gj:En->Res Fl:=
 (aE (cp 5 (aG aA (ad (ah 0) (ad (vC (.int 1009)) (ad (vC (.int 14)) ao)))))
 d8)
noncomputable def c7:List D->Res R:=cb jS gj
noncomputable abbrev s__law_program:Stmt:=top 31
noncomputable abbrev c8:List Str:=["_law_cells_here", "_law_values", "_law_names_here", "_law_seed", "_law_dealt", "_law_cell", "_law_procedures", "_law_k", "_law_name", "_law_own", "_law_rows", "_law_at"]
noncomputable abbrev P__law_program:List Str:=["_law_cells_here", "_law_values", "_law_names_here", "_law_seed"]
theorem sc__law_program:FnScope c8 P__law_program (defScope s__law_program):=⟨rfl,rfl,rfl,by decide +kernel,rfl,by decide +kernel,by decide +kernel⟩
theorem gk:((["_law_name"]:List Str)++([]:List Str)).Nodup:=by decide +kernel
noncomputable def bL:En->Res Fl:=fun env=>
 (gE 4 (aG aA (ad (ah 5) (ad (vC (.int 1051)) (ad (dW cg (ad (ah 2) ao)) ao)))) (ah 5)) env
noncomputable def bM:En->Res Fl:=fun env=>
 (lI 10 (aG c7 (ad (ah 5) (ad (ah 1) (ad (dW cg (ad (ah 9) ao)) (ad (ah 2) (ad (v2 jv (ah 11) (v2 nW (dW cg (ad (ah 9) ao)) (vC (.int 1)))) ao))))))) env
noncomputable def bN:En->Res Fl:=fun env=>
 (aE (ca 9 (v2 bc (aR 4 (ah 7)) (fZ (ad (v2 bc (ah 3) (v2 jt (v2 jt (vC (.int 7)) (ah 7)) (ah 7))) ao))))
 (aE (ca 10 (fZ ao))
 (aE (gC (oT (ad (ah 9) ao)) (gT 2 (ay (gN 11) (ay (gN 5) bj))) bM)
 (lI 6 (dC (ad (ah 8) (ad (ah 10) ao))))))) env
noncomputable def fG:En->Res Fl:=
 (aE (vE 4 (fj (ah 2)))
 (aE (gC (fj (ah 0)) (gN 5) bL)
 (aE (ca 6 (fZ ao))
 (aE (gC (oT (ad (ah 2) ao)) (gT 2 (ay (gN 7) (ay (gN 8) bj))) bN)
 (aX (dC (ad (aR 1 (vC (.int 0))) (ad (aR 1 (vC (.int 1))) (ad (ah 6) ao)))))))))
noncomputable def bH:List D->Res R:=cb c8 fG
noncomputable abbrev s__law_cells:Stmt:=top 32
noncomputable abbrev gU:List Str:=["_law_script", "_law_cell", "_law_cells_here", "_law_k"]
noncomputable abbrev P__law_cells:List Str:=["_law_script", "_law_cell"]
theorem sc__law_cells:FnScope gU P__law_cells (defScope s__law_cells):=⟨rfl,rfl,rfl,by decide +kernel,rfl,by decide +kernel,by decide +kernel⟩
noncomputable def c9:En->Res Fl:=fun env=>
 (lI 2 (v2 bc (ah 1) (v2 jt (v2 jt (vC (.int 1051)) (ah 3)) (ah 3)))) env
noncomputable def d9:En->Res Fl:=
 (aE (ca 2 (bg (ah 0) (cE (vC (.int 2))) (cE (vC (.int 102)))))
 (aE (dX (vB (v2 jv (aG aA (ad (ah 1) (ad (vC (.int 1049)) (ad (vC (.int 8)) ao)))) (vC (.int 3)))) (gC (Av (ad (v2 bc (vC (.int 40)) (aG aA (ad (ah 1) (ad (vC (.int 1103)) (ad (vC (.int 61)) ao))))) ao)) (gN 3) c9) bt)
 (aX (ah 2))))
noncomputable def bO:List D->Res R:=cb gU d9
noncomputable abbrev s_row_shown:Stmt:=top 22
noncomputable abbrev fH:List Str:=["row"]
noncomputable abbrev P_row_shown:List Str:=["row"]
theorem lW:FnScope fH P_row_shown (defScope s_row_shown):=⟨rfl,rfl,rfl,by decide +kernel,rfl,by decide +kernel,by decide +kernel⟩
theorem iX:((["word"]:List Str)++([]:List Str)).Nodup:=by decide +kernel
noncomputable def dr:En->Res R:=fun env=>
 (dW kStr (ad (ah 0) ao)) env
noncomputable def nq:En->Res Fl:=
 (aX (f8 (vC (.str " ")) (bV 1 [] (fj (ah 0)) (gN 0) (fun _=>.ok true) dr)))
noncomputable def b_:List D->Res R:=cb fH nq
noncomputable abbrev s_procedure_shown:Stmt:=top 23
noncomputable abbrev cm:List Str:=["name", "rows", "told"]
noncomputable abbrev P_procedure_shown:List Str:=["name", "rows"]
theorem sc_procedure_shown:FnScope cm P_procedure_shown (defScope s_procedure_shown):=⟨rfl,rfl,rfl,by decide +kernel,rfl,by decide +kernel,by decide +kernel⟩
theorem eV:((["row"]:List Str)++([]:List Str)).Nodup:=by decide +kernel
noncomputable def bU:En->Res R:=fun env=>
 (aG b_ (ad (ah 0) ao)) env
noncomputable def di:En->Res Fl:=
 (aE (ca 2 (f8 (vC (.str ", ")) (bV 1 [] (fj (ah 1)) (gN 0) (fun _=>.ok true) bU)))
 (aX (yT ": " (ah 0) (ah 2))))
noncomputable def bE:List D->Res R:=cb cm di
noncomputable abbrev s_shown:Stmt:=top 24
noncomputable abbrev lX:List Str:=["program", "values"]
noncomputable abbrev P_shown:List Str:=["program"]
theorem sc_shown:FnScope lX P_shown (defScope s_shown):=⟨rfl,rfl,rfl,by decide +kernel,rfl,by decide +kernel,by decide +kernel⟩
theorem iN:((["name", "rows"]:List Str)++([]:List Str)).Nodup:=by decide +kernel
noncomputable def iz:En->Res R:=fun env=>
 (aG bE (ad (ah 0) (ad (ah 1) ao))) env
noncomputable def pj:En->Res Fl:=
 (aE (cp 1 (aG b_ (ad (dC (ad (vC (.str "values")) (ad (aR 0 (vC (.int 0))) (ad (aR 0 (vC (.int 1))) ao)))) ao)))
 (aX (f8 (vC (.str "; ")) (v2 bc (fZ (ad (ah 1) ao)) (bV 2 [] (fj (aR 0 (vC (.int 2)))) (gT 2 (ay (gN 0) (ay (gN 1) bj))) (fun _=>.ok true) iz)))))
noncomputable def ja:List D->Res R:=cb lX pj
noncomputable abbrev s__law_text:Stmt:=top 33
noncomputable abbrev fJ:List Str:=["_law_program_here", "_law_parts", "_law_name", "_law_rows"]
noncomputable abbrev P__law_text:List Str:=["_law_program_here"]
theorem sc__law_text:FnScope fJ P__law_text (defScope s__law_text):=⟨rfl,rfl,rfl,by decide +kernel,rfl,by decide +kernel,by decide +kernel⟩
theorem iY:((["_law_row_here"]:List Str)++([]:List Str)).Nodup:=by decide +kernel
theorem iZ:((["_law_word_here"]:List Str)++([]:List Str)).Nodup:=by decide +kernel
noncomputable def dt:En->Res R:=fun env=>
 (dW kStr (ad (ah 0) ao)) env
noncomputable def bY:En->Res R:=fun env=>
 (f8 (vC (.str " ")) (bV 1 [] (fj (ah 0)) (gN 0) (fun _=>.ok true) dt)) env
noncomputable def cC:En->Res Fl:=fun env=>
 (lI 1 (v2 bc (v2 bc (ah 2) (vC (.str ": "))) (f8 (vC (.str ", ")) (bV 1 [] (fj (ah 3)) (gN 0) (fun _=>.ok true) bY)))) env
noncomputable def iO:En->Res Fl:=
 (aE (ca 1 (fZ (ad (v2 bc (v2 bc (v2 bc (vC (.str "values ")) (dW kStr (ad (aR 0 (vC (.int 0))) ao))) (vC (.str " "))) (dW kStr (ad (aR 0 (vC (.int 1))) ao))) ao)))
 (aE (gC (fj (aR 0 (vC (.int 2)))) (gT 2 (ay (gN 2) (ay (gN 3) bj))) cC)
 (aX (f8 (vC (.str "; ")) (ah 1)))))
noncomputable def dj:List D->Res R:=cb fJ iO
noncomputable abbrev s__law_whole:Stmt:=top 34
noncomputable abbrev gW:List Str:=["_law_found"]
noncomputable abbrev P__law_whole:List Str:=["_law_found"]
theorem kr:FnScope gW P__law_whole (defScope s__law_whole):=⟨rfl,rfl,rfl,by decide +kernel,rfl,by decide +kernel,by decide +kernel⟩
noncomputable def gX:En->Res Fl:=
 (aX (sw (gh "int" (ah 0)) (yx (gh "bool" (ah 0)))))
noncomputable def bP:List D->Res R:=cb gW gX
noncomputable abbrev s__law_row_same:Stmt:=top 35
noncomputable abbrev eM:List Str:=["_law_found", "_law_due", "_law_one", "_law_word_here"]
noncomputable abbrev P__law_row_same:List Str:=["_law_found", "_law_due"]
theorem sc__law_row_same:FnScope eM P__law_row_same (defScope s__law_row_same):=⟨rfl,rfl,rfl,by decide +kernel,rfl,by decide +kernel,by decide +kernel⟩
noncomputable def be:En->Res Fl:=fun env=>
 (aE (dX (iU (dB (gh "str" (ah 3))) (ff (dB (gh "str" (ah 2))))) (aX (vC (.bl false))) bt)
 (dX (iU (dB (gh "int" (ah 3))) (ff (dB (aG bP (ad (ah 2) ao))))) (aX (vC (.bl false))) bt)) env
noncomputable def eO:En->Res Fl:=
 (aE (dX (ms (ff (dB (gh "tuple" (ah 0)))) (vB (v2 nJ (dW cg (ad (ah 0) ao)) (dW cg (ad (ah 1) ao))))) (aX (vC (.bl false))) bt)
 (aE (gC (jH (ad (ah 0) (ad (ah 1) ao))) (gT 2 (ay (gN 2) (ay (gN 3) bj))) be)
 (aX (v2 jv (ah 0) (ah 1)))))
noncomputable def b6:List D->Res R:=cb eM eO
noncomputable abbrev s__law_rows_same:Stmt:=top 36
noncomputable abbrev cy:List Str:=["_law_found", "_law_due"]
noncomputable abbrev P__law_rows_same:List Str:=["_law_found", "_law_due"]
theorem gY:FnScope cy P__law_rows_same (defScope s__law_rows_same):=⟨rfl,rfl,rfl,by decide +kernel,rfl,by decide +kernel,by decide +kernel⟩
theorem cJ:((["_law_one", "_law_row_here"]:List Str)++([]:List Str)).Nodup:=by decide +kernel
noncomputable def b8:En->Res R:=fun env=>
 (aG b6 (ad (ah 0) (ad (ah 1) ao))) env
noncomputable def dL:En->Res Fl:=
 (aE (dX (ms (ff (dB (gh "tuple" (ah 0)))) (ms (vB (v2 nJ (dW cg (ad (ah 0) ao)) (vC (.int 2)))) (ff (dB (gh "str" (aR 0 (vC (.int 0)))))))) (aX (vC (.bl false))) bt)
 (aE (dX (ms (vB (v2 nJ (aR 0 (vC (.int 0))) (aR 1 (vC (.int 0))))) (ms (ff (dB (gh "list" (aR 0 (vC (.int 1)))))) (vB (v2 nJ (dW cg (ad (aR 0 (vC (.int 1))) ao)) (dW cg (ad (aR 1 (vC (.int 1))) ao)))))) (aX (vC (.bl false))) bt)
 (aX (dW mY (ad (bV 2 [] (jH (ad (aR 0 (vC (.int 1))) (ad (aR 1 (vC (.int 1))) ao))) (gT 2 (ay (gN 0) (ay (gN 1) bj))) (fun _=>.ok true) b8) ao)))))
noncomputable def bQ:List D->Res R:=cb cy dL
noncomputable abbrev s__law_same:Stmt:=top 37
noncomputable abbrev fK:List Str:=["_law_found", "_law_due"]
noncomputable abbrev P__law_same:List Str:=["_law_found", "_law_due"]
theorem lY:FnScope fK P__law_same (defScope s__law_same):=⟨rfl,rfl,rfl,by decide +kernel,rfl,by decide +kernel,by decide +kernel⟩
theorem eQ:((["_law_one", "_law_part"]:List Str)++([]:List Str)).Nodup:=by decide +kernel
noncomputable def dv:En->Res R:=fun env=>
 (aG bQ (ad (ah 0) (ad (ah 1) ao))) env
noncomputable def iP:En->Res Fl:=
 (aE (dX (ms (ff (dB (gh "tuple" (ah 0)))) (vB (v2 nJ (dW cg (ad (ah 0) ao)) (vC (.int 3))))) (aX (vC (.bl false))) bt)
 (aE (dX (ms (ff (dB (aG bP (ad (aR 0 (vC (.int 0))) ao)))) (ms (ff (dB (aG bP (ad (aR 0 (vC (.int 1))) ao)))) (vB (v2 nJ (bg (ah 0) cZ (cE (vC (.int 2)))) (bg (ah 1) cZ (cE (vC (.int 2)))))))) (aX (vC (.bl false))) bt)
 (aE (dX (ms (ff (dB (gh "list" (aR 0 (vC (.int 2)))))) (vB (v2 nJ (dW cg (ad (aR 0 (vC (.int 2))) ao)) (dW cg (ad (aR 1 (vC (.int 2))) ao))))) (aX (vC (.bl false))) bt)
 (aX (dW mY (ad (bV 2 [] (jH (ad (aR 0 (vC (.int 2))) (ad (aR 1 (vC (.int 2))) ao))) (gT 2 (ay (gN 0) (ay (gN 1) bj))) (fun _=>.ok true) dv) ao))))))
noncomputable def cK:List D->Res R:=cb fK iP
noncomputable abbrev s_words_kept:Stmt:=top 16
noncomputable abbrev d_:List Str:=["text", "form", "words", "rest"]
noncomputable abbrev P_words_kept:List Str:=["text", "form"]
theorem sc_words_kept:FnScope d_ P_words_kept (defScope s_words_kept):=⟨rfl,rfl,rfl,by decide +kernel,rfl,by decide +kernel,by decide +kernel⟩
theorem dM:((["letter", "word"]:List Str)++([]:List Str)).Nodup:=by decide +kernel
noncomputable def E_words_kept_1:En->Res R:=fun env=>
 (DH (vB (v2 qy (ah 0) (dC (ad (vC (.str "F")) (ad (vC (.str "V")) ao))))) (ah 1) (dW m_ (ad (ah 1) ao))) env
noncomputable def gZ:En->Res Fl:=
 (aE (ca 2 (gi (ah 0) (vC (.str " "))))
 (aE (ca 3 (bV 2 [] (jH (ad (bg (ah 1) (cE (vC (.int 1))) cZ) (ad (bg (ah 2) (cE (vC (.int 1))) cZ) ao))) (gT 2 (ay (gN 0) (ay (gN 1) bj))) (fun _=>.ok true) E_words_kept_1))
 (aX (dW lL (ad (v2 bc (bg (ah 2) cZ (cE (vC (.int 1)))) (ah 3)) ao)))))
noncomputable def bR:List D->Res R:=cb d_ gZ
noncomputable abbrev s_is_name:Stmt:=top 11
noncomputable abbrev iA:List Str:=["word"]
noncomputable abbrev P_is_name:List Str:=["word"]
theorem oh:FnScope iA P_is_name (defScope s_is_name):=⟨rfl,rfl,rfl,by decide +kernel,rfl,by decide +kernel,by decide +kernel⟩
theorem ku:((["sign"]:List Str)++([]:List Str)).Nodup:=by decide +kernel
noncomputable def iQ:En->Res R:=fun env=>
 (dq lN lN (vC (.str "a")) (ah 0) (vC (.str "z"))) env
noncomputable def lh:En->Res Fl:=
 (aX (sw (dq su su (vC (.int 1)) (dW cg (ad (ah 0) ao)) (vC (.int 8))) (dW mY (ad (bV 1 [] (o0 (ah 0)) (gN 0) (fun _=>.ok true) iQ) ao))))
noncomputable def dN:List D->Res R:=cb iA lh
noncomputable abbrev s_is_count:Stmt:=top 12
noncomputable abbrev gm:List Str:=["word"]
noncomputable abbrev P_is_count:List Str:=["word"]
theorem nr:FnScope gm P_is_count (defScope s_is_count):=⟨rfl,rfl,rfl,by decide +kernel,rfl,by decide +kernel,by decide +kernel⟩
theorem jT:((["sign"]:List Str)++([]:List Str)).Nodup:=by decide +kernel
noncomputable def lZ:En->Res R:=fun env=>
 (dq lN lN (vC (.str "0")) (ah 0) (vC (.str "9"))) env
noncomputable def oi:En->Res Fl:=
 (aE (dX (ms (ff (vB (dq su su (vC (.int 1)) (dW cg (ad (ah 0) ao)) (vC (.int 3))))) (ff (dB (dW mY (ad (bV 1 [] (o0 (ah 0)) (gN 0) (fun _=>.ok true) lZ) ao))))) (aX (vC (.bl false))) bt)
 (aX (C4 (v2 jv (ah 0) (vC (.str "0"))) (v2 nJ (aR 0 (vC (.int 0))) (vC (.str "0"))))))
noncomputable def c_:List D->Res R:=cb gm oi
noncomputable abbrev s_is_meant:Stmt:=top 13
noncomputable abbrev jU:List Str:=["letter", "word"]
noncomputable abbrev P_is_meant:List Str:=["letter", "word"]
theorem nt:FnScope jU P_is_meant (defScope s_is_meant):=⟨rfl,rfl,rfl,by decide +kernel,rfl,by decide +kernel,by decide +kernel⟩
noncomputable def ef:En->Res Fl:=
 (aE (dX (vB (v2 jv (ah 0) (vC (.str "F")))) (aX (aG dN (ad (ah 1) ao))) bt)
 (aE (dX (vB (v2 jv (ah 0) (vC (.str "V")))) (aX (sW [("shared",0),("own",1)] (ah 1))) bt)
 (aE (dX (vB (v2 jv (ah 0) (vC (.str "S")))) (aX (v2 qy (ah 1) (dC (ad (vC (.str "1")) (ad (vC (.str "2")) (ad (vC (.str "3")) (ad (vC (.str "4")) ao))))))) bt)
 (aX (aG c_ (ad (ah 1) ao))))))
noncomputable def F_is_meant:List D->Res R:=cb jU ef
noncomputable abbrev s_has_form:Stmt:=top 14
noncomputable abbrev gn:List Str:=["words", "form"]
noncomputable abbrev P_has_form:List Str:=["words", "form"]
theorem nu:FnScope gn P_has_form (defScope s_has_form):=⟨rfl,rfl,rfl,by decide +kernel,rfl,by decide +kernel,by decide +kernel⟩
theorem fL:((["letter", "word"]:List Str)++([]:List Str)).Nodup:=by decide +kernel
noncomputable def eB:En->Res R:=fun env=>
 (aG F_is_meant (ad (ah 0) (ad (ah 1) ao))) env
noncomputable def eF:En->Res Fl:=
 (aE (dX (ms (vB (v2 nJ (dW cg (ad (ah 0) ao)) (dW cg (ad (ah 1) ao)))) (vB (v2 nJ (aR 0 (vC (.int 0))) (aR 1 (vC (.int 0)))))) (aX (vC (.bl false))) bt)
 (aX (dW mY (ad (bV 2 [] (jH (ad (bg (ah 1) (cE (vC (.int 1))) cZ) (ad (bg (ah 0) (cE (vC (.int 1))) cZ) ao))) (gT 2 (ay (gN 0) (ay (gN 1) bj))) (fun _=>.ok true) eB) ao))))
noncomputable def bI:List D->Res R:=cb gn eF
noncomputable abbrev s_form_among:Stmt:=top 15
noncomputable abbrev g6:List Str:=["text", "forms", "words", "form"]
noncomputable abbrev P_form_among:List Str:=["text", "forms"]
theorem sc_form_among:FnScope g6 P_form_among (defScope s_form_among):=⟨rfl,rfl,rfl,by decide +kernel,rfl,by decide +kernel,by decide +kernel⟩
noncomputable def bq:En->Res Fl:=fun env=>
 (dX (dB (aG bI (ad (ah 2) (ad (ah 3) ao)))) (aX (ah 3)) bt) env
noncomputable def g9:En->Res Fl:=
 (aE (ca 2 (gi (ah 0) (vC (.str " "))))
 (aE (gC (fj (ah 1)) (gN 3) bq)
 (cw "NoText" (ad (vC (.str "words that are none of those that may stand here")) ao))))
noncomputable def bv:List D->Res R:=cb g6 g9
noncomputable abbrev s_row_in:Stmt:=top 17
noncomputable abbrev nv:List Str:=["text"]
noncomputable abbrev P_row_in:List Str:=["text"]
theorem qO:FnScope nv P_row_in (defScope s_row_in):=⟨rfl,rfl,rfl,by decide +kernel,rfl,by decide +kernel,by decide +kernel⟩
noncomputable def nw:En->Res Fl:=
 (aX (aG bR (ad (ah 0) (ad (aG bv (ad (ah 0) (ad (vC (.tup [.tup [.str "skip"],.tup [.str "set",.str "V",.str "N"],.tup [.str "any",.str "V"],.tup [.str "turn",.str "V"],.tup [.str "if",.str "V",.str "N",.str "K"],.tup [.str "go",.str "K"],.tup [.str "fork",.str "K"],.tup [.str "call",.str "F"],.tup [.str "back"],.tup [.str "stop"]])) ao))) ao))))
noncomputable def g_:List D->Res R:=cb nv nw
noncomputable abbrev s_procedure_in:Stmt:=top 18
noncomputable abbrev da:List Str:=["part", "halves"]
noncomputable abbrev P_procedure_in:List Str:=["part"]
theorem sc_procedure_in:FnScope da P_procedure_in (defScope s_procedure_in):=⟨rfl,rfl,rfl,by decide +kernel,rfl,by decide +kernel,by decide +kernel⟩
theorem gp:((["row"]:List Str)++([]:List Str)).Nodup:=by decide +kernel
noncomputable def cz:En->Res R:=fun env=>
 (aG g_ (ad (ah 0) ao)) env
noncomputable def fM:En->Res Fl:=
 (aE (ca 1 (gi (ah 0) (vC (.str ": "))))
 (aE (dX (ms (vB (v2 nJ (dW cg (ad (ah 1) ao)) (vC (.int 2)))) (ff (dB (aG dN (ad (aR 1 (vC (.int 0))) ao))))) (cw "NoText" (ad (vC (.str "a part that is no procedure")) ao)) bt)
 (aX (dC (ad (aR 1 (vC (.int 0))) (ad (bV 1 [] (fj (gi (aR 1 (vC (.int 1))) (vC (.str ", ")))) (gN 0) (fun _=>.ok true) cz) ao))))))
noncomputable def cn:List D->Res R:=cb da fM
noncomputable abbrev s_formed_in:Stmt:=top 19
noncomputable abbrev fN:List Str:=["text", "parts", "values"]
noncomputable abbrev P_formed_in:List Str:=["text"]
theorem sc_formed_in:FnScope fN P_formed_in (defScope s_formed_in):=⟨rfl,rfl,rfl,by decide +kernel,rfl,by decide +kernel,by decide +kernel⟩
theorem i4:((["part"]:List Str)++([]:List Str)).Nodup:=by decide +kernel
noncomputable def dw:En->Res R:=fun env=>
 (aG cn (ad (ah 0) ao)) env
noncomputable def iR:En->Res Fl:=
 (aE (dX (ff (dB (gh "str" (ah 0)))) (cw "NoText" (ad (vC (.str "the program is no text")) ao)) bt)
 (aE (ca 1 (gi (ah 0) (vC (.str "; "))))
 (aE (cp 2 (aG bR (ad (aR 1 (vC (.int 0))) (ad (aG bv (ad (aR 1 (vC (.int 0))) (ad (dC (ad (vC (.tup [.str "values",.str "S",.str "S"])) ao)) ao))) ao))))
 (aE (dX (vB (v2 jv (dW cg (ad (ah 1) ao)) (vC (.int 1)))) (cw "NoText" (ad (vC (.str "the program has no procedure")) ao)) bt)
 (aX (dC (ad (aR 2 (vC (.int 1))) (ad (aR 2 (vC (.int 2))) (ad (bV 1 [] (fj (bg (ah 1) (cE (vC (.int 1))) cZ)) (gN 0) (fun _=>.ok true) dw) ao)))))))))
noncomputable def dk:List D->Res R:=cb fN iR
noncomputable abbrev s_refuse_wrong_row:Stmt:=top 20
noncomputable abbrev db:List Str:=["program", "names", "rows", "place", "row"]
noncomputable abbrev P_refuse_wrong_row:List Str:=["program", "names", "rows", "place"]
theorem sc_refuse_wrong_row:FnScope db P_refuse_wrong_row (defScope s_refuse_wrong_row):=⟨rfl,rfl,rfl,by decide +kernel,rfl,by decide +kernel,by decide +kernel⟩
noncomputable def b9:En->Res Fl:=
 (aE (ca 4 (aR 2 (ah 3)))
 (aE (dX (iU (vB (v2 jv (aR 4 (vC (.int 0))) (vC (.str "call")))) (vB (v2 fS (aR 4 (vC (.int 1))) (ah 1)))) (cw "NoName" (ad (vC (.str "a procedure is called that is not there")) ao)) bt)
 (aE (dX (iU (vB (v2 qy (aR 4 (vC (.int 0))) (dC (ad (vC (.str "set")) (ad (vC (.str "if")) ao))))) (vB (v2 vq (aR 4 (vC (.int 2))) (aR 0 (yN [("shared",0),("own",1)] (aR 4 (vC (.int 1)))))))) (cw "NoValue" (ad (vC (.str "a row tells a value that is not there")) ao)) bt)
 (aE (dX (iU (vB (v2 qy (aR 4 (vC (.int 0))) (dC (ad (vC (.str "if")) (ad (vC (.str "go")) (ad (vC (.str "fork")) ao)))))) (vB (v2 vq (aR 4 (sI (vC (.int 1)))) (dW cg (ad (ah 2) ao))))) (cw "NoRow" (ad (vC (.str "a row goes on with one that is not there")) ao)) bt)
 (dX (iU (vB (v2 jv (ah 3) (v2 nW (dW cg (ad (ah 2) ao)) (vC (.int 1))))) (vB (v2 fS (aR 4 (vC (.int 0))) (dC (ad (vC (.str "go")) (ad (vC (.str "back")) (ad (vC (.str "stop")) ao))))))) (cw "NoRow" (ad (vC (.str "behind the last row there is none to go on with")) ao)) bt)))))
noncomputable def bw:List D->Res R:=cb db b9
noncomputable abbrev s_read:Stmt:=top 21
noncomputable abbrev oj:List Str:=["text", "program", "names", "name", "rows", "place"]
noncomputable abbrev P_read:List Str:=["text"]
theorem sc_read:FnScope oj P_read (defScope s_read):=⟨rfl,rfl,rfl,by decide +kernel,rfl,by decide +kernel,by decide +kernel⟩
theorem jV:((["name", "rows"]:List Str)++([]:List Str)).Nodup:=by decide +kernel
noncomputable def jW:En->Res R:=fun env=>
 (ah 0) env
noncomputable def hI:En->Res Fl:=fun env=>
 (s_ (aG bw (ad (ah 1) (ad (ah 2) (ad (ah 4) (ad (ah 5) ao)))))) env
noncomputable def hJ:En->Res Fl:=fun env=>
 (gC (Av (ad (dW cg (ad (ah 4) ao)) ao)) (gN 5) hI) env
noncomputable def ue:En->Res Fl:=
 (aE (cp 1 (aG dk (ad (ah 0) ao)))
 (aE (ca 2 (bV 2 [] (fj (aR 1 (vC (.int 2)))) (gT 2 (ay (gN 0) (ay (gN 1) bj))) (fun _=>.ok true) jW))
 (aE (dX (vB (v2 Cq (lQ (ah 2)) (dW cg (ad (ah 2) ao)))) (cw "Twice" (ad (vC (.str "two procedures have one name")) ao)) bt)
 (aE (dX (vB (v2 fS (vC (.str "main")) (ah 2))) (cw "NoName" (ad (vC (.str "no procedure is main")) ao)) bt)
 (aE (gC (fj (aR 1 (vC (.int 2)))) (gT 2 (ay (gN 3) (ay (gN 4) bj))) hJ)
 (aX (ah 1)))))))
noncomputable def l5:List D->Res R:=cb oj ue
noncomputable abbrev s_law:Stmt:=top 38
noncomputable abbrev xr:List Str:=["_law_script", "_law_cell", "_law_values", "_law_names_here", "_law_due", "_law_handed", "_law_found"]
noncomputable abbrev P_law:List Str:=["_law_script"]
theorem sc_law:FnScope xr P_law (defScope s_law):=⟨rfl,rfl,rfl,by decide +kernel,rfl,by decide +kernel,by decide +kernel⟩
noncomputable def pk:En->Res Fl:=fun env=>
 (aX (sw (aG cK (ad (aG l5 (ad (ah 6) ao)) (ad (ah 4) ao))) (aG cK (ad (ah 5) (ad (ah 4) ao))))) env
noncomputable def pp:En->Res Fl:=fun env=>
 (aE (dX (ms (ff (dB (gh "str" (ah 6)))) (vB (v2 nJ (ah 6) (aG dj (ad (ah 4) ao))))) (aX (vC (.bl false))) bt)
 pk) env
noncomputable def pq:En->Res Fl:=fun env=>
 (aE (cp 6 (aG ja (ad (ah 5) ao)))
 pp) env
noncomputable def pr:En->Res Fl:=fun env=>
 (aE (cp 5 (aG bH (ad (aG bO (ad (ah 0) (ad (ah 1) ao))) (ad (ah 2) (ad (ah 3) (ad (ah 1) ao))))))
 pq) env
noncomputable def px:En->Res Fl:=fun env=>
 (aE (cp 4 (aG bH (ad (aG bO (ad (ah 0) (ad (ah 1) ao))) (ad (ah 2) (ad (ah 3) (ad (ah 1) ao))))))
 pr) env
noncomputable def pz:En->Res Fl:=fun env=>
 (aE (cp 3 (aG cT (ad (aG bp (ad (ah 0) (ad (vC (.int 1)) ao))) ao)))
 px) env
noncomputable def pA:En->Res Fl:=fun env=>
 (aE (ca 2 (fZ (ad (v2 bc (vC (.int 1)) (aG aA (ad (ah 1) (ad (vC (.int 1033)) (ad (vC (.int 4)) ao))))) (ad (v2 bc (vC (.int 1)) (aG aA (ad (ah 1) (ad (vC (.int 1039)) (ad (vC (.int 4)) ao))))) ao))))
 pz) env
noncomputable def xt:En->Res Fl:=
 (aE (cp 1 (aG bp (ad (ah 0) (ad (vC (.int 0)) ao))))
 pA)
noncomputable def ny:List D->Res R:=cb xr xt
set_option genInjectivity false in
structure Tx (w:World) (K:PySem.W.Frag) (mg:Str->Option Value) where
 f_a:Addr
 fd_a:FuncData
 h_a:Fn K mg "_law_cell_at" s__law_cell_at P__law_cell_at f_a fd_a
 f_b:Addr
 fd_b:FuncData
 h_b:Fn K mg "_law_digit" s__law_digit P__law_digit f_b fd_b
 f_c:Addr
 fd_c:FuncData
 h_c:Fn K mg "_law_word" s__law_word P__law_word f_c fd_c
 f_d:Addr
 fd_d:FuncData
 h_d:Fn K mg "_law_names" s__law_names P__law_names f_d fd_d
 f_e:Addr
 fd_e:FuncData
 h_e:Fn K mg "_law_row" s__law_row P__law_row f_e fd_e
 f_f:Addr
 fd_f:FuncData
 h_f:Fn K mg "_law_program" s__law_program P__law_program f_f fd_f
 f_g:Addr
 fd_g:FuncData
 h_g:Fn K mg "_law_cells" s__law_cells P__law_cells f_g fd_g
 f_h:Addr
 fd_h:FuncData
 h_h:Fn K mg "row_shown" s_row_shown P_row_shown f_h fd_h
 f_i:Addr
 fd_i:FuncData
 h_i:Fn K mg "procedure_shown" s_procedure_shown P_procedure_shown f_i fd_i
 f_j:Addr
 fd_j:FuncData
 h_j:Fn K mg "shown" s_shown P_shown f_j fd_j
 f_k:Addr
 fd_k:FuncData
 h_k:Fn K mg "_law_text" s__law_text P__law_text f_k fd_k
 f_l:Addr
 fd_l:FuncData
 h_l:Fn K mg "_law_whole" s__law_whole P__law_whole f_l fd_l
 f_m:Addr
 fd_m:FuncData
 h_m:Fn K mg "_law_row_same" s__law_row_same P__law_row_same f_m fd_m
 f_n:Addr
 fd_n:FuncData
 h_n:Fn K mg "_law_rows_same" s__law_rows_same P__law_rows_same f_n fd_n
 f_o:Addr
 fd_o:FuncData
 h_o:Fn K mg "_law_same" s__law_same P__law_same f_o fd_o
 f_p:Addr
 fd_p:FuncData
 h_p:Fn K mg "words_kept" s_words_kept P_words_kept f_p fd_p
 f_q:Addr
 fd_q:FuncData
 h_q:Fn K mg "is_name" s_is_name P_is_name f_q fd_q
 f_r:Addr
 fd_r:FuncData
 h_r:Fn K mg "is_count" s_is_count P_is_count f_r fd_r
 f_s:Addr
 fd_s:FuncData
 h_s:Fn K mg "is_meant" s_is_meant P_is_meant f_s fd_s
 f_t:Addr
 fd_t:FuncData
 h_t:Fn K mg "has_form" s_has_form P_has_form f_t fd_t
 f_u:Addr
 fd_u:FuncData
 h_u:Fn K mg "form_among" s_form_among P_form_among f_u fd_u
 f_v:Addr
 fd_v:FuncData
 h_v:Fn K mg "row_in" s_row_in P_row_in f_v fd_v
 f_w:Addr
 fd_w:FuncData
 h_w:Fn K mg "procedure_in" s_procedure_in P_procedure_in f_w fd_w
 f_x:Addr
 fd_x:FuncData
 h_x:Fn K mg "formed_in" s_formed_in P_formed_in f_x fd_x
 f_y:Addr
 fd_y:FuncData
 h_y:Fn K mg "refuse_wrong_row" s_refuse_wrong_row P_refuse_wrong_row f_y fd_y
 f_z:Addr
 fd_z:FuncData
 h_z:Fn K mg "read" s_read P_read f_z fd_z
 f_A:Addr
 fd_A:FuncData
 h_A:Fn K mg "law" s_law P_law f_A fd_A
 nb_all:mg "all"=none
 nb_bool:mg "bool"=none
 nb_enumerate:mg "enumerate"=none
 nb_int:mg "int"=none
 nb_isinstance:mg "isinstance"=none
 nb_len:mg "len"=none
 nb_list:mg "list"=none
 nb_range:mg "range"=none
 nb_set:mg "set"=none
 nb_str:mg "str"=none
 nb_tuple:mg "tuple"=none
 nb_zip:mg "zip"=none
 C_Twice:Addr
 x_Twice:XC K mg "Twice" C_Twice
 C_NoName:Addr
 x_NoName:XC K mg "NoName" C_NoName
 C_NoText:Addr
 x_NoText:XC K mg "NoText" C_NoText
 C_NoValue:Addr
 x_NoValue:XC K mg "NoValue" C_NoValue
 C_NoRow:Addr
 x_NoRow:XC K mg "NoRow" C_NoRow
 kt_VALUES:∃ a,mg "VALUES"=some (.ref a)/\KtIs K (.tup [.str "values",.str "S",.str "S"]) (.ref a)
 kt_ROWS:∃ a,mg "ROWS"=some (.ref a)/\KtIs K (.tup [.tup [.str "skip"],.tup [.str "set",.str "V",.str "N"],.tup [.str "any",.str "V"],.tup [.str "turn",.str "V"],.tup [.str "if",.str "V",.str "N",.str "K"],.tup [.str "go",.str "K"],.tup [.str "fork",.str "K"],.tup [.str "call",.str "F"],.tup [.str "back"],.tup [.str "stop"]]) (.ref a)
 ti_PLACES:∀ a,mg "PLACES"=some (.ref a)->(a==sysModules)=false
 tb_PLACES:∃ a,mg "PLACES"=some (.ref a)/\TabAt w K a [("shared",0),("own",1)]
section
variable {P:Program}{w:World}{K:PySem.W.Frag}{mg:Str->Option Value}{base:Heap}
theorem eR (t:Tx w K mg):FnOk P w K mg base (fR P w) 1 t.f_a t.fd_a P__law_cell_at (ge mg 2 bp):=
 bo t.h_a.fu iW fun cdv A outer s H E hr=>
  have hu:=hr.units
  (ag (aJ (az (w_) (qv 1) (aD aW (by rfl) t.nb_len (by decide +kernel) (aa (qv 0) ae)) (aI _)) (ai (ar (aF e_ (aB (pv 0) (qv 1) (fun _ _=>rfl)) (aF sQ af af)))) av)
    (ai (ar af)))
theorem aC (t:Tx w K mg):FnOk P w K mg base (fR P w) 1 t.f_b t.fd_b P__law_digit (ge mg 3 aA):=
 bo t.h_b.fu kh fun cdv A outer s H E hr=>
  have hu:=hr.units
  (ai (ar (aF e_ (aF e_ (aF aN (aF dS (aF e_ (qv 0) (aF sQ af af)) af) af) (qv 1)) (qv 2))))
theorem l6 (t:Tx w K mg):FnOk P w K mg base (fR P w) 1 t.f_c t.fd_c P__law_word (ge mg 1 dh):=
 bo t.h_c.fu sc__law_word fun cdv A outer s H E hr=>
  have hu:=hr.units
  (ag (aO sc__law_word.nd rfl (.inl rfl) (cf (aa aj (aa aj (aa aj (aa aj (aa aj (aa aj (aa aj (aa aj (aa aj (aa aj (aa aj (aa aj ae))))))))))))))
    (ai (ar (aB (pv 1) (aF e_ (qv 0) af) (fun _ _=>rfl)))))
theorem kw (t:Tx w K mg):FnOk P w K mg base (fR P w) 2 t.f_d t.fd_d P__law_names (ge mg 1 cT):=
 bo t.h_d.fu sc__law_names fun cdv A outer s H E hr=>
  have hu:=hr.units
  (ag (aO sc__law_names.nd rfl (.inl rfl) (cf ae))
    (ag (aO sc__law_names.nd rfl (.inl rfl) (aF aN af (ap (aC t) (hr.mono (by decide)) (by rfl) t.h_b.gl t.h_b.fu.kp t.h_b.bi au (aa (qv 0) (aa af (aa af ae))) (ac (ac (ac am))))))
    (ag (aO sc__law_names.nd rfl (.inl rfl) aj)
    (ag (cj jl rfl (dY (by rfl) t.nb_range (aa (qv 2) ae)) (aw sc__law_names.nd rfl (.inl rfl)) (ai (aO sc__law_names.nd rfl (.inl rfl) (aF aN (qv 3) (jy aj (ap (aC t) (hr.mono (by decide)) (by rfl) t.h_b.gl t.h_b.fu.kp t.h_b.bi au (aa (aF aN (qv 0) (aF dS (aF dS af (qv 4)) (qv 4))) (aa af (aa af ae))) (ac (ac (ac am)))) (fun _ _=>rfl))))))
    (ag (aU sc__law_names.nd rfl (.inl rfl) (ap (aC t) (hr.mono (by decide)) (by rfl) t.h_b.gl t.h_b.fu.kp t.h_b.bi au (aa (qv 0) (aa af (aa (qv 2) ae))) (ac (ac (ac am)))))
    (ag (aU sc__law_names.nd rfl (.inl rfl) (ap (aC t) (hr.mono (by decide)) (by rfl) t.h_b.gl t.h_b.fu.kp t.h_b.bi au (aa (qv 0) (aa af (aa af ae))) (ac (ac (ac am)))))
    (ag (cj jl rfl (dY (by rfl) t.nb_range (aa (ap (aC t) (hr.mono (by decide)) (by rfl) t.h_b.gl t.h_b.fu.kp t.h_b.bi au (aa (qv 0) (aa af (aa af ae))) (ac (ac (ac am)))) ae)) (aw sc__law_names.nd rfl (.inl rfl)) (ag (aO sc__law_names.nd rfl (.inl rfl) (jy aj (aF e_ (aF aN (qv 0) (aF dS (qv 4) (aF aN af (aF e_ (aF nX (qv 0) af) af)))) af) (fun _ _=>rfl)))
    (ag (aO sc__law_names.nd rfl (.inl rfl) (aF aN (aF aN (aS (qv 3) bn (a_ (qv 5))) (qv 7)) (aS (qv 3) (a_ (aF aN (qv 5) af)) bn)))
    (ag (aJ (az (ce hu) (qv 6) af (aI _)) (ai (aO sc__law_names.nd rfl (.inl rfl) (aF aN aj (qv 7)))) av)
    (ag (aJ (az (ce hu) (qv 6) af (aI _)) (ai (aO sc__law_names.nd rfl (.inl rfl) (aS aj bn (a_ (aF aN af (qv 4)))))) av)
    (ag (aJ (az (ce hu) (qv 6) af (aI _)) (ai (aU sc__law_names.nd rfl (.inl rfl) (ap (l6 t) (hr.mono (by decide)) (by rfl) t.h_c.gl t.h_c.fu.kp t.h_c.bi au (aa (aF aN (aF nX (qv 0) af) (aF dS (qv 4) (aF aN af (aF e_ (aF nX (qv 0) af) af)))) ae) (ac am)))) av)
    (ai (gB (pv 1) (qv 8)))))))))
    (ag (aU sc__law_names.nd rfl (.inl rfl) (ap (aC t) (hr.mono (by decide)) (by rfl) t.h_b.gl t.h_b.fu.kp t.h_b.bi au (aa (qv 0) (aa af (aa (aF aN (aD aW (by rfl) t.nb_len (by decide +kernel) (aa (qv 1) ae)) af) ae))) (ac (ac (ac am)))))
    (ai (ar (aF aN (aF aN (aS (qv 1) bn (a_ (qv 9))) (cf (aa aj ae))) (aS (qv 1) (a_ (qv 9)) bn))))))))))))
theorem nz (t:Tx w K mg):FnOk P w K mg base (fR P w) 2 t.f_e t.fd_e P__law_row (ge mg 5 c7):=
 bo t.h_e.fu sc__law_row fun cdv A outer s H E hr=>
  have hu:=hr.units
  (ag (aU sc__law_row.nd rfl (.inl rfl) (ap (aC t) (hr.mono (by decide)) (by rfl) t.h_b.gl t.h_b.fu.kp t.h_b.bi au (aa (qv 0) (aa af (aa af ae))) (ac (ac (ac am)))))
    (ag (aJ (bC (qv 4)) (ai (aO sc__law_row.nd rfl (.inl rfl) (jy (cf (aa af (aa af (aa af ae)))) (ap (aC t) (hr.mono (by decide)) (by rfl) t.h_b.gl t.h_b.fu.kp t.h_b.bi au (aa (qv 0) (aa af (aa af ae))) (ac (ac (ac am)))) (fun _ _=>rfl)))) av)
    (ag (aU sc__law_row.nd rfl (.inl rfl) (ap (aC t) (hr.mono (by decide)) (by rfl) t.h_b.gl t.h_b.fu.kp t.h_b.bi au (aa (qv 0) (aa af (aa af ae))) (ac (ac (ac am)))))
    (ag (aO sc__law_row.nd rfl (.inl rfl) (jy (cf (aa aj (aa aj ae))) (qv 6) (fun _ _=>rfl)))
    (ag (aU sc__law_row.nd rfl (.inl rfl) (ap (aC t) (hr.mono (by decide)) (by rfl) t.h_b.gl t.h_b.fu.kp t.h_b.bi au (aa (qv 0) (aa af (aa (aB (pv 1) (qv 6) (fun _ _=>rfl)) ae))) (ac (ac (ac am)))))
    (ag (aU sc__law_row.nd rfl (.inl rfl) (ap (aC t) (hr.mono (by decide)) (by rfl) t.h_b.gl t.h_b.fu.kp t.h_b.bi au (aa (qv 0) (aa af (aa (qv 2) ae))) (ac (ac (ac am)))))
    (ag (aJ (az (mR) (qv 5) af (aI _)) (ai (ar (bD (aa aj (aa (aB (pv 3) (ap (aC t) (hr.mono (by decide)) (by rfl) t.h_b.gl t.h_b.fu.kp t.h_b.bi au (aa (qv 0) (aa af (aa (aD aW (by rfl) t.nb_len (by decide +kernel) (aa (qv 3) ae)) ae))) (ac (ac (ac am)))) (fun _ _=>rfl)) ae))))) av)
    (ag (aJ (PWD.pt (bS (az (ce hu) (qv 5) af (aI _)) (bJ (az (ce hu) (qv 5) af (aI _))))) (ai (ar (bD (aa aj (aa (qv 7) (aa (qv 8) ae)))))) av)
    (ag (aJ (PWD.pt (bS (az (ce hu) (qv 5) af (aI _)) (bJ (az (ce hu) (qv 5) af (aI _))))) (ai (ar (bD (aa (jy (cf (aa aj (aa aj ae))) (aF ju (qv 5) af) (fun _ _=>rfl)) (aa (qv 7) ae))))) av)
    (ag (aJ (PWD.pt (bS (az (ce hu) (qv 5) af (aI _)) (bJ (az (ce hu) (qv 5) af (aI _))))) (ai (ar (bD (aa aj (aa (qv 7) (aa (qv 8) (aa (qv 9) ae))))))) av)
    (ag (aJ (PWD.pt (dU (az (mR) (qv 5) af (aI _)) (cY (az (mQ) (qv 5) af (aI _))))) (ai (ar (bD (aa (jy (cf (aa aj (aa aj (aa aj ae)))) (aF ju (qv 5) af) (fun _ _=>rfl)) (aa (qv 9) ae))))) av)
    (ag (aJ (az (mR) (qv 5) af (aI _)) (ai (ar (bD (aa (jy (cf (aa aj (aa aj ae))) (aF ju (qv 5) af) (fun _ _=>rfl)) ae)))) av)
    (ai (ar (bD (aa aj ae))))))))))))))))
theorem eS (t:Tx w K mg):FnOk P w K mg base (fR P w) 3 t.f_f t.fd_f P__law_program (ge mg 4 bH):=
 bo t.h_f.fu sc__law_program fun cdv A outer s H E hr=>
  have hu:=hr.units
  (ag (vF rfl (CScope.of (osc:=defScope s__law_program) (N:=c8) (tN:=["_law_name"]) (capN:=[]) (caps:=[]) rfl rfl (by decide +kernel)) sc__law_program.nd rfl rfl (bK (qv 2)) (fun cl C s3 H3 fp=>oC gk rfl (.inl rfl)) (by decide))
    (ag (cj jl rfl (bK (qv 0)) (aw sc__law_program.nd rfl (.inl rfl)) (ai (n9 (pv 4) (ap (aC t) (hr.mono (by decide)) (by rfl) t.h_b.gl t.h_b.fu.kp t.h_b.bi au (aa (qv 5) (aa af (aa (aD aW (by rfl) t.nb_len (by decide +kernel) (aa (qv 2) ae)) ae))) (ac (ac (ac am)))) (qv 5) (fun _ _=>rfl))))
    (ag (aO sc__law_program.nd rfl (.inl rfl) (cf ae))
    (ag (cj jl rfl (mZ (by rfl) t.nb_enumerate (aa (qv 2) ae)) (ci rfl (aH (aw sc__law_program.nd rfl (.inl rfl)) (aH (aw sc__law_program.nd rfl (.inl rfl)) bF (fun _ a _ b=>aM a b)) (fun _ a _ b=>aM a b))) (ag (aO sc__law_program.nd rfl (.inl rfl) (aF aN (aB (pv 4) (qv 7) (fun _ _=>rfl)) (cf (aa (aF aN (qv 3) (aF dS (aF dS af (qv 7)) (qv 7))) ae))))
    (ag (aO sc__law_program.nd rfl (.inl rfl) (cf ae))
    (ag (cj jl rfl (mZ (by rfl) t.nb_enumerate (aa (qv 9) ae)) (ci rfl (aH (aw sc__law_program.nd rfl (.inl rfl)) (aH (aw sc__law_program.nd rfl (.inl rfl)) bF (fun _ a _ b=>aM a b)) (fun _ a _ b=>aM a b))) (ai (gB (pv 10) (ap (nz t) (hr.mono (by decide)) (by rfl) t.h_e.gl t.h_e.fu.kp t.h_e.bi au (aa (qv 5) (aa (qv 1) (aa (aD aW (by rfl) t.nb_len (by decide +kernel) (aa (qv 9) ae)) (aa (qv 2) (aa (js (ce hu) (qv 11) (aF ju (aD aW (by rfl) t.nb_len (by decide +kernel) (aa (qv 9) ae)) af) (aI _)) ae))))) (ac (ac (ac (ac (ac am)))))))))
    (ai (gB (pv 6) (bD (aa (qv 8) (aa (qv 10) ae)))))))))
    (ai (ar (bD (aa (aB (pv 1) af (fun _ _=>rfl)) (aa (aB (pv 1) af (fun _ _=>rfl)) (aa (qv 6) ae))))))))))
theorem f9 (t:Tx w K mg):FnOk P w K mg base (fR P w) 2 t.f_g t.fd_g P__law_cells (ge mg 2 bO):=
 bo t.h_g.fu sc__law_cells fun cdv A outer s H E hr=>
  have hu:=hr.units
  (ag (aO sc__law_cells.nd rfl (.inl rfl) (aS (qv 0) (a_ af) (a_ af)))
    (ag (aJ (az (ce hu) (ap (aC t) (hr.mono (by decide)) (by rfl) t.h_b.gl t.h_b.fu.kp t.h_b.bi au (aa (qv 1) (aa af (aa af ae))) (ac (ac (ac am)))) af (aI _)) (ai (cj jl rfl (dY (by rfl) t.nb_range (aa (aF aN af (ap (aC t) (hr.mono (by decide)) (by rfl) t.h_b.gl t.h_b.fu.kp t.h_b.bi au (aa (qv 1) (aa af (aa af ae))) (ac (ac (ac am))))) ae)) (aw sc__law_cells.nd rfl (.inl rfl)) (ai (gB (pv 2) (aF aN (qv 1) (aF dS (aF dS af (qv 3)) (qv 3))))))) av)
    (ai (ar (qv 2)))))
theorem hU (t:Tx w K mg):FnOk P w K mg base (fR P w) 1 t.f_h t.fd_h P_row_shown (ge mg 1 b_):=
 bo t.h_h.fu lW fun cdv A outer s H E hr=>
  have hu:=hr.units
  (ai (ar (fU aj (b0 rfl (CScope.of (osc:=defScope s_row_shown) (N:=fH) (tN:=["word"]) (capN:=[]) (caps:=[]) rfl rfl (by decide +kernel)) (bK (qv 0)) (by decide) (fun cl C s3 H3 fp=>(aw iX rfl (.inl rfl))) (fun cl C s3 H3 fp=>bd) (fun cl C s3 H3 fp=>(cW lP (by rfl) t.nb_str (by decide +kernel) (aa (qv 0) ae)))))))
theorem gq (t:Tx w K mg):FnOk P w K mg base (fR P w) 2 t.f_i t.fd_i P_procedure_shown (ge mg 2 bE):=
 bo t.h_i.fu sc_procedure_shown fun cdv A outer s H E hr=>
  have hu:=hr.units
  (ag (aO sc_procedure_shown.nd rfl (.inl rfl) (fU aj (b0 rfl (CScope.of (osc:=defScope s_procedure_shown) (N:=cm) (tN:=["row"]) (capN:=[]) (caps:=[]) rfl rfl (by decide +kernel)) (bK (qv 1)) (by decide) (fun cl C s3 H3 fp=>(aw eV rfl (.inl rfl))) (fun cl C s3 H3 fp=>bd) (fun cl C s3 H3 fp=>(ap (hU t) (hr.mono (by decide)) (by rfl) t.h_h.gl t.h_h.fu.kp t.h_h.bi jE (aa (qv 0) ae) (ac am))))))
    (ai (ar (yU (qv 0) (qv 2)))))
theorem uf (t:Tx w K mg):FnOk P w K mg base (fR P w) 3 t.f_j t.fd_j P_shown (ge mg 1 ja):=
 bo t.h_j.fu sc_shown fun cdv A outer s H E hr=>
  have hu:=hr.units
  (ag (aU sc_shown.nd rfl (.inl rfl) (ap (hU t) (hr.mono (by decide)) (by rfl) t.h_h.gl t.h_h.fu.kp t.h_h.bi au (aa (bD (aa aj (aa (aB (pv 0) af (fun _ _=>rfl)) (aa (aB (pv 0) af (fun _ _=>rfl)) ae)))) ae) (ac am)))
    (ai (ar (fU aj (aF aN (cf (aa (qv 1) ae)) (b0 rfl (CScope.of (osc:=defScope s_shown) (N:=lX) (tN:=["name", "rows"]) (capN:=[]) (caps:=[]) rfl rfl (by decide +kernel)) (bK (aB (pv 0) af (fun _ _=>rfl))) (by decide) (fun cl C s3 H3 fp=>(ci rfl (aH (aw iN rfl (.inl rfl)) (aH (aw iN rfl (.inl rfl)) bF (fun _ a _ b=>aM a b)) (fun _ a _ b=>aM a b)))) (fun cl C s3 H3 fp=>bd) (fun cl C s3 H3 fp=>(ap (gq t) (hr.mono (by decide)) (by rfl) t.h_i.gl t.h_i.fu.kp t.h_i.bi jE (aa (qv 0) (aa (qv 1) ae)) (ac (ac am))))))))))
theorem l7 (t:Tx w K mg):FnOk P w K mg base (fR P w) 1 t.f_k t.fd_k P__law_text (ge mg 1 dj):=
 bo t.h_k.fu sc__law_text fun cdv A outer s H E hr=>
  have hu:=hr.units
  (ag (aO sc__law_text.nd rfl (.inl rfl) (cf (aa (aF aN (aF aN (aF aN aj (cW lP (by rfl) t.nb_str (by decide +kernel) (aa (aB (pv 0) af (fun _ _=>rfl)) ae))) aj) (cW lP (by rfl) t.nb_str (by decide +kernel) (aa (aB (pv 0) af (fun _ _=>rfl)) ae))) ae)))
    (ag (cj jl rfl (bK (aB (pv 0) af (fun _ _=>rfl))) (ci rfl (aH (aw sc__law_text.nd rfl (.inl rfl)) (aH (aw sc__law_text.nd rfl (.inl rfl)) bF (fun _ a _ b=>aM a b)) (fun _ a _ b=>aM a b))) (ai (gB (pv 1) (aF aN (aF aN (qv 2) aj) (fU aj (b0 rfl (CScope.of (osc:=defScope s__law_text) (N:=fJ) (tN:=["_law_row_here"]) (capN:=[]) (caps:=[]) rfl rfl (by decide +kernel)) (bK (qv 3)) (by decide) (fun cl C s3 H3 fp=>(aw iY rfl (.inl rfl))) (fun cl C s3 H3 fp=>bd) (fun cl C s3 H3 fp=>(fU aj (b0 rfl (CScope.nil (tN:=["_law_word_here"]) (by decide +kernel)) (bK (qv 0)) (by decide) (fun cl C s3 H3 fp=>(aw iZ rfl (.inl rfl))) (fun cl C s3 H3 fp=>bd) (fun cl C s3 H3 fp=>(cW lP (by rfl) t.nb_str (by decide +kernel) (aa (qv 0) ae))))))))))))
    (ai (ar (fU aj (qv 1))))))
theorem dy (t:Tx w K mg):FnOk P w K mg base (fR P w) 1 t.f_l t.fd_l P__law_whole (ge mg 1 bP):=
 bo t.h_l.fu kr fun cdv A outer s H E hr=>
  have hu:=hr.units
  (ai (ar (nY (cv mX (by rfl) t.nb_isinstance (by rfl) t.nb_int (by decide +kernel) (qv 0)) (lE (yz (cv qm (by rfl) t.nb_isinstance (by rfl) t.nb_bool (by decide +kernel) (qv 0)))))))
theorem iB (t:Tx w K mg):FnOk P w K mg base (fR P w) 2 t.f_m t.fd_m P__law_row_same (ge mg 2 b6):=
 bo t.h_m.fu sc__law_row_same fun cdv A outer s H E hr=>
  have hu:=hr.units
  (ag (aJ (PWD.pt (bS (br (bC (cv gg (by rfl) t.nb_isinstance (by rfl) t.nb_tuple (by decide +kernel) (qv 0)))) (bJ (az (eJ hu) (aD aW (by rfl) t.nb_len (by decide +kernel) (aa (qv 0) ae)) (aD aW (by rfl) t.nb_len (by decide +kernel) (aa (qv 1) ae)) (aI _))))) (ai (ar e9)) av)
    (ag (cj jl rfl (fy (by rfl) t.nb_zip (aa (qv 0) (aa (qv 1) ae))) (ci rfl (aH (aw sc__law_row_same.nd rfl (.inl rfl)) (aH (aw sc__law_row_same.nd rfl (.inl rfl)) bF (fun _ a _ b=>aM a b)) (fun _ a _ b=>aM a b))) (ag (aJ (PWD.pt (dU (bC (cv fm (by rfl) t.nb_isinstance (by rfl) t.nb_str (by decide +kernel) (qv 3))) (cY (br (bC (cv fm (by rfl) t.nb_isinstance (by rfl) t.nb_str (by decide +kernel) (qv 2))))))) (ai (ar e9)) av)
    (ai (aJ (PWD.pt (dU (bC (cv mX (by rfl) t.nb_isinstance (by rfl) t.nb_int (by decide +kernel) (qv 3))) (cY (br (bC (ap (dy t) (hr.mono (by decide)) (by rfl) t.h_l.gl t.h_l.fu.kp t.h_l.bi au (aa (qv 2) ae) (ac am))))))) (ai (ar e9)) av))))
    (ai (ar (js (ce hu) (qv 0) (qv 1) (aI _))))))
theorem hV (t:Tx w K mg):FnOk P w K mg base (fR P w) 3 t.f_n t.fd_n P__law_rows_same (ge mg 2 bQ):=
 bo t.h_n.fu gY fun cdv A outer s H E hr=>
  have hu:=hr.units
  (ag (aJ (PWD.pt (bS (br (bC (cv gg (by rfl) t.nb_isinstance (by rfl) t.nb_tuple (by decide +kernel) (qv 0)))) (bS (az (eJ hu) (aD aW (by rfl) t.nb_len (by decide +kernel) (aa (qv 0) ae)) af (aI _)) (bJ (br (bC (cv fm (by rfl) t.nb_isinstance (by rfl) t.nb_str (by decide +kernel) (aB (pv 0) af (fun _ _=>rfl))))))))) (ai (ar e9)) av)
    (ag (aJ (PWD.pt (bS (az (eJ hu) (aB (pv 0) af (fun _ _=>rfl)) (aB (pv 1) af (fun _ _=>rfl)) (aI _)) (bS (br (bC (cv kQ (by rfl) t.nb_isinstance (by rfl) t.nb_list (by decide +kernel) (aB (pv 0) af (fun _ _=>rfl))))) (bJ (az (eJ hu) (aD aW (by rfl) t.nb_len (by decide +kernel) (aa (aB (pv 0) af (fun _ _=>rfl)) ae)) (aD aW (by rfl) t.nb_len (by decide +kernel) (aa (aB (pv 1) af (fun _ _=>rfl)) ae)) (aI _)))))) (ai (ar e9)) av)
    (ai (ar (aD (jC (by rfl)) (by rfl) t.nb_all (by decide +kernel) (aa (b0 rfl (CScope.of (osc:=defScope s__law_rows_same) (N:=cy) (tN:=["_law_one", "_law_row_here"]) (capN:=[]) (caps:=[]) rfl rfl (by decide +kernel)) (fy (by rfl) t.nb_zip (aa (aB (pv 0) af (fun _ _=>rfl)) (aa (aB (pv 1) af (fun _ _=>rfl)) ae))) (by decide) (fun cl C s3 H3 fp=>(ci rfl (aH (aw cJ rfl (.inl rfl)) (aH (aw cJ rfl (.inl rfl)) bF (fun _ a _ b=>aM a b)) (fun _ a _ b=>aM a b)))) (fun cl C s3 H3 fp=>bd) (fun cl C s3 H3 fp=>(ap (iB t) (hr.mono (by decide)) (by rfl) t.h_m.gl t.h_m.fu.kp t.h_m.bi jE (aa (qv 0) (aa (qv 1) ae)) (ac (ac am))))) ae))))))
theorem hW (t:Tx w K mg):FnOk P w K mg base (fR P w) 4 t.f_o t.fd_o P__law_same (ge mg 2 cK):=
 bo t.h_o.fu lY fun cdv A outer s H E hr=>
  have hu:=hr.units
  (ag (aJ (PWD.pt (bS (br (bC (cv gg (by rfl) t.nb_isinstance (by rfl) t.nb_tuple (by decide +kernel) (qv 0)))) (bJ (az (eJ hu) (aD aW (by rfl) t.nb_len (by decide +kernel) (aa (qv 0) ae)) af (aI _))))) (ai (ar e9)) av)
    (ag (aJ (PWD.pt (bS (br (bC (ap (dy t) (hr.mono (by decide)) (by rfl) t.h_l.gl t.h_l.fu.kp t.h_l.bi au (aa (aB (pv 0) af (fun _ _=>rfl)) ae) (ac am)))) (bS (br (bC (ap (dy t) (hr.mono (by decide)) (by rfl) t.h_l.gl t.h_l.fu.kp t.h_l.bi au (aa (aB (pv 0) af (fun _ _=>rfl)) ae) (ac am)))) (bJ (az (eJ hu) (aS (qv 0) bn (a_ af)) (aS (qv 1) bn (a_ af)) (aI _)))))) (ai (ar e9)) av)
    (ag (aJ (PWD.pt (bS (br (bC (cv kQ (by rfl) t.nb_isinstance (by rfl) t.nb_list (by decide +kernel) (aB (pv 0) af (fun _ _=>rfl))))) (bJ (az (eJ hu) (aD aW (by rfl) t.nb_len (by decide +kernel) (aa (aB (pv 0) af (fun _ _=>rfl)) ae)) (aD aW (by rfl) t.nb_len (by decide +kernel) (aa (aB (pv 1) af (fun _ _=>rfl)) ae)) (aI _))))) (ai (ar e9)) av)
    (ai (ar (aD (jC (by rfl)) (by rfl) t.nb_all (by decide +kernel) (aa (b0 rfl (CScope.of (osc:=defScope s__law_same) (N:=fK) (tN:=["_law_one", "_law_part"]) (capN:=[]) (caps:=[]) rfl rfl (by decide +kernel)) (fy (by rfl) t.nb_zip (aa (aB (pv 0) af (fun _ _=>rfl)) (aa (aB (pv 1) af (fun _ _=>rfl)) ae))) (by decide) (fun cl C s3 H3 fp=>(ci rfl (aH (aw eQ rfl (.inl rfl)) (aH (aw eQ rfl (.inl rfl)) bF (fun _ a _ b=>aM a b)) (fun _ a _ b=>aM a b)))) (fun cl C s3 H3 fp=>bd) (fun cl C s3 H3 fp=>(ap (hV t) (hr.mono (by decide)) (by rfl) t.h_n.gl t.h_n.fu.kp t.h_n.bi jE (aa (qv 0) (aa (qv 1) ae)) (ac (ac am))))) ae)))))))
theorem f_ (t:Tx w K mg):FnOk P w K mg base (fR P w) 1 t.f_p t.fd_p P_words_kept (ge mg 2 bR):=
 bo t.h_p.fu sc_words_kept fun cdv A outer s H E hr=>
  have hu:=hr.units
  (ag (aO sc_words_kept.nd rfl (.inl rfl) (fA (qv 0) aj))
    (ag (mW rfl (CScope.of (osc:=defScope s_words_kept) (N:=d_) (tN:=["letter", "word"]) (capN:=[]) (caps:=[]) rfl rfl (by decide +kernel)) sc_words_kept.nd rfl rfl (fy (by rfl) t.nb_zip (aa (aS (qv 1) (a_ af) bn) (aa (aS (qv 2) (a_ af) bn) ae))) (by decide) (fun cl C s3 H3 fp=>(ci rfl (aH (aw dM rfl (.inl rfl)) (aH (aw dM rfl (.inl rfl)) bF (fun _ a _ b=>aM a b)) (fun _ a _ b=>aM a b)))) (fun cl C s3 H3 fp=>bd) (fun cl C s3 H3 fp=>(A4 (az (lK hu) (qv 0) (bD (aa aj (aa aj ae))) (by rfl)) (qv 1) (cW vK (by rfl) t.nb_int (by decide +kernel) (aa (qv 1) ae)))))
    (ai (ar (cW sO (by rfl) t.nb_tuple (by decide +kernel) (aa (aF aN (aS (qv 2) bn (a_ af)) (qv 3)) ae))))))
theorem jX (t:Tx w K mg):FnOk P w K mg base (fR P w) 1 t.f_q t.fd_q P_is_name (ge mg 1 dN):=
 bo t.h_q.fu oh fun cdv A outer s H E hr=>
  have hu:=hr.units
  (ai (ar (nY (jF (mQ) (mQ) af (aD aW (by rfl) t.nb_len (by decide +kernel) (aa (qv 0) ae)) af) (lE (aD (jC (by rfl)) (by rfl) t.nb_all (by decide +kernel) (aa (b0 rfl (CScope.of (osc:=defScope s_is_name) (N:=iA) (tN:=["sign"]) (capN:=[]) (caps:=[]) rfl rfl (by decide +kernel)) (m9 (qv 0)) (by decide) (fun cl C s3 H3 fp=>(aw ku rfl (.inl rfl))) (fun cl C s3 H3 fp=>bd) (fun cl C s3 H3 fp=>(jF (lO) (lO) aj (qv 0) aj))) ae))))))
theorem nA (t:Tx w K mg):FnOk P w K mg base (fR P w) 1 t.f_r t.fd_r P_is_count (ge mg 1 c_):=
 bo t.h_r.fu nr fun cdv A outer s H E hr=>
  have hu:=hr.units
  (ag (aJ (PWD.pt (bS (br (qA (mQ) (mQ) af (aD aW (by rfl) t.nb_len (by decide +kernel) (aa (qv 0) ae)) af)) (bJ (br (bC (aD (jC (by rfl)) (by rfl) t.nb_all (by decide +kernel) (aa (b0 rfl (CScope.of (osc:=defScope s_is_count) (N:=gm) (tN:=["sign"]) (capN:=[]) (caps:=[]) rfl rfl (by decide +kernel)) (m9 (qv 0)) (by decide) (fun cl C s3 H3 fp=>(aw jT rfl (.inl rfl))) (fun cl C s3 H3 fp=>bd) (fun cl C s3 H3 fp=>(jF (lO) (lO) aj (qv 0) aj))) ae))))))) (ai (ar e9)) av)
    (ai (ar (A3 (js (ce hu) (qv 0) aj (aI _)) (lE (js (eJ hu) (aB (pv 0) af (fun _ _=>rfl)) aj (aI _)))))))
theorem nB (t:Tx w K mg):FnOk P w K mg base (fR P w) 2 t.f_s t.fd_s P_is_meant (ge mg 2 F_is_meant):=
 bo t.h_s.fu nt fun cdv A outer s H E hr=>
  have hu:=hr.units
  (ag (aJ (az (ce hu) (qv 0) aj (aI _)) (ai (ar (ap (jX t) (hr.mono (by decide)) (by rfl) t.h_q.gl t.h_q.fu.kp t.h_q.bi au (aa (qv 1) ae) (ac am)))) av)
    (ag (aJ (az (ce hu) (qv 0) aj (aI _)) (ai (ar (sY (by rfl) t.tb_PLACES t.ti_PLACES (qv 1)))) av)
    (ag (aJ (az (ce hu) (qv 0) aj (aI _)) (ai (ar (js (lK hu) (qv 1) (bD (aa aj (aa aj (aa aj (aa aj ae))))) (by rfl)))) av)
    (ai (ar (ap (nA t) (hr.mono (by decide)) (by rfl) t.h_r.gl t.h_r.fu.kp t.h_r.bi au (aa (qv 1) ae) (ac am)))))))
theorem nC (t:Tx w K mg):FnOk P w K mg base (fR P w) 3 t.f_t t.fd_t P_has_form (ge mg 2 bI):=
 bo t.h_t.fu nu fun cdv A outer s H E hr=>
  have hu:=hr.units
  (ag (aJ (PWD.pt (bS (az (eJ hu) (aD aW (by rfl) t.nb_len (by decide +kernel) (aa (qv 0) ae)) (aD aW (by rfl) t.nb_len (by decide +kernel) (aa (qv 1) ae)) (aI _)) (bJ (az (eJ hu) (aB (pv 0) af (fun _ _=>rfl)) (aB (pv 1) af (fun _ _=>rfl)) (aI _))))) (ai (ar e9)) av)
    (ai (ar (aD (jC (by rfl)) (by rfl) t.nb_all (by decide +kernel) (aa (b0 rfl (CScope.of (osc:=defScope s_has_form) (N:=gn) (tN:=["letter", "word"]) (capN:=[]) (caps:=[]) rfl rfl (by decide +kernel)) (fy (by rfl) t.nb_zip (aa (aS (qv 1) (a_ af) bn) (aa (aS (qv 0) (a_ af) bn) ae))) (by decide) (fun cl C s3 H3 fp=>(ci rfl (aH (aw fL rfl (.inl rfl)) (aH (aw fL rfl (.inl rfl)) bF (fun _ a _ b=>aM a b)) (fun _ a _ b=>aM a b)))) (fun cl C s3 H3 fp=>bd) (fun cl C s3 H3 fp=>(ap (nB t) (hr.mono (by decide)) (by rfl) t.h_s.gl t.h_s.fu.kp t.h_s.bi jE (aa (qv 0) (aa (qv 1) ae)) (ac (ac am))))) ae)))))
theorem ga (t:Tx w K mg):FnOk P w K mg base (fR P w) 4 t.f_u t.fd_u P_form_among (ge mg 2 bv):=
 bo t.h_u.fu sc_form_among fun cdv A outer s H E hr=>
  have hu:=hr.units
  (ag (aO sc_form_among.nd rfl (.inl rfl) (fA (qv 0) aj))
    (ag (cj jl rfl (bK (qv 1)) (aw sc_form_among.nd rfl (.inl rfl)) (ai (aJ (bC (ap (nC t) (hr.mono (by decide)) (by rfl) t.h_t.gl t.h_t.fu.kp t.h_t.bi au (aa (qv 2) (aa (qv 3) ae)) (ac (ac am)))) (ai (ar (qv 3))) av)))
    (ai (bB t.x_NoText (by rfl) (aa aj ae)))))
theorem qP (t:Tx w K mg):FnOk P w K mg base (fR P w) 5 t.f_v t.fd_v P_row_in (ge mg 1 g_):=
 bo t.h_v.fu qO fun cdv A outer s H E hr=>
  have hu:=hr.units
  (ai (ar (ap (f_ t) (hr.mono (by decide)) (by rfl) t.h_p.gl t.h_p.fu.kp t.h_p.bi au (aa (qv 0) (aa (ap (ga t) (hr.mono (by decide)) (by rfl) t.h_u.gl t.h_u.fu.kp t.h_u.bi au (aa (qv 0) (aa (xh (by rfl) t.kt_ROWS) ae)) (ac (ac am))) ae)) (ac (ac am)))))
theorem i6 (t:Tx w K mg):FnOk P w K mg base (fR P w) 6 t.f_w t.fd_w P_procedure_in (ge mg 1 cn):=
 bo t.h_w.fu sc_procedure_in fun cdv A outer s H E hr=>
  have hu:=hr.units
  (ag (aO sc_procedure_in.nd rfl (.inl rfl) (fA (qv 0) aj))
    (ag (aJ (PWD.pt (bS (az (eJ hu) (aD aW (by rfl) t.nb_len (by decide +kernel) (aa (qv 1) ae)) af (aI _)) (bJ (br (bC (ap (jX t) (hr.mono (by decide)) (by rfl) t.h_q.gl t.h_q.fu.kp t.h_q.bi au (aa (aB (pv 1) af (fun _ _=>rfl)) ae) (ac am))))))) (ai (bB t.x_NoText (by rfl) (aa aj ae))) av)
    (ai (ar (bD (aa (aB (pv 1) af (fun _ _=>rfl)) (aa (b0 rfl (CScope.of (osc:=defScope s_procedure_in) (N:=da) (tN:=["row"]) (capN:=[]) (caps:=[]) rfl rfl (by decide +kernel)) (bK (fA (aB (pv 1) af (fun _ _=>rfl)) aj)) (by decide) (fun cl C s3 H3 fp=>(aw gp rfl (.inl rfl))) (fun cl C s3 H3 fp=>bd) (fun cl C s3 H3 fp=>(ap (qP t) (hr.mono (by decide)) (by rfl) t.h_v.gl t.h_v.fu.kp t.h_v.bi jE (aa (qv 0) ae) (ac am)))) ae)))))))
theorem l9 (t:Tx w K mg):FnOk P w K mg base (fR P w) 7 t.f_x t.fd_x P_formed_in (ge mg 1 dk):=
 bo t.h_x.fu sc_formed_in fun cdv A outer s H E hr=>
  have hu:=hr.units
  (ag (aJ (br (bC (cv fm (by rfl) t.nb_isinstance (by rfl) t.nb_str (by decide +kernel) (qv 0)))) (ai (bB t.x_NoText (by rfl) (aa aj ae))) av)
    (ag (aO sc_formed_in.nd rfl (.inl rfl) (fA (qv 0) aj))
    (ag (aU sc_formed_in.nd rfl (.inl rfl) (ap (f_ t) (hr.mono (by decide)) (by rfl) t.h_p.gl t.h_p.fu.kp t.h_p.bi au (aa (aB (pv 1) af (fun _ _=>rfl)) (aa (ap (ga t) (hr.mono (by decide)) (by rfl) t.h_u.gl t.h_u.fu.kp t.h_u.bi au (aa (aB (pv 1) af (fun _ _=>rfl)) (aa (bD (aa (xh (by rfl) t.kt_VALUES) ae)) ae)) (ac (ac am))) ae)) (ac (ac am))))
    (ag (aJ (az (ce hu) (aD aW (by rfl) t.nb_len (by decide +kernel) (aa (qv 1) ae)) af (aI _)) (ai (bB t.x_NoText (by rfl) (aa aj ae))) av)
    (ai (ar (bD (aa (aB (pv 2) af (fun _ _=>rfl)) (aa (aB (pv 2) af (fun _ _=>rfl)) (aa (b0 rfl (CScope.of (osc:=defScope s_formed_in) (N:=fN) (tN:=["part"]) (capN:=[]) (caps:=[]) rfl rfl (by decide +kernel)) (bK (aS (qv 1) (a_ af) bn)) (by decide) (fun cl C s3 H3 fp=>(aw i4 rfl (.inl rfl))) (fun cl C s3 H3 fp=>bd) (fun cl C s3 H3 fp=>(ap (i6 t) (hr.mono (by decide)) (by rfl) t.h_w.gl t.h_w.fu.kp t.h_w.bi jE (aa (qv 0) ae) (ac am)))) ae))))))))))
theorem f6 (t:Tx w K mg):FnOk P w K mg base (fR P w) 1 t.f_y t.fd_y P_refuse_wrong_row (ge mg 4 bw):=
 bo t.h_y.fu sc_refuse_wrong_row fun cdv A outer s H E hr=>
  have hu:=hr.units
  (ag (aO sc_refuse_wrong_row.nd rfl (.inl rfl) (aB (pv 2) (qv 3) (fun _ _=>rfl)))
    (ag (aJ (PWD.pt (dU (az (ce hu) (aB (pv 4) af (fun _ _=>rfl)) aj (aI _)) (cY (az (im hu) (aB (pv 4) af (fun _ _=>rfl)) (qv 1) (by rfl))))) (ai (bB t.x_NoName (by rfl) (aa aj ae))) av)
    (ag (aJ (PWD.pt (dU (az (lK hu) (aB (pv 4) af (fun _ _=>rfl)) (bD (aa aj (aa aj ae))) (by rfl)) (cY (az (mR) (aB (pv 4) af (fun _ _=>rfl)) (aB (pv 0) (yP (by rfl) t.tb_PLACES (aB (pv 4) af (fun _ _=>rfl)) (fun _ _=>rfl)) (fun _ _=>rfl)) (aI _))))) (ai (bB t.x_NoValue (by rfl) (aa aj ae))) av)
    (ag (aJ (PWD.pt (dU (az (lK hu) (aB (pv 4) af (fun _ _=>rfl)) (bD (aa aj (aa aj (aa aj ae)))) (by rfl)) (cY (az (mR) (aB (pv 4) (yF af) (fun _ _=>rfl)) (aD aW (by rfl) t.nb_len (by decide +kernel) (aa (qv 2) ae)) (aI _))))) (ai (bB t.x_NoRow (by rfl) (aa aj ae))) av)
    (ai (aJ (PWD.pt (dU (az (ce hu) (qv 3) (aF ju (aD aW (by rfl) t.nb_len (by decide +kernel) (aa (qv 2) ae)) af) (aI _)) (cY (az (im hu) (aB (pv 4) af (fun _ _=>rfl)) (bD (aa aj (aa aj (aa aj ae)))) (by rfl))))) (ai (bB t.x_NoRow (by rfl) (aa aj ae))) av))))))
theorem wx (t:Tx w K mg):FnOk P w K mg base (fR P w) 8 t.f_z t.fd_z P_read (ge mg 1 l5):=
 bo t.h_z.fu sc_read fun cdv A outer s H E hr=>
  have hu:=hr.units
  (ag (aU sc_read.nd rfl (.inl rfl) (ap (l9 t) (hr.mono (by decide)) (by rfl) t.h_x.gl t.h_x.fu.kp t.h_x.bi au (aa (qv 0) ae) (ac am)))
    (ag (mW rfl (CScope.of (osc:=defScope s_read) (N:=oj) (tN:=["name", "rows"]) (capN:=[]) (caps:=[]) rfl rfl (by decide +kernel)) sc_read.nd rfl rfl (bK (aB (pv 1) af (fun _ _=>rfl))) (by decide) (fun cl C s3 H3 fp=>(ci rfl (aH (aw jV rfl (.inl rfl)) (aH (aw jV rfl (.inl rfl)) bF (fun _ a _ b=>aM a b)) (fun _ a _ b=>aM a b)))) (fun cl C s3 H3 fp=>bd) (fun cl C s3 H3 fp=>(qv 0)))
    (ag (aJ (az (w_) (qH (by rfl) (qv 2) (by rfl) t.nb_len (by decide +kernel) (by rfl) t.nb_set (by decide +kernel)) (aD aW (by rfl) t.nb_len (by decide +kernel) (aa (qv 2) ae)) (aI _)) (ai (bB t.x_Twice (by rfl) (aa aj ae))) av)
    (ag (aJ (az (im hu) aj (qv 2) (by rfl)) (ai (bB t.x_NoName (by rfl) (aa aj ae))) av)
    (ag (cj jl rfl (bK (aB (pv 1) af (fun _ _=>rfl))) (ci rfl (aH (aw sc_read.nd rfl (.inl rfl)) (aH (aw sc_read.nd rfl (.inl rfl)) bF (fun _ a _ b=>aM a b)) (fun _ a _ b=>aM a b))) (ai (cj jl rfl (dY (by rfl) t.nb_range (aa (aD aW (by rfl) t.nb_len (by decide +kernel) (aa (qv 4) ae)) ae)) (aw sc_read.nd rfl (.inl rfl)) (ai (tf (ap (f6 t) (hr.mono (by decide)) (by rfl) t.h_y.gl t.h_y.fu.kp t.h_y.bi au (aa (qv 1) (aa (qv 2) (aa (qv 4) (aa (qv 5) ae)))) (ac (ac (ac (ac am))))))))))
    (ai (ar (qv 1))))))))
theorem zT (t:Tx w K mg):FnOk P w K mg base (fR P w) 9 t.f_A t.fd_A P_law (ge mg 1 ny):=
 bo t.h_A.fu sc_law fun cdv A outer s H E hr=>
  have hu:=hr.units
  (ag (aU sc_law.nd rfl (.inl rfl) (ap (eR t) (hr.mono (by decide)) (by rfl) t.h_a.gl t.h_a.fu.kp t.h_a.bi au (aa (qv 0) (aa af ae)) (ac (ac am))))
    (ag (aO sc_law.nd rfl (.inl rfl) (cf (aa (aF aN af (ap (aC t) (hr.mono (by decide)) (by rfl) t.h_b.gl t.h_b.fu.kp t.h_b.bi au (aa (qv 1) (aa af (aa af ae))) (ac (ac (ac am))))) (aa (aF aN af (ap (aC t) (hr.mono (by decide)) (by rfl) t.h_b.gl t.h_b.fu.kp t.h_b.bi au (aa (qv 1) (aa af (aa af ae))) (ac (ac (ac am))))) ae))))
    (ag (aU sc_law.nd rfl (.inl rfl) (ap (kw t) (hr.mono (by decide)) (by rfl) t.h_d.gl t.h_d.fu.kp t.h_d.bi au (aa (ap (eR t) (hr.mono (by decide)) (by rfl) t.h_a.gl t.h_a.fu.kp t.h_a.bi au (aa (qv 0) (aa af ae)) (ac (ac am))) ae) (ac am)))
    (ag (aU sc_law.nd rfl (.inl rfl) (ap (eS t) (hr.mono (by decide)) (by rfl) t.h_f.gl t.h_f.fu.kp t.h_f.bi au (aa (ap (f9 t) (hr.mono (by decide)) (by rfl) t.h_g.gl t.h_g.fu.kp t.h_g.bi au (aa (qv 0) (aa (qv 1) ae)) (ac (ac am))) (aa (qv 2) (aa (qv 3) (aa (qv 1) ae)))) (ac (ac (ac (ac am))))))
    (ag (aU sc_law.nd rfl (.inl rfl) (ap (eS t) (hr.mono (by decide)) (by rfl) t.h_f.gl t.h_f.fu.kp t.h_f.bi au (aa (ap (f9 t) (hr.mono (by decide)) (by rfl) t.h_g.gl t.h_g.fu.kp t.h_g.bi au (aa (qv 0) (aa (qv 1) ae)) (ac (ac am))) (aa (qv 2) (aa (qv 3) (aa (qv 1) ae)))) (ac (ac (ac (ac am))))))
    (ag (aU sc_law.nd rfl (.inl rfl) (ap (uf t) (hr.mono (by decide)) (by rfl) t.h_j.gl t.h_j.fu.kp t.h_j.bi au (aa (qv 5) ae) (ac am)))
    (ag (aJ (PWD.pt (bS (br (bC (cv fm (by rfl) t.nb_isinstance (by rfl) t.nb_str (by decide +kernel) (qv 6)))) (bJ (az (eJ hu) (qv 6) (ap (l7 t) (hr.mono (by decide)) (by rfl) t.h_k.gl t.h_k.fu.kp t.h_k.bi au (aa (qv 4) ae) (ac am)) (aI _))))) (ai (ar e9)) av)
    (ai (ar (nY (ap (hW t) (hr.mono (by decide)) (by rfl) t.h_o.gl t.h_o.fu.kp t.h_o.bi au (aa (ap (wx t) (hr.mono (by decide)) (by rfl) t.h_z.gl t.h_z.fu.kp t.h_z.bi au (aa (qv 6) ae) (ac am)) (aa (qv 4) ae)) (ac (ac am))) (lE (ap (hW t) (hr.mono (by decide)) (by rfl) t.h_o.gl t.h_o.fu.kp t.h_o.bi au (aa (qv 5) (aa (qv 4) ae)) (ac (ac am))))))))))))))
end
theorem iC {Q:List Value->Prop}{us:List Value}(hl:us.length=1)(h:∀ a0:Value,Q [a0]):Q us:=by
 match us,hl with
 | [a0],_=>exact h a0
theorem kx {Q:List Value->Prop}{us:List Value}(hl:us.length=2)(h:∀ a0 a1:Value,Q [a0,a1]):Q us:=by
 match us,hl with
 | [a0,a1],_=>exact h a0 a1
theorem Du {Q:List Value->Prop}{us:List Value}(hl:us.length=3)(h:∀ a0 a1 a2:Value,Q [a0,a1,a2]):Q us:=by
 match us,hl with
 | [a0,a1,a2],_=>exact h a0 a1 a2
theorem B2 {Q:List Value->Prop}{us:List Value}(hl:us.length=4)(h:∀ a0 a1 a2 a3:Value,Q [a0,a1,a2,a3]):Q us:=by
 match us,hl with
 | [a0,a1,a2,a3],_=>exact h a0 a1 a2 a3
theorem Dv {Q:List Value->Prop}{us:List Value}(hl:us.length=5)(h:∀ a0 a1 a2 a3 a4:Value,Q [a0,a1,a2,a3,a4]):Q us:=by
 match us,hl with
 | [a0,a1,a2,a3,a4],_=>exact h a0 a1 a2 a3 a4
theorem B3 {w:World}{K KK:PySem.W.Frag}{mg:Str->Option Value}{h:Heap}(X:K.In h)(G:h.Ns mainGlobals mg)(U:SubK K KK)
 {f_a:Addr} {od_a an_a:Option Addr} {sl_a:Array (Option Value)} {oc_a kV_a dc_a pm_a cd_a ct_a:Value}
 (a_a:PySem.W.nsIn K mainGlobals "_law_cell_at"=some (some (.ref f_a))) (l_a:K.lookup f_a=some ⟨oc_a,od_a,.func (PySem.W.fnOf "_law_cell_at" "_law_cell_at" (defArgs s__law_cell_at) (defBody s__law_cell_at) (defScope s__law_cell_at) .none kV_a dc_a pm_a an_a cd_a ct_a),sl_a⟩) (c_a:PySem.W.codeIn K cd_a "_law_cell_at"=true) (k_a:PySem.W.keepIn K (.ref f_a)=true)
 {f_b:Addr} {od_b an_b:Option Addr} {sl_b:Array (Option Value)} {oc_b kV_b dc_b pm_b cd_b ct_b:Value}
 (a_b:PySem.W.nsIn K mainGlobals "_law_digit"=some (some (.ref f_b))) (l_b:K.lookup f_b=some ⟨oc_b,od_b,.func (PySem.W.fnOf "_law_digit" "_law_digit" (defArgs s__law_digit) (defBody s__law_digit) (defScope s__law_digit) .none kV_b dc_b pm_b an_b cd_b ct_b),sl_b⟩) (c_b:PySem.W.codeIn K cd_b "_law_digit"=true) (k_b:PySem.W.keepIn K (.ref f_b)=true)
 {f_c:Addr} {od_c an_c:Option Addr} {sl_c:Array (Option Value)} {oc_c kV_c dc_c pm_c cd_c ct_c:Value}
 (a_c:PySem.W.nsIn K mainGlobals "_law_word"=some (some (.ref f_c))) (l_c:K.lookup f_c=some ⟨oc_c,od_c,.func (PySem.W.fnOf "_law_word" "_law_word" (defArgs s__law_word) (defBody s__law_word) (defScope s__law_word) .none kV_c dc_c pm_c an_c cd_c ct_c),sl_c⟩) (c_c:PySem.W.codeIn K cd_c "_law_word"=true) (k_c:PySem.W.keepIn K (.ref f_c)=true)
 {f_d:Addr} {od_d an_d:Option Addr} {sl_d:Array (Option Value)} {oc_d kV_d dc_d pm_d cd_d ct_d:Value}
 (a_d:PySem.W.nsIn K mainGlobals "_law_names"=some (some (.ref f_d))) (l_d:K.lookup f_d=some ⟨oc_d,od_d,.func (PySem.W.fnOf "_law_names" "_law_names" (defArgs s__law_names) (defBody s__law_names) (defScope s__law_names) .none kV_d dc_d pm_d an_d cd_d ct_d),sl_d⟩) (c_d:PySem.W.codeIn K cd_d "_law_names"=true) (k_d:PySem.W.keepIn K (.ref f_d)=true)
 {f_e:Addr} {od_e an_e:Option Addr} {sl_e:Array (Option Value)} {oc_e kV_e dc_e pm_e cd_e ct_e:Value}
 (a_e:PySem.W.nsIn K mainGlobals "_law_row"=some (some (.ref f_e))) (l_e:K.lookup f_e=some ⟨oc_e,od_e,.func (PySem.W.fnOf "_law_row" "_law_row" (defArgs s__law_row) (defBody s__law_row) (defScope s__law_row) .none kV_e dc_e pm_e an_e cd_e ct_e),sl_e⟩) (c_e:PySem.W.codeIn K cd_e "_law_row"=true) (k_e:PySem.W.keepIn K (.ref f_e)=true)
 {f_f:Addr} {od_f an_f:Option Addr} {sl_f:Array (Option Value)} {oc_f kV_f dc_f pm_f cd_f ct_f:Value}
 (a_f:PySem.W.nsIn K mainGlobals "_law_program"=some (some (.ref f_f))) (l_f:K.lookup f_f=some ⟨oc_f,od_f,.func (PySem.W.fnOf "_law_program" "_law_program" (defArgs s__law_program) (defBody s__law_program) (defScope s__law_program) .none kV_f dc_f pm_f an_f cd_f ct_f),sl_f⟩) (c_f:PySem.W.codeIn K cd_f "_law_program"=true) (k_f:PySem.W.keepIn K (.ref f_f)=true)
 {f_g:Addr} {od_g an_g:Option Addr} {sl_g:Array (Option Value)} {oc_g kV_g dc_g pm_g cd_g ct_g:Value}
 (a_g:PySem.W.nsIn K mainGlobals "_law_cells"=some (some (.ref f_g))) (l_g:K.lookup f_g=some ⟨oc_g,od_g,.func (PySem.W.fnOf "_law_cells" "_law_cells" (defArgs s__law_cells) (defBody s__law_cells) (defScope s__law_cells) .none kV_g dc_g pm_g an_g cd_g ct_g),sl_g⟩) (c_g:PySem.W.codeIn K cd_g "_law_cells"=true) (k_g:PySem.W.keepIn K (.ref f_g)=true)
 {f_h:Addr} {od_h an_h:Option Addr} {sl_h:Array (Option Value)} {oc_h kV_h dc_h pm_h cd_h ct_h:Value}
 (a_h:PySem.W.nsIn K mainGlobals "row_shown"=some (some (.ref f_h))) (l_h:K.lookup f_h=some ⟨oc_h,od_h,.func (PySem.W.fnOf "row_shown" "row_shown" (defArgs s_row_shown) (defBody s_row_shown) (defScope s_row_shown) .none kV_h dc_h pm_h an_h cd_h ct_h),sl_h⟩) (c_h:PySem.W.codeIn K cd_h "row_shown"=true) (k_h:PySem.W.keepIn K (.ref f_h)=true)
 {f_i:Addr} {od_i an_i:Option Addr} {sl_i:Array (Option Value)} {oc_i kV_i dc_i pm_i cd_i ct_i:Value}
 (a_i:PySem.W.nsIn K mainGlobals "procedure_shown"=some (some (.ref f_i))) (l_i:K.lookup f_i=some ⟨oc_i,od_i,.func (PySem.W.fnOf "procedure_shown" "procedure_shown" (defArgs s_procedure_shown) (defBody s_procedure_shown) (defScope s_procedure_shown) .none kV_i dc_i pm_i an_i cd_i ct_i),sl_i⟩) (c_i:PySem.W.codeIn K cd_i "procedure_shown"=true) (k_i:PySem.W.keepIn K (.ref f_i)=true)
 {f_j:Addr} {od_j an_j:Option Addr} {sl_j:Array (Option Value)} {oc_j kV_j dc_j pm_j cd_j ct_j:Value}
 (a_j:PySem.W.nsIn K mainGlobals "shown"=some (some (.ref f_j))) (l_j:K.lookup f_j=some ⟨oc_j,od_j,.func (PySem.W.fnOf "shown" "shown" (defArgs s_shown) (defBody s_shown) (defScope s_shown) .none kV_j dc_j pm_j an_j cd_j ct_j),sl_j⟩) (c_j:PySem.W.codeIn K cd_j "shown"=true) (k_j:PySem.W.keepIn K (.ref f_j)=true)
 {f_k:Addr} {od_k an_k:Option Addr} {sl_k:Array (Option Value)} {oc_k kV_k dc_k pm_k cd_k ct_k:Value}
 (a_k:PySem.W.nsIn K mainGlobals "_law_text"=some (some (.ref f_k))) (l_k:K.lookup f_k=some ⟨oc_k,od_k,.func (PySem.W.fnOf "_law_text" "_law_text" (defArgs s__law_text) (defBody s__law_text) (defScope s__law_text) .none kV_k dc_k pm_k an_k cd_k ct_k),sl_k⟩) (c_k:PySem.W.codeIn K cd_k "_law_text"=true) (k_k:PySem.W.keepIn K (.ref f_k)=true)
 {f_l:Addr} {od_l an_l:Option Addr} {sl_l:Array (Option Value)} {oc_l kV_l dc_l pm_l cd_l ct_l:Value}
 (a_l:PySem.W.nsIn K mainGlobals "_law_whole"=some (some (.ref f_l))) (l_l:K.lookup f_l=some ⟨oc_l,od_l,.func (PySem.W.fnOf "_law_whole" "_law_whole" (defArgs s__law_whole) (defBody s__law_whole) (defScope s__law_whole) .none kV_l dc_l pm_l an_l cd_l ct_l),sl_l⟩) (c_l:PySem.W.codeIn K cd_l "_law_whole"=true) (k_l:PySem.W.keepIn K (.ref f_l)=true)
 {f_m:Addr} {od_m an_m:Option Addr} {sl_m:Array (Option Value)} {oc_m kV_m dc_m pm_m cd_m ct_m:Value}
 (a_m:PySem.W.nsIn K mainGlobals "_law_row_same"=some (some (.ref f_m))) (l_m:K.lookup f_m=some ⟨oc_m,od_m,.func (PySem.W.fnOf "_law_row_same" "_law_row_same" (defArgs s__law_row_same) (defBody s__law_row_same) (defScope s__law_row_same) .none kV_m dc_m pm_m an_m cd_m ct_m),sl_m⟩) (c_m:PySem.W.codeIn K cd_m "_law_row_same"=true) (k_m:PySem.W.keepIn K (.ref f_m)=true)
 {f_n:Addr} {od_n an_n:Option Addr} {sl_n:Array (Option Value)} {oc_n kV_n dc_n pm_n cd_n ct_n:Value}
 (a_n:PySem.W.nsIn K mainGlobals "_law_rows_same"=some (some (.ref f_n))) (l_n:K.lookup f_n=some ⟨oc_n,od_n,.func (PySem.W.fnOf "_law_rows_same" "_law_rows_same" (defArgs s__law_rows_same) (defBody s__law_rows_same) (defScope s__law_rows_same) .none kV_n dc_n pm_n an_n cd_n ct_n),sl_n⟩) (c_n:PySem.W.codeIn K cd_n "_law_rows_same"=true) (k_n:PySem.W.keepIn K (.ref f_n)=true)
 {f_o:Addr} {od_o an_o:Option Addr} {sl_o:Array (Option Value)} {oc_o kV_o dc_o pm_o cd_o ct_o:Value}
 (a_o:PySem.W.nsIn K mainGlobals "_law_same"=some (some (.ref f_o))) (l_o:K.lookup f_o=some ⟨oc_o,od_o,.func (PySem.W.fnOf "_law_same" "_law_same" (defArgs s__law_same) (defBody s__law_same) (defScope s__law_same) .none kV_o dc_o pm_o an_o cd_o ct_o),sl_o⟩) (c_o:PySem.W.codeIn K cd_o "_law_same"=true) (k_o:PySem.W.keepIn K (.ref f_o)=true)
 {f_p:Addr} {od_p an_p:Option Addr} {sl_p:Array (Option Value)} {oc_p kV_p dc_p pm_p cd_p ct_p:Value}
 (a_p:PySem.W.nsIn K mainGlobals "words_kept"=some (some (.ref f_p))) (l_p:K.lookup f_p=some ⟨oc_p,od_p,.func (PySem.W.fnOf "words_kept" "words_kept" (defArgs s_words_kept) (defBody s_words_kept) (defScope s_words_kept) .none kV_p dc_p pm_p an_p cd_p ct_p),sl_p⟩) (c_p:PySem.W.codeIn K cd_p "words_kept"=true) (k_p:PySem.W.keepIn K (.ref f_p)=true)
 {f_q:Addr} {od_q an_q:Option Addr} {sl_q:Array (Option Value)} {oc_q kV_q dc_q pm_q cd_q ct_q:Value}
 (a_q:PySem.W.nsIn K mainGlobals "is_name"=some (some (.ref f_q))) (l_q:K.lookup f_q=some ⟨oc_q,od_q,.func (PySem.W.fnOf "is_name" "is_name" (defArgs s_is_name) (defBody s_is_name) (defScope s_is_name) .none kV_q dc_q pm_q an_q cd_q ct_q),sl_q⟩) (c_q:PySem.W.codeIn K cd_q "is_name"=true) (k_q:PySem.W.keepIn K (.ref f_q)=true)
 {f_r:Addr} {od_r an_r:Option Addr} {sl_r:Array (Option Value)} {oc_r kV_r dc_r pm_r cd_r ct_r:Value}
 (a_r:PySem.W.nsIn K mainGlobals "is_count"=some (some (.ref f_r))) (l_r:K.lookup f_r=some ⟨oc_r,od_r,.func (PySem.W.fnOf "is_count" "is_count" (defArgs s_is_count) (defBody s_is_count) (defScope s_is_count) .none kV_r dc_r pm_r an_r cd_r ct_r),sl_r⟩) (c_r:PySem.W.codeIn K cd_r "is_count"=true) (k_r:PySem.W.keepIn K (.ref f_r)=true)
 {f_s:Addr} {od_s an_s:Option Addr} {sl_s:Array (Option Value)} {oc_s kV_s dc_s pm_s cd_s ct_s:Value}
 (a_s:PySem.W.nsIn K mainGlobals "is_meant"=some (some (.ref f_s))) (l_s:K.lookup f_s=some ⟨oc_s,od_s,.func (PySem.W.fnOf "is_meant" "is_meant" (defArgs s_is_meant) (defBody s_is_meant) (defScope s_is_meant) .none kV_s dc_s pm_s an_s cd_s ct_s),sl_s⟩) (c_s:PySem.W.codeIn K cd_s "is_meant"=true) (k_s:PySem.W.keepIn K (.ref f_s)=true)
 {f_t:Addr} {od_t an_t:Option Addr} {sl_t:Array (Option Value)} {oc_t kV_t dc_t pm_t cd_t ct_t:Value}
 (a_t:PySem.W.nsIn K mainGlobals "has_form"=some (some (.ref f_t))) (l_t:K.lookup f_t=some ⟨oc_t,od_t,.func (PySem.W.fnOf "has_form" "has_form" (defArgs s_has_form) (defBody s_has_form) (defScope s_has_form) .none kV_t dc_t pm_t an_t cd_t ct_t),sl_t⟩) (c_t:PySem.W.codeIn K cd_t "has_form"=true) (k_t:PySem.W.keepIn K (.ref f_t)=true)
 {f_u:Addr} {od_u an_u:Option Addr} {sl_u:Array (Option Value)} {oc_u kV_u dc_u pm_u cd_u ct_u:Value}
 (a_u:PySem.W.nsIn K mainGlobals "form_among"=some (some (.ref f_u))) (l_u:K.lookup f_u=some ⟨oc_u,od_u,.func (PySem.W.fnOf "form_among" "form_among" (defArgs s_form_among) (defBody s_form_among) (defScope s_form_among) .none kV_u dc_u pm_u an_u cd_u ct_u),sl_u⟩) (c_u:PySem.W.codeIn K cd_u "form_among"=true) (k_u:PySem.W.keepIn K (.ref f_u)=true)
 {f_v:Addr} {od_v an_v:Option Addr} {sl_v:Array (Option Value)} {oc_v kV_v dc_v pm_v cd_v ct_v:Value}
 (a_v:PySem.W.nsIn K mainGlobals "row_in"=some (some (.ref f_v))) (l_v:K.lookup f_v=some ⟨oc_v,od_v,.func (PySem.W.fnOf "row_in" "row_in" (defArgs s_row_in) (defBody s_row_in) (defScope s_row_in) .none kV_v dc_v pm_v an_v cd_v ct_v),sl_v⟩) (c_v:PySem.W.codeIn K cd_v "row_in"=true) (k_v:PySem.W.keepIn K (.ref f_v)=true)
 {f_w:Addr} {od_w an_w:Option Addr} {sl_w:Array (Option Value)} {oc_w kV_w dc_w pm_w cd_w ct_w:Value}
 (a_w:PySem.W.nsIn K mainGlobals "procedure_in"=some (some (.ref f_w))) (l_w:K.lookup f_w=some ⟨oc_w,od_w,.func (PySem.W.fnOf "procedure_in" "procedure_in" (defArgs s_procedure_in) (defBody s_procedure_in) (defScope s_procedure_in) .none kV_w dc_w pm_w an_w cd_w ct_w),sl_w⟩) (c_w:PySem.W.codeIn K cd_w "procedure_in"=true) (k_w:PySem.W.keepIn K (.ref f_w)=true)
 {f_x:Addr} {od_x an_x:Option Addr} {sl_x:Array (Option Value)} {oc_x kV_x dc_x pm_x cd_x ct_x:Value}
 (a_x:PySem.W.nsIn K mainGlobals "formed_in"=some (some (.ref f_x))) (l_x:K.lookup f_x=some ⟨oc_x,od_x,.func (PySem.W.fnOf "formed_in" "formed_in" (defArgs s_formed_in) (defBody s_formed_in) (defScope s_formed_in) .none kV_x dc_x pm_x an_x cd_x ct_x),sl_x⟩) (c_x:PySem.W.codeIn K cd_x "formed_in"=true) (k_x:PySem.W.keepIn K (.ref f_x)=true)
 {f_y:Addr} {od_y an_y:Option Addr} {sl_y:Array (Option Value)} {oc_y kV_y dc_y pm_y cd_y ct_y:Value}
 (a_y:PySem.W.nsIn K mainGlobals "refuse_wrong_row"=some (some (.ref f_y))) (l_y:K.lookup f_y=some ⟨oc_y,od_y,.func (PySem.W.fnOf "refuse_wrong_row" "refuse_wrong_row" (defArgs s_refuse_wrong_row) (defBody s_refuse_wrong_row) (defScope s_refuse_wrong_row) .none kV_y dc_y pm_y an_y cd_y ct_y),sl_y⟩) (c_y:PySem.W.codeIn K cd_y "refuse_wrong_row"=true) (k_y:PySem.W.keepIn K (.ref f_y)=true)
 {f_z:Addr} {od_z an_z:Option Addr} {sl_z:Array (Option Value)} {oc_z kV_z dc_z pm_z cd_z ct_z:Value}
 (a_z:PySem.W.nsIn K mainGlobals "read"=some (some (.ref f_z))) (l_z:K.lookup f_z=some ⟨oc_z,od_z,.func (PySem.W.fnOf "read" "read" (defArgs s_read) (defBody s_read) (defScope s_read) .none kV_z dc_z pm_z an_z cd_z ct_z),sl_z⟩) (c_z:PySem.W.codeIn K cd_z "read"=true) (k_z:PySem.W.keepIn K (.ref f_z)=true)
 {f_A:Addr} {od_A an_A:Option Addr} {sl_A:Array (Option Value)} {oc_A kV_A dc_A pm_A cd_A ct_A:Value}
 (a_A:PySem.W.nsIn K mainGlobals "law"=some (some (.ref f_A))) (l_A:K.lookup f_A=some ⟨oc_A,od_A,.func (PySem.W.fnOf "law" "law" (defArgs s_law) (defBody s_law) (defScope s_law) .none kV_A dc_A pm_A an_A cd_A ct_A),sl_A⟩) (c_A:PySem.W.codeIn K cd_A "law"=true) (k_A:PySem.W.keepIn K (.ref f_A)=true)
 (z_all:PySem.W.nsIn K mainGlobals "all"=some none)
 (z_bool:PySem.W.nsIn K mainGlobals "bool"=some none)
 (z_enumerate:PySem.W.nsIn K mainGlobals "enumerate"=some none)
 (z_int:PySem.W.nsIn K mainGlobals "int"=some none)
 (z_isinstance:PySem.W.nsIn K mainGlobals "isinstance"=some none)
 (z_len:PySem.W.nsIn K mainGlobals "len"=some none)
 (z_list:PySem.W.nsIn K mainGlobals "list"=some none)
 (z_range:PySem.W.nsIn K mainGlobals "range"=some none)
 (z_set:PySem.W.nsIn K mainGlobals "set"=some none)
 (z_str:PySem.W.nsIn K mainGlobals "str"=some none)
 (z_tuple:PySem.W.nsIn K mainGlobals "tuple"=some none)
 (z_zip:PySem.W.nsIn K mainGlobals "zip"=some none)
 {C_Twice:Addr} (b_Twice:PySem.W.nsIn K mainGlobals "Twice"=some (some (.ref C_Twice))) (e_Twice:PySem.W.excIn K C_Twice vMro "ValueError.__new__"=true)
 {C_NoName:Addr} (b_NoName:PySem.W.nsIn K mainGlobals "NoName"=some (some (.ref C_NoName))) (e_NoName:PySem.W.excIn K C_NoName vMro "ValueError.__new__"=true)
 {C_NoText:Addr} (b_NoText:PySem.W.nsIn K mainGlobals "NoText"=some (some (.ref C_NoText))) (e_NoText:PySem.W.excIn K C_NoText vMro "ValueError.__new__"=true)
 {C_NoValue:Addr} (b_NoValue:PySem.W.nsIn K mainGlobals "NoValue"=some (some (.ref C_NoValue))) (e_NoValue:PySem.W.excIn K C_NoValue vMro "ValueError.__new__"=true)
 {C_NoRow:Addr} (b_NoRow:PySem.W.nsIn K mainGlobals "NoRow"=some (some (.ref C_NoRow))) (e_NoRow:PySem.W.excIn K C_NoRow vMro "ValueError.__new__"=true)
 {ad_PLACES ep_PLACES:Nat} {hs_PLACES_0 hs_PLACES_1:Int} {tk_PLACES_0 tv_PLACES_0 tk_PLACES_1 tv_PLACES_1:Tok} (g_PLACES:PySem.W.nsIn K mainGlobals "PLACES"=some (some (.ref ad_PLACES))) (d_PLACES:K.lookup ad_PLACES=some ⟨.type "dict",none,.dict #[⟨hs_PLACES_0,.str "shared" tk_PLACES_0,.int 0 tv_PLACES_0⟩,⟨hs_PLACES_1,.str "own" tk_PLACES_1,.int 1 tv_PLACES_1⟩] ep_PLACES,#[]⟩)
 (m_PLACES_0:hs_PLACES_0=hashStr w "shared")
 (m_PLACES_1:hs_PLACES_1=hashStr w "own")
 {ad_VALUES:Addr} (g_VALUES:PySem.W.nsIn K mainGlobals "VALUES"=some (some (.ref ad_VALUES))) (q_VALUES:KtIs KK (.tup [.str "values",.str "S",.str "S"]) (.ref ad_VALUES))
 {ad_ROWS:Addr} (g_ROWS:PySem.W.nsIn K mainGlobals "ROWS"=some (some (.ref ad_ROWS))) (q_ROWS:KtIs KK (.tup [.tup [.str "skip"],.tup [.str "set",.str "V",.str "N"],.tup [.str "any",.str "V"],.tup [.str "turn",.str "V"],.tup [.str "if",.str "V",.str "N",.str "K"],.tup [.str "go",.str "K"],.tup [.str "fork",.str "K"],.tup [.str "call",.str "F"],.tup [.str "back"],.tup [.str "stop"]]) (.ref ad_ROWS))
 (n_PLACES:(ad_PLACES==sysModules)=false)
 : ∃ t:Tx w KK mg,t.f_A=f_A:=
 ⟨⟨f_a,_,⟨ax (st:=s__law_cell_at) (U.look _ _ l_a (fun _ _ z=>nomatch z)) (U.code c_a) (U.keep l_a),(ax (st:=s__law_cell_at) (U.look _ _ l_a (fun _ _ z=>nomatch z)) (U.code c_a) (U.keep l_a)).binds (ps:=P__law_cell_at) fun _ _ _ _ _ _ us hl=>kx (Q:=fun us=>bindArgs _ ⟨us,[]⟩=pure (List.zip P__law_cell_at us)) hl fun _ _=>rfl,PySem.W.mg_of X G a_a⟩,
   f_b,_,⟨ax (st:=s__law_digit) (U.look _ _ l_b (fun _ _ z=>nomatch z)) (U.code c_b) (U.keep l_b),(ax (st:=s__law_digit) (U.look _ _ l_b (fun _ _ z=>nomatch z)) (U.code c_b) (U.keep l_b)).binds (ps:=P__law_digit) fun _ _ _ _ _ _ us hl=>Du (Q:=fun us=>bindArgs _ ⟨us,[]⟩=pure (List.zip P__law_digit us)) hl fun _ _ _=>rfl,PySem.W.mg_of X G a_b⟩,
   f_c,_,⟨ax (st:=s__law_word) (U.look _ _ l_c (fun _ _ z=>nomatch z)) (U.code c_c) (U.keep l_c),(ax (st:=s__law_word) (U.look _ _ l_c (fun _ _ z=>nomatch z)) (U.code c_c) (U.keep l_c)).binds (ps:=P__law_word) fun _ _ _ _ _ _ us hl=>iC (Q:=fun us=>bindArgs _ ⟨us,[]⟩=pure (List.zip P__law_word us)) hl fun _=>rfl,PySem.W.mg_of X G a_c⟩,
   f_d,_,⟨ax (st:=s__law_names) (U.look _ _ l_d (fun _ _ z=>nomatch z)) (U.code c_d) (U.keep l_d),(ax (st:=s__law_names) (U.look _ _ l_d (fun _ _ z=>nomatch z)) (U.code c_d) (U.keep l_d)).binds (ps:=P__law_names) fun _ _ _ _ _ _ us hl=>iC (Q:=fun us=>bindArgs _ ⟨us,[]⟩=pure (List.zip P__law_names us)) hl fun _=>rfl,PySem.W.mg_of X G a_d⟩,
   f_e,_,⟨ax (st:=s__law_row) (U.look _ _ l_e (fun _ _ z=>nomatch z)) (U.code c_e) (U.keep l_e),(ax (st:=s__law_row) (U.look _ _ l_e (fun _ _ z=>nomatch z)) (U.code c_e) (U.keep l_e)).binds (ps:=P__law_row) fun _ _ _ _ _ _ us hl=>Dv (Q:=fun us=>bindArgs _ ⟨us,[]⟩=pure (List.zip P__law_row us)) hl fun _ _ _ _ _=>rfl,PySem.W.mg_of X G a_e⟩,
   f_f,_,⟨ax (st:=s__law_program) (U.look _ _ l_f (fun _ _ z=>nomatch z)) (U.code c_f) (U.keep l_f),(ax (st:=s__law_program) (U.look _ _ l_f (fun _ _ z=>nomatch z)) (U.code c_f) (U.keep l_f)).binds (ps:=P__law_program) fun _ _ _ _ _ _ us hl=>B2 (Q:=fun us=>bindArgs _ ⟨us,[]⟩=pure (List.zip P__law_program us)) hl fun _ _ _ _=>rfl,PySem.W.mg_of X G a_f⟩,
   f_g,_,⟨ax (st:=s__law_cells) (U.look _ _ l_g (fun _ _ z=>nomatch z)) (U.code c_g) (U.keep l_g),(ax (st:=s__law_cells) (U.look _ _ l_g (fun _ _ z=>nomatch z)) (U.code c_g) (U.keep l_g)).binds (ps:=P__law_cells) fun _ _ _ _ _ _ us hl=>kx (Q:=fun us=>bindArgs _ ⟨us,[]⟩=pure (List.zip P__law_cells us)) hl fun _ _=>rfl,PySem.W.mg_of X G a_g⟩,
   f_h,_,⟨ax (st:=s_row_shown) (U.look _ _ l_h (fun _ _ z=>nomatch z)) (U.code c_h) (U.keep l_h),(ax (st:=s_row_shown) (U.look _ _ l_h (fun _ _ z=>nomatch z)) (U.code c_h) (U.keep l_h)).binds (ps:=P_row_shown) fun _ _ _ _ _ _ us hl=>iC (Q:=fun us=>bindArgs _ ⟨us,[]⟩=pure (List.zip P_row_shown us)) hl fun _=>rfl,PySem.W.mg_of X G a_h⟩,
   f_i,_,⟨ax (st:=s_procedure_shown) (U.look _ _ l_i (fun _ _ z=>nomatch z)) (U.code c_i) (U.keep l_i),(ax (st:=s_procedure_shown) (U.look _ _ l_i (fun _ _ z=>nomatch z)) (U.code c_i) (U.keep l_i)).binds (ps:=P_procedure_shown) fun _ _ _ _ _ _ us hl=>kx (Q:=fun us=>bindArgs _ ⟨us,[]⟩=pure (List.zip P_procedure_shown us)) hl fun _ _=>rfl,PySem.W.mg_of X G a_i⟩,
   f_j,_,⟨ax (st:=s_shown) (U.look _ _ l_j (fun _ _ z=>nomatch z)) (U.code c_j) (U.keep l_j),(ax (st:=s_shown) (U.look _ _ l_j (fun _ _ z=>nomatch z)) (U.code c_j) (U.keep l_j)).binds (ps:=P_shown) fun _ _ _ _ _ _ us hl=>iC (Q:=fun us=>bindArgs _ ⟨us,[]⟩=pure (List.zip P_shown us)) hl fun _=>rfl,PySem.W.mg_of X G a_j⟩,
   f_k,_,⟨ax (st:=s__law_text) (U.look _ _ l_k (fun _ _ z=>nomatch z)) (U.code c_k) (U.keep l_k),(ax (st:=s__law_text) (U.look _ _ l_k (fun _ _ z=>nomatch z)) (U.code c_k) (U.keep l_k)).binds (ps:=P__law_text) fun _ _ _ _ _ _ us hl=>iC (Q:=fun us=>bindArgs _ ⟨us,[]⟩=pure (List.zip P__law_text us)) hl fun _=>rfl,PySem.W.mg_of X G a_k⟩,
   f_l,_,⟨ax (st:=s__law_whole) (U.look _ _ l_l (fun _ _ z=>nomatch z)) (U.code c_l) (U.keep l_l),(ax (st:=s__law_whole) (U.look _ _ l_l (fun _ _ z=>nomatch z)) (U.code c_l) (U.keep l_l)).binds (ps:=P__law_whole) fun _ _ _ _ _ _ us hl=>iC (Q:=fun us=>bindArgs _ ⟨us,[]⟩=pure (List.zip P__law_whole us)) hl fun _=>rfl,PySem.W.mg_of X G a_l⟩,
   f_m,_,⟨ax (st:=s__law_row_same) (U.look _ _ l_m (fun _ _ z=>nomatch z)) (U.code c_m) (U.keep l_m),(ax (st:=s__law_row_same) (U.look _ _ l_m (fun _ _ z=>nomatch z)) (U.code c_m) (U.keep l_m)).binds (ps:=P__law_row_same) fun _ _ _ _ _ _ us hl=>kx (Q:=fun us=>bindArgs _ ⟨us,[]⟩=pure (List.zip P__law_row_same us)) hl fun _ _=>rfl,PySem.W.mg_of X G a_m⟩,
   f_n,_,⟨ax (st:=s__law_rows_same) (U.look _ _ l_n (fun _ _ z=>nomatch z)) (U.code c_n) (U.keep l_n),(ax (st:=s__law_rows_same) (U.look _ _ l_n (fun _ _ z=>nomatch z)) (U.code c_n) (U.keep l_n)).binds (ps:=P__law_rows_same) fun _ _ _ _ _ _ us hl=>kx (Q:=fun us=>bindArgs _ ⟨us,[]⟩=pure (List.zip P__law_rows_same us)) hl fun _ _=>rfl,PySem.W.mg_of X G a_n⟩,
   f_o,_,⟨ax (st:=s__law_same) (U.look _ _ l_o (fun _ _ z=>nomatch z)) (U.code c_o) (U.keep l_o),(ax (st:=s__law_same) (U.look _ _ l_o (fun _ _ z=>nomatch z)) (U.code c_o) (U.keep l_o)).binds (ps:=P__law_same) fun _ _ _ _ _ _ us hl=>kx (Q:=fun us=>bindArgs _ ⟨us,[]⟩=pure (List.zip P__law_same us)) hl fun _ _=>rfl,PySem.W.mg_of X G a_o⟩,
   f_p,_,⟨ax (st:=s_words_kept) (U.look _ _ l_p (fun _ _ z=>nomatch z)) (U.code c_p) (U.keep l_p),(ax (st:=s_words_kept) (U.look _ _ l_p (fun _ _ z=>nomatch z)) (U.code c_p) (U.keep l_p)).binds (ps:=P_words_kept) fun _ _ _ _ _ _ us hl=>kx (Q:=fun us=>bindArgs _ ⟨us,[]⟩=pure (List.zip P_words_kept us)) hl fun _ _=>rfl,PySem.W.mg_of X G a_p⟩,
   f_q,_,⟨ax (st:=s_is_name) (U.look _ _ l_q (fun _ _ z=>nomatch z)) (U.code c_q) (U.keep l_q),(ax (st:=s_is_name) (U.look _ _ l_q (fun _ _ z=>nomatch z)) (U.code c_q) (U.keep l_q)).binds (ps:=P_is_name) fun _ _ _ _ _ _ us hl=>iC (Q:=fun us=>bindArgs _ ⟨us,[]⟩=pure (List.zip P_is_name us)) hl fun _=>rfl,PySem.W.mg_of X G a_q⟩,
   f_r,_,⟨ax (st:=s_is_count) (U.look _ _ l_r (fun _ _ z=>nomatch z)) (U.code c_r) (U.keep l_r),(ax (st:=s_is_count) (U.look _ _ l_r (fun _ _ z=>nomatch z)) (U.code c_r) (U.keep l_r)).binds (ps:=P_is_count) fun _ _ _ _ _ _ us hl=>iC (Q:=fun us=>bindArgs _ ⟨us,[]⟩=pure (List.zip P_is_count us)) hl fun _=>rfl,PySem.W.mg_of X G a_r⟩,
   f_s,_,⟨ax (st:=s_is_meant) (U.look _ _ l_s (fun _ _ z=>nomatch z)) (U.code c_s) (U.keep l_s),(ax (st:=s_is_meant) (U.look _ _ l_s (fun _ _ z=>nomatch z)) (U.code c_s) (U.keep l_s)).binds (ps:=P_is_meant) fun _ _ _ _ _ _ us hl=>kx (Q:=fun us=>bindArgs _ ⟨us,[]⟩=pure (List.zip P_is_meant us)) hl fun _ _=>rfl,PySem.W.mg_of X G a_s⟩,
   f_t,_,⟨ax (st:=s_has_form) (U.look _ _ l_t (fun _ _ z=>nomatch z)) (U.code c_t) (U.keep l_t),(ax (st:=s_has_form) (U.look _ _ l_t (fun _ _ z=>nomatch z)) (U.code c_t) (U.keep l_t)).binds (ps:=P_has_form) fun _ _ _ _ _ _ us hl=>kx (Q:=fun us=>bindArgs _ ⟨us,[]⟩=pure (List.zip P_has_form us)) hl fun _ _=>rfl,PySem.W.mg_of X G a_t⟩,
   f_u,_,⟨ax (st:=s_form_among) (U.look _ _ l_u (fun _ _ z=>nomatch z)) (U.code c_u) (U.keep l_u),(ax (st:=s_form_among) (U.look _ _ l_u (fun _ _ z=>nomatch z)) (U.code c_u) (U.keep l_u)).binds (ps:=P_form_among) fun _ _ _ _ _ _ us hl=>kx (Q:=fun us=>bindArgs _ ⟨us,[]⟩=pure (List.zip P_form_among us)) hl fun _ _=>rfl,PySem.W.mg_of X G a_u⟩,
   f_v,_,⟨ax (st:=s_row_in) (U.look _ _ l_v (fun _ _ z=>nomatch z)) (U.code c_v) (U.keep l_v),(ax (st:=s_row_in) (U.look _ _ l_v (fun _ _ z=>nomatch z)) (U.code c_v) (U.keep l_v)).binds (ps:=P_row_in) fun _ _ _ _ _ _ us hl=>iC (Q:=fun us=>bindArgs _ ⟨us,[]⟩=pure (List.zip P_row_in us)) hl fun _=>rfl,PySem.W.mg_of X G a_v⟩,
   f_w,_,⟨ax (st:=s_procedure_in) (U.look _ _ l_w (fun _ _ z=>nomatch z)) (U.code c_w) (U.keep l_w),(ax (st:=s_procedure_in) (U.look _ _ l_w (fun _ _ z=>nomatch z)) (U.code c_w) (U.keep l_w)).binds (ps:=P_procedure_in) fun _ _ _ _ _ _ us hl=>iC (Q:=fun us=>bindArgs _ ⟨us,[]⟩=pure (List.zip P_procedure_in us)) hl fun _=>rfl,PySem.W.mg_of X G a_w⟩,
   f_x,_,⟨ax (st:=s_formed_in) (U.look _ _ l_x (fun _ _ z=>nomatch z)) (U.code c_x) (U.keep l_x),(ax (st:=s_formed_in) (U.look _ _ l_x (fun _ _ z=>nomatch z)) (U.code c_x) (U.keep l_x)).binds (ps:=P_formed_in) fun _ _ _ _ _ _ us hl=>iC (Q:=fun us=>bindArgs _ ⟨us,[]⟩=pure (List.zip P_formed_in us)) hl fun _=>rfl,PySem.W.mg_of X G a_x⟩,
   f_y,_,⟨ax (st:=s_refuse_wrong_row) (U.look _ _ l_y (fun _ _ z=>nomatch z)) (U.code c_y) (U.keep l_y),(ax (st:=s_refuse_wrong_row) (U.look _ _ l_y (fun _ _ z=>nomatch z)) (U.code c_y) (U.keep l_y)).binds (ps:=P_refuse_wrong_row) fun _ _ _ _ _ _ us hl=>B2 (Q:=fun us=>bindArgs _ ⟨us,[]⟩=pure (List.zip P_refuse_wrong_row us)) hl fun _ _ _ _=>rfl,PySem.W.mg_of X G a_y⟩,
   f_z,_,⟨ax (st:=s_read) (U.look _ _ l_z (fun _ _ z=>nomatch z)) (U.code c_z) (U.keep l_z),(ax (st:=s_read) (U.look _ _ l_z (fun _ _ z=>nomatch z)) (U.code c_z) (U.keep l_z)).binds (ps:=P_read) fun _ _ _ _ _ _ us hl=>iC (Q:=fun us=>bindArgs _ ⟨us,[]⟩=pure (List.zip P_read us)) hl fun _=>rfl,PySem.W.mg_of X G a_z⟩,
   f_A,_,⟨ax (st:=s_law) (U.look _ _ l_A (fun _ _ z=>nomatch z)) (U.code c_A) (U.keep l_A),(ax (st:=s_law) (U.look _ _ l_A (fun _ _ z=>nomatch z)) (U.code c_A) (U.keep l_A)).binds (ps:=P_law) fun _ _ _ _ _ _ us hl=>iC (Q:=fun us=>bindArgs _ ⟨us,[]⟩=pure (List.zip P_law us)) hl fun _=>rfl,PySem.W.mg_of X G a_A⟩,
   PySem.W.mg_none_of X G z_all,
   PySem.W.mg_none_of X G z_bool,
   PySem.W.mg_none_of X G z_enumerate,
   PySem.W.mg_none_of X G z_int,
   PySem.W.mg_none_of X G z_isinstance,
   PySem.W.mg_none_of X G z_len,
   PySem.W.mg_none_of X G z_list,
   PySem.W.mg_none_of X G z_range,
   PySem.W.mg_none_of X G z_set,
   PySem.W.mg_none_of X G z_str,
   PySem.W.mg_none_of X G z_tuple,
   PySem.W.mg_none_of X G z_zip,
   C_Twice,⟨PySem.W.mg_of X G b_Twice,(U.exc e_Twice).1⟩,
   C_NoName,⟨PySem.W.mg_of X G b_NoName,(U.exc e_NoName).1⟩,
   C_NoText,⟨PySem.W.mg_of X G b_NoText,(U.exc e_NoText).1⟩,
   C_NoValue,⟨PySem.W.mg_of X G b_NoValue,(U.exc e_NoValue).1⟩,
   C_NoRow,⟨PySem.W.mg_of X G b_NoRow,(U.exc e_NoRow).1⟩,
   ⟨_,PySem.W.mg_of X G g_VALUES,q_VALUES⟩,
   ⟨_,PySem.W.mg_of X G g_ROWS,q_ROWS⟩,
   fun a e=>by rw[PySem.W.mg_of X G g_PLACES]at e;cases e;exact n_PLACES,
   ⟨_,PySem.W.mg_of X G g_PLACES,_,_,U.look _ _ d_PLACES (fun _ _ z=>nomatch z),⟨⟨m_PLACES_0,⟨_,rfl⟩,_,rfl⟩,⟨⟨m_PLACES_1,⟨_,rfl⟩,_,rfl⟩,True.intro⟩⟩,by decide⟩⟩,rfl⟩
theorem zU {l:PySem.W.OpenLaw} {w:World} {K:PySem.W.Frag} {mg:Str->Option Value} {fa:Addr} (hfa:mg "law"=some (.ref fa)) (T:∃ t:Tx w K mg,True) :
 ∃ fd:FuncData,(∀(s:Shared)(v:Value),BindsTo s fd ⟨[v],[]⟩ [("_law_script",v)])/\∀ base:Heap,FnOk l.prog w K mg base (fR l.prog w) 9 fa fd ["_law_script"] (Ct ny):=by
 obtain⟨t,_⟩:=T
 have e:=hfa.symm.trans t.h_A.gl
 cases e
 obtain⟨oc,od,kV,doc,pm,an,cdv,ct,osl,efd,lk,hcd⟩:=t.h_A.fu.ex
 exact⟨t.fd_A,fun s v=>by rw[efd];exact .of_eq rfl,fun base=>FnOk.top (zT t)⟩
theorem B4 {K:PySem.W.Frag}{ad_VALUES ad_ROWS ad_ROWS_0 ad_ROWS_1 ad_ROWS_2 ad_ROWS_3 ad_ROWS_4 ad_ROWS_5 ad_ROWS_6 ad_ROWS_7 ad_ROWS_8 ad_ROWS_9:Addr}
 (g_VALUES:PySem.W.nsIn K mainGlobals "VALUES"=some (some (.ref ad_VALUES)))
 {od_VALUES:Option Addr} {n_VALUES:Nat} {sl_VALUES:Array (Option Value)} {tk_VALUES_0 tk_VALUES_1 tk_VALUES_2:Tok} (d_VALUES:K.lookup ad_VALUES=some ⟨.type "tuple",od_VALUES,.seq #[.str "values" tk_VALUES_0,.str "S" tk_VALUES_1,.str "S" tk_VALUES_2] n_VALUES,sl_VALUES⟩)
 (g_ROWS:PySem.W.nsIn K mainGlobals "ROWS"=some (some (.ref ad_ROWS)))
 {od_ROWS:Option Addr} {n_ROWS:Nat} {sl_ROWS:Array (Option Value)} (d_ROWS:K.lookup ad_ROWS=some ⟨.type "tuple",od_ROWS,.seq #[.ref ad_ROWS_0,.ref ad_ROWS_1,.ref ad_ROWS_2,.ref ad_ROWS_3,.ref ad_ROWS_4,.ref ad_ROWS_5,.ref ad_ROWS_6,.ref ad_ROWS_7,.ref ad_ROWS_8,.ref ad_ROWS_9] n_ROWS,sl_ROWS⟩)
 {od_ROWS_0:Option Addr} {n_ROWS_0:Nat} {sl_ROWS_0:Array (Option Value)} {tk_ROWS_0_0:Tok} (d_ROWS_0:K.lookup ad_ROWS_0=some ⟨.type "tuple",od_ROWS_0,.seq #[.str "skip" tk_ROWS_0_0] n_ROWS_0,sl_ROWS_0⟩)
 {od_ROWS_1:Option Addr} {n_ROWS_1:Nat} {sl_ROWS_1:Array (Option Value)} {tk_ROWS_1_0 tk_ROWS_1_1 tk_ROWS_1_2:Tok} (d_ROWS_1:K.lookup ad_ROWS_1=some ⟨.type "tuple",od_ROWS_1,.seq #[.str "set" tk_ROWS_1_0,.str "V" tk_ROWS_1_1,.str "N" tk_ROWS_1_2] n_ROWS_1,sl_ROWS_1⟩)
 {od_ROWS_2:Option Addr} {n_ROWS_2:Nat} {sl_ROWS_2:Array (Option Value)} {tk_ROWS_2_0 tk_ROWS_2_1:Tok} (d_ROWS_2:K.lookup ad_ROWS_2=some ⟨.type "tuple",od_ROWS_2,.seq #[.str "any" tk_ROWS_2_0,.str "V" tk_ROWS_2_1] n_ROWS_2,sl_ROWS_2⟩)
 {od_ROWS_3:Option Addr} {n_ROWS_3:Nat} {sl_ROWS_3:Array (Option Value)} {tk_ROWS_3_0 tk_ROWS_3_1:Tok} (d_ROWS_3:K.lookup ad_ROWS_3=some ⟨.type "tuple",od_ROWS_3,.seq #[.str "turn" tk_ROWS_3_0,.str "V" tk_ROWS_3_1] n_ROWS_3,sl_ROWS_3⟩)
 {od_ROWS_4:Option Addr} {n_ROWS_4:Nat} {sl_ROWS_4:Array (Option Value)} {tk_ROWS_4_0 tk_ROWS_4_1 tk_ROWS_4_2 tk_ROWS_4_3:Tok} (d_ROWS_4:K.lookup ad_ROWS_4=some ⟨.type "tuple",od_ROWS_4,.seq #[.str "if" tk_ROWS_4_0,.str "V" tk_ROWS_4_1,.str "N" tk_ROWS_4_2,.str "K" tk_ROWS_4_3] n_ROWS_4,sl_ROWS_4⟩)
 {od_ROWS_5:Option Addr} {n_ROWS_5:Nat} {sl_ROWS_5:Array (Option Value)} {tk_ROWS_5_0 tk_ROWS_5_1:Tok} (d_ROWS_5:K.lookup ad_ROWS_5=some ⟨.type "tuple",od_ROWS_5,.seq #[.str "go" tk_ROWS_5_0,.str "K" tk_ROWS_5_1] n_ROWS_5,sl_ROWS_5⟩)
 {od_ROWS_6:Option Addr} {n_ROWS_6:Nat} {sl_ROWS_6:Array (Option Value)} {tk_ROWS_6_0 tk_ROWS_6_1:Tok} (d_ROWS_6:K.lookup ad_ROWS_6=some ⟨.type "tuple",od_ROWS_6,.seq #[.str "fork" tk_ROWS_6_0,.str "K" tk_ROWS_6_1] n_ROWS_6,sl_ROWS_6⟩)
 {od_ROWS_7:Option Addr} {n_ROWS_7:Nat} {sl_ROWS_7:Array (Option Value)} {tk_ROWS_7_0 tk_ROWS_7_1:Tok} (d_ROWS_7:K.lookup ad_ROWS_7=some ⟨.type "tuple",od_ROWS_7,.seq #[.str "call" tk_ROWS_7_0,.str "F" tk_ROWS_7_1] n_ROWS_7,sl_ROWS_7⟩)
 {od_ROWS_8:Option Addr} {n_ROWS_8:Nat} {sl_ROWS_8:Array (Option Value)} {tk_ROWS_8_0:Tok} (d_ROWS_8:K.lookup ad_ROWS_8=some ⟨.type "tuple",od_ROWS_8,.seq #[.str "back" tk_ROWS_8_0] n_ROWS_8,sl_ROWS_8⟩)
 {od_ROWS_9:Option Addr} {n_ROWS_9:Nat} {sl_ROWS_9:Array (Option Value)} {tk_ROWS_9_0:Tok} (d_ROWS_9:K.lookup ad_ROWS_9=some ⟨.type "tuple",od_ROWS_9,.seq #[.str "stop" tk_ROWS_9_0] n_ROWS_9,sl_ROWS_9⟩)
 : pX K [(ad_VALUES,[.str "values",.str "S",.str "S"]),(ad_ROWS,[.ref ad_ROWS_0,.ref ad_ROWS_1,.ref ad_ROWS_2,.ref ad_ROWS_3,.ref ad_ROWS_4,.ref ad_ROWS_5,.ref ad_ROWS_6,.ref ad_ROWS_7,.ref ad_ROWS_8,.ref ad_ROWS_9]),(ad_ROWS_0,[.str "skip"]),(ad_ROWS_1,[.str "set",.str "V",.str "N"]),(ad_ROWS_2,[.str "any",.str "V"]),(ad_ROWS_3,[.str "turn",.str "V"]),(ad_ROWS_4,[.str "if",.str "V",.str "N",.str "K"]),(ad_ROWS_5,[.str "go",.str "K"]),(ad_ROWS_6,[.str "fork",.str "K"]),(ad_ROWS_7,[.str "call",.str "F"]),(ad_ROWS_8,[.str "back"]),(ad_ROWS_9,[.str "stop"])]:=by
 intro p hp
 simp only[List.mem_cons,List.not_mem_nil,or_false]at hp
 rcases hp with rfl|rfl|rfl|rfl|rfl|rfl|rfl|rfl|rfl|rfl|rfl|rfl
 ·exact⟨rfl,_,_,_,d_VALUES,rfl,rfl,(show 3<=sizeLine by decide),.cons ⟨_,rfl⟩ (.cons ⟨_,rfl⟩ (.cons ⟨_,rfl⟩ (.nil)))⟩
 ·exact⟨rfl,_,_,_,d_ROWS,rfl,rfl,(show 10<=sizeLine by decide),.cons rfl (.cons rfl (.cons rfl (.cons rfl (.cons rfl (.cons rfl (.cons rfl (.cons rfl (.cons rfl (.cons rfl (.nil))))))))))⟩
 ·exact⟨rfl,_,_,_,d_ROWS_0,rfl,rfl,(show 1<=sizeLine by decide),.cons ⟨_,rfl⟩ (.nil)⟩
 ·exact⟨rfl,_,_,_,d_ROWS_1,rfl,rfl,(show 3<=sizeLine by decide),.cons ⟨_,rfl⟩ (.cons ⟨_,rfl⟩ (.cons ⟨_,rfl⟩ (.nil)))⟩
 ·exact⟨rfl,_,_,_,d_ROWS_2,rfl,rfl,(show 2<=sizeLine by decide),.cons ⟨_,rfl⟩ (.cons ⟨_,rfl⟩ (.nil))⟩
 ·exact⟨rfl,_,_,_,d_ROWS_3,rfl,rfl,(show 2<=sizeLine by decide),.cons ⟨_,rfl⟩ (.cons ⟨_,rfl⟩ (.nil))⟩
 ·exact⟨rfl,_,_,_,d_ROWS_4,rfl,rfl,(show 4<=sizeLine by decide),.cons ⟨_,rfl⟩ (.cons ⟨_,rfl⟩ (.cons ⟨_,rfl⟩ (.cons ⟨_,rfl⟩ (.nil))))⟩
 ·exact⟨rfl,_,_,_,d_ROWS_5,rfl,rfl,(show 2<=sizeLine by decide),.cons ⟨_,rfl⟩ (.cons ⟨_,rfl⟩ (.nil))⟩
 ·exact⟨rfl,_,_,_,d_ROWS_6,rfl,rfl,(show 2<=sizeLine by decide),.cons ⟨_,rfl⟩ (.cons ⟨_,rfl⟩ (.nil))⟩
 ·exact⟨rfl,_,_,_,d_ROWS_7,rfl,rfl,(show 2<=sizeLine by decide),.cons ⟨_,rfl⟩ (.cons ⟨_,rfl⟩ (.nil))⟩
 ·exact⟨rfl,_,_,_,d_ROWS_8,rfl,rfl,(show 1<=sizeLine by decide),.cons ⟨_,rfl⟩ (.nil)⟩
 ·exact⟨rfl,_,_,_,d_ROWS_9,rfl,rfl,(show 1<=sizeLine by decide),.cons ⟨_,rfl⟩ (.nil)⟩
end W
namespace W
open PySem L2 L3
theorem li {α:Type}(g:α->D){asg:D->Bool->En->Option En}{fr:Bool}{body:En->Res Fl}(P:En->Prop)(p:α->Bool)(res:α->R):∀(xs:List α)(env:En),P env->
 (∀ a∈xs,∀ env,P env->∃ dz,asg (g a) fr env=some dz/\((p a=true/\body dz=.ok (.rt (res a)))\/(p a=false/\∃ env2,body dz=.ok (.nx env2)/\P env2)))->
 (∀ a,xs.find? p=some a->cr asg fr body (xs.map g) env=.ok (.rt (res a)))/\(xs.find? p=none->∃ env',cr asg fr body (xs.map g) env=.ok (.nx env')/\P env')
 | [],env,h,_=>⟨fun _ e=>(by cases e),fun _=>⟨env,rfl,h⟩⟩
 |a::r,env,h,st=>by
  obtain⟨dz,h1,h2⟩:=st a (by simp) env h
  rw[List.find?_cons,List.map_cons]
  rcases h2 with⟨hp,hb⟩|⟨hp,env2,hb,h3⟩
  ·rw[hp]
   refine⟨fun b e=>?_,fun e=>(by cases e)⟩
   cases e
   unfold cr;rw[h1];dsimp only;rw[hb];rfl
  ·rw[hp]
   obtain⟨i1,i2⟩:=li g P p res r env2 h3 fun b hb=>st b (by simp[hb])
   refine⟨fun b e=>?_,fun e=>?_⟩
   ·rw[<- i1 b e];conv=>lhs;unfold cr
    rw[h1];dsimp only;rw[hb];rfl
   ·obtain⟨env',e1,e2⟩:=i2 e
    refine⟨env',?_,e2⟩
    rw[<- e1];conv=>lhs;unfold cr
    rw[h1];dsimp only;rw[hb];rfl
end W
namespace W
open PySem L2 L3
noncomputable def xu:Int:=1000000000000000000000000000000000000000000000000000000000000
theorem DN:(0:Int)<1000000000000000000000000000000000000000000000000000000000000:=by decide
noncomputable def dg (c p n:Int):Int:=(c % xu*48271+11) % p % n
theorem dc (c p n:Int)(h:0<n):0<=dg c p n:=Int.emod_nonneg _ (by omega)
theorem de (c p n:Int)(h:0<n):dg c p n<n:=Int.emod_lt_of_pos _ h
theorem aP (c p n:Int)(hp:0<p)(hn:0<n):aA [.int c,.int p,.int n]=.ok (.val (.int (dg c p n)) true []):=by
 simp_arith[aA,gM,hp,hn,DN]
 rfl
noncomputable def j9 (ns:List Int)(k:Int):Int:=if k<ns.length then (atI ns k).getD 0 % xu else 0
theorem ug (ns:List Int)(k:Int)(h0:0<=k):bp [.lst (ns.map .int),.int k]=.ok (.val (.int (j9 ns k)) true []):=by
 by_cases h:k<ns.length
 ·have hd:decide (k<(ns.length:Int))=true:=decide_eq_true h
  obtain⟨a,ea,_⟩:=lT h0 h
  have ha:atI (ns.map D.int) k=some (.int a):=by rw[lS,ea];rfl
  simp_arith[bp,c5,List.length_map,hd,ha,DN]
  unfold j9;rw[if_pos h,ea];rfl
 ·have hd:decide (k<(ns.length:Int))=false:=decide_eq_false h
  simp_arith[bp,c5,List.length_map,hd]
  unfold j9;rw[if_neg h]
noncomputable def Wd:D->Prop
 | .str _=>True
 | .int _=>True
 |_=>False
theorem Wd.flat {d:D}(h:Wd d):d.flat=true:=by cases d<;>first|rfl|exact h.elim
theorem lj (i:Int):bP [.int i]=.ok (.val (.bl true) true []):=by
 simp_arith[bP,gX]
end W
namespace W
open PySem L2 L3
theorem jY (ds:List D):dn ds ds=ds.map fun d=>.tup [d,d]:=by
 induction ds with
 |nil=>rfl
 |cons d r ih=>rw[List.map_cons];unfold dn;rw[ih]
theorem zV {x:Int}:rq "str" (.int x)=false:=(rfl)
theorem l_ {x:Str}:rq "str" (.str x)=true:=(rfl)
theorem zW {x:Str}:rq "int" (.str x)=false:=(rfl)
noncomputable def Row (ds:List D):Prop:=ds.length<=4/\∀ d∈ds,Wd d
theorem Row.flats {ds:List D}(h:Row ds):D.flats ds=true:=bX fun d hd=>(h.2 d hd).flat
theorem Row.deps {ds:List D}(h:Row ds):D.deps ds<=0:=pi fun d hd=>by
 have:=h.2 d hd
 cases d<;>first|exact Nat.le_refl _|exact this.elim
theorem uh {a b:Option Sl}{d:D}{f:Bool}(h:Wd d):be [a,b,some (.val d f),some (.val d f)]=.ok (.nx [a,b,some (.val d f),some (.val d f)]):=by
 cases d with
 |str x=>simp_arith[be,l_,zW]
 |int x=>simp_arith[be,zV,tH,lj]
 |_=>exact h.elim
theorem ui (ds:List D)(h:Row ds):b6 [.tup ds,.tup ds]=.ok (.val (.bl true) true []):=by
 have hfl:=h.flats
 have hdp:=h.deps
 obtain⟨env',lp,e2,e3,rfl⟩:=nn (fr:=true) (asg:=gT 2 (ay (gN 2) (ay (gN 3) bj))) (body:=be) (fun d:D=>D.tup [d,d]) (fun _ env=>∃ e2 e3,env=[some (.val (.tup ds) false),some (.val (.tup ds) false),e2,e3]) ds [] [some (.val (.tup ds) false),some (.val (.tup ds) false),none,none] ⟨_,_,rfl⟩
  (by
    rintro pre post d env _ ⟨e2,e3,rfl⟩ hd
    exact⟨_,_,rfl,uh (h.2 d hd),_,_,rfl⟩)
 have hne:(((ds.length:Nat):Int)==((ds.length:Nat):Int))=true:=beq_self_eq_true _
 have hdd:(D.tup ds).dep<=50:=by rw[pf];omega
 simp_arith[b6,eO,nc,hne,jY,hfl]
 simp_arith[lp,hfl]
 rw[eU (a:=.val (.tup ds) true []) (b:=.val (.tup ds) true []) hdd hdd]
 simp_arith[cc]
end W
namespace W
open PySem L2 L3
noncomputable abbrev Pr:=Str×List (List D)
noncomputable def gv (p:Pr):D:=.tup [.str p.1,.lst (p.2.map .tup)]
noncomputable def wy (s o:Int)(ps:List Pr):D:=.tup [.int s,.int o,.lst (ps.map gv)]
noncomputable def zX (p:Pr):Prop:=p.1.length<=20/\0<p.2.length/\p.2.length<=400/\∀ r∈p.2,Row r
theorem qQ (p:Pr)(h:zX p):bQ [gv p,gv p]=.ok (.val (.bl true) true []):=by
 obtain⟨n,rs⟩:=p
 obtain⟨_,_,h1,h2⟩:=h
 dsimp only at h1 h2
 have hne:((((rs.map D.tup).length:Nat):Int)==(((rs.map D.tup).length:Nat):Int))=true:=beq_self_eq_true _
 have hz:dn (rs.map D.tup) (rs.map D.tup)=rs.map fun r=>D.tup [D.tup r,D.tup r]:=by rw[jY,List.map_map];rfl
 have hc:=aZ (mk:=fun d=>gT 2 (ay (gN 0) (ay (gN 1) bj)) d false (cO [some (.val (gv (n,rs)) false),some (.val (gv (n,rs)) false)] 2 [])) (test:=fun _=>.ok true) (elt:=b8) (fun r:List D=>D.tup [D.tup r,D.tup r]) (fun _=>.val (.bl true) true []) rs
  fun r hr=>⟨[some (.val (.tup r) false),some (.val (.tup r) false)],rfl,rfl,by simp_arith[b8,ui r (h2 r hr),(h2 r hr).flats]⟩
 have hn:(n==n)=true:=beq_self_eq_true n
 simp_arith[bQ,dL,gv,l_,nc,cc,hne,hz]
 rw[gv]at hc
 rw[b5 (by rw[List.length_map];omega) hc,fE (fun _=>D.bl true),bu (aK (fun _=>D.bl true) rs fun _=>rfl)]
 simp_arith[ni,fW]
theorem uj (p:Pr):(gv p).flat=false:=by unfold gv;simp only[fC,ba,jP,gJ,Bool.true_and,Bool.false_and]
theorem wz (s o:Int)(ps:List Pr)(hl:ps.length<=400)(h:∀ p∈ps,zX p):cK [wy s o ps,wy s o ps]=.ok (.val (.bl true) true []):=by
 have hne:((((ps.map gv).length:Nat):Int)==(((ps.map gv).length:Nat):Int))=true:=beq_self_eq_true _
 have hz:dn (ps.map gv) (ps.map gv)=ps.map fun p=>D.tup [gv p,gv p]:=by rw[jY,List.map_map];rfl
 have hc:=aZ (mk:=fun d=>gT 2 (ay (gN 0) (ay (gN 1) bj)) d false (cO [some (.val (wy s o ps) false),some (.val (wy s o ps) false)] 2 [])) (test:=fun _=>.ok true) (elt:=dv) (fun p:Pr=>D.tup [gv p,gv p]) (fun _=>.val (.bl true) true []) ps
  fun p hp=>⟨[some (.val (gv p) false),some (.val (gv p) false)],rfl,rfl,by simp_arith[dv,qQ p (h p hp),uj p]⟩
 have hcut:bW [D.int s,D.int o,D.lst (ps.map gv)] none (some 2)=[D.int s,D.int o]:=(rfl)
 simp_arith[cK,iP,wy,lj,nc,cc,hne,hz,hcut]
 rw[wy]at hc
 rw[b5 (by rw[List.length_map];omega) hc,fE (fun _=>D.bl true),bu (aK (fun _=>D.bl true) ps fun _=>rfl)]
 simp_arith[ni,fW]
end W
namespace W
open PySem L2 L3
inductive Rw where
 |skip|back|stop
 |set (w:Bool) (n:Int)
 |any (w:Bool)
 |turn (w:Bool)
 |iff (w:Bool) (n k:Int)
 |go (k:Int)
 |fork (k:Int)
 |call (f:Str)
noncomputable def wd (w:Bool):Str:=if w then "own" else "shared"
noncomputable def Rw.d:Rw->List D
 | .skip=>[.str "skip"]
 | .back=>[.str "back"]
 | .stop=>[.str "stop"]
 | .set w n=>[.str "set",.str (wd w),.int n]
 | .any w=>[.str "any",.str (wd w)]
 | .turn w=>[.str "turn",.str (wd w)]
 | .iff w n k=>[.str "if",.str (wd w),.int n,.int k]
 | .go k=>[.str "go",.int k]
 | .fork k=>[.str "fork",.int k]
 | .call f=>[.str "call",.str f]
noncomputable def vl (sv ov:Int)(w:Bool):Int:=if w then ov else sv
noncomputable def ma (names:List Str)(sv ov many:Int)(last:Bool):Rw->Prop
 | .call f=>f∈names/\last=false
 | .set w n=>(0<=n/\n<vl sv ov w)/\last=false
 | .iff w n k=>((0<=n/\n<vl sv ov w)/\0<=k/\k<many)/\last=false
 | .go k=>0<=k/\k<many
 | .fork k=>(0<=k/\k<many)/\last=false
 | .skip=>last=false
 | .any _=>last=false
 | .turn _=>last=false
 | .back=>True
 | .stop=>True
theorem iD (r:Rw):Row r.d:=by
 have t:True:=True.intro
 cases r<;>refine⟨by simp[Rw.d],fun d hd=>?_⟩<;>simp[Rw.d]at hd
 all_goals first
  |(subst hd;exact t)
  |(rcases hd with rfl|rfl<;>exact t)
  |(rcases hd with rfl|rfl|rfl<;>exact t)
  |(rcases hd with rfl|rfl|rfl|rfl<;>exact t)
noncomputable def RowC (names:List Str)(sv ov many:Int)(last:Bool)(ds:List D):Prop:=∃ r:Rw,ds=r.d/\ma names sv ov many last r
theorem RowC.row {names:List Str}{sv ov many:Int}{last:Bool}{ds:List D}(h:RowC names sv ov many last ds):Row ds:=by obtain⟨r,rfl,_⟩:=h;exact iD r
noncomputable def xw (names:List Str)(sv ov:Int)(rs:List (List D)):Prop:=∀(i:Nat)(r:List D),rs[i]?=some r->RowC names sv ov rs.length (decide (i+1=rs.length)) r
noncomputable def Cw (names:List Str)(sv ov:Int)(p:Pr):Prop:=zX p/\xw names sv ov p.2/\p.2.length<=300
end W
namespace W
open PySem L2 L3
theorem B5 {x:Int}(h0:0<=x)(h1:x<14):x∈([0,1,2,3,4,5,6,7,8,9,10,11,12,13]:List Int):=by
 obtain⟨m,rfl⟩:=Int.eq_ofNat_of_zero_le h0
 have:=(by decide:∀ k:Fin 14,((k.val:Nat):Int)∈([0,1,2,3,4,5,6,7,8,9,10,11,12,13]:List Int))
 exact this ⟨m,Int.ofNat_lt.mp h1⟩
theorem uk {c many number goal side lot:Int}{e1:Option Sl}{e4:Option Sl}{names:List Str}{w last:Bool}{sv ov:Int}(hl:0<names.length)(h0:0<=lot)(h1:lot<14)(hL:last=true->lot=7\/lot=10\/lot=11)(hv:0<=number/\number<vl sv ov w)(hg:0<=goal/\goal<many) :
 ∃ ds,RowC names sv ov many last ds/\d6 [some (.val (.int c) false),e1,some (.val (.int many) false),some (.val (.lst (names.map D.str)) false),e4,some (.val (.int lot) true),some (.val (.int side) true),some (.val (.str (wd w)) true),some (.val (.int number) true),some (.val (.int goal) true)]=.ok (.rt (.val (.tup ds) true [])):=by
 have hn0:(0:Int)<names.length:=by omega
 have bA:((names.map D.str).length:Int)=names.length:=by simp
 have d1:=dc c 1031 names.length hn0
 have d2:=de c 1031 names.length hn0
 obtain⟨n,en,en2⟩:=lT d1 d2
 have hmem:n∈names:=List.mem_of_getElem? en2
 have ha:atI (names.map D.str) (dg c 1031 names.length)=some (.str n):=by rw[lS,en];rfl
 have:lot∈([0,1,2,3,4,5,6,7,8,9,10,11,12,13]:List Int):=B5 h0 h1
 simp only[List.mem_cons,List.not_mem_nil,or_false]at this
 have t:True:=True.intro
 have nl:(lot≠7/\lot≠10/\lot≠11)->last=false:=fun h=>by
  cases q:last with
  |false=>rfl
  |true=>rcases hL q with z|z|z<;>omega
 rcases this with rfl|rfl|rfl|rfl|rfl|rfl|rfl|rfl|rfl|rfl|rfl|rfl|rfl|rfl
 ·exact⟨_,⟨.skip,rfl,nl (by decide)⟩,rfl⟩
 ·exact⟨_,⟨.set w number,rfl,hv,nl (by decide)⟩,rfl⟩
 ·exact⟨_,⟨.set w number,rfl,hv,nl (by decide)⟩,rfl⟩
 ·exact⟨_,⟨.any w,rfl,nl (by decide)⟩,rfl⟩
 ·exact⟨_,⟨.turn w,rfl,nl (by decide)⟩,rfl⟩
 ·exact⟨_,⟨.iff w number goal,rfl,⟨hv,hg⟩,nl (by decide)⟩,rfl⟩
 ·exact⟨_,⟨.iff w number goal,rfl,⟨hv,hg⟩,nl (by decide)⟩,rfl⟩
 ·exact⟨_,⟨.go goal,rfl,hg⟩,rfl⟩
 ·exact⟨_,⟨.fork goal,rfl,hg,nl (by decide)⟩,rfl⟩
 ·exact⟨_,⟨.fork goal,rfl,hg,nl (by decide)⟩,rfl⟩
 ·exact⟨_,⟨.back,rfl,t⟩,rfl⟩
 ·exact⟨_,⟨.stop,rfl,t⟩,rfl⟩
 all_goals
  refine⟨[.str "call",.str n],⟨.call n,rfl,hmem,nl (by decide)⟩,?_⟩
  simp_arith[d6,bA,aP c 1031 names.length (by decide) hn0,ha]
theorem zY {c sv ov many:Int}{names:List Str}{last:Bool}(hl:0<names.length)(h1:0<sv)(h2:0<ov)(h3:0<many) :
 ∃ ds,RowC names sv ov many last ds/\c7 [.int c,.lst [.int sv,.int ov],.int many,.lst (names.map D.str),.bl last]=.ok (.val (.tup ds) true []):=by
 have s0:=dc c 1013 2 (by decide)
 have s1:=de c 1013 2 (by decide)
 have l0:=dc c 1009 14 (by decide)
 have l1:=de c 1009 14 (by decide)
 have m0:=dc c 1009 3 (by decide)
 have m1:=de c 1009 3 (by decide)
 have step:∀ lot:Int,0<=lot->lot<14->(last=true->lot=7\/lot=10\/lot=11)->∃ ds,RowC names sv ov many last ds/\d7 [some (.val (.int c) false),some (.val (.lst [.int sv,.int ov]) false),some (.val (.int many) false),some (.val (.lst (names.map D.str)) false),some (.val (.bl last) false),some (.val (.int lot) true),none,none,none,none]=.ok (.rt (.val (.tup ds) true [])):=fun lot a b hL=>by
  obtain⟨w,hs⟩ : ∃ w:Bool,dg c 1013 2=if w then 1 else 0:=by
   have:dg c 1013 2=0\/dg c 1013 2=1:=by omega
   rcases this with z|z
   ·exact⟨false,z⟩
   ·exact⟨true,z⟩
  have iw:atI [D.str "shared",D.str "own"] (if w then 1 else 0)=some (.str (wd w)):=by cases w<;>rfl
  have jw:atI [D.int sv,D.int ov] (if w then 1 else 0)=some (.int (vl sv ov w)):=by cases w<;>rfl
  have hv:0<vl sv ov w:=by cases w<;>assumption
  obtain⟨ds,r,e⟩:=uk (c:=c) (many:=many) (number:=dg c 1019 (vl sv ov w)) (goal:=dg c 1021 many) (side:=if w then 1 else 0) (lot:=lot) (e1:=some (.val (.lst [.int sv,.int ov]) false)) (e4:=some (.val (.bl last) false)) (w:=w) (last:=last) hl a b hL ⟨dc _ _ _ hv,de _ _ _ hv⟩ ⟨dc _ _ _ h3,de _ _ _ h3⟩
  refine⟨ds,r,?_⟩
  rw[<- e]
  simp_arith[d7,gS,gR,gQ,aP c 1013 2 (by decide) (by decide),hs,iw,jw,aP c 1019 (vl sv ov w) (by decide) hv,aP c 1021 many (by decide) h3]
 cases last with
 |false=>
  obtain⟨ds,r,e⟩:=step (dg c 1009 14) l0 l1 (fun z=>by cases z)
  refine⟨ds,r,?_⟩
  simp_arith[c7,gj,aP c 1009 14 (by decide) (by decide),d8,e]
 |true=>
  have hm:∃ q:Int,0<=q/\q<14/\(q=7\/q=10\/q=11)/\atI [D.int 7,D.int 10,D.int 11] (dg c 1009 3)=some (.int q):=by
   have:dg c 1009 3=0\/dg c 1009 3=1\/dg c 1009 3=2:=by omega
   rcases this with h|h|h<;>rw[h]
   ·exact⟨7,by decide,by decide,by decide,rfl⟩
   ·exact⟨10,by decide,by decide,by decide,rfl⟩
   ·exact⟨11,by decide,by decide,by decide,rfl⟩
  obtain⟨q,q0,q1,q2,eq⟩:=hm
  obtain⟨ds,r,e⟩:=step q q0 q1 (fun _=>q2)
  refine⟨ds,r,?_⟩
  simp_arith[c7,gj,aP c 1009 14 (by decide) (by decide),d8,aP c 1009 3 (by decide) (by decide),eq,e]
end W
namespace W
open PySem L2 L3
noncomputable def i7 (gs:List (List Int)):List D:=gs.map fun g=>.lst (g.map .int)
theorem ul (gs:List (List Int)):(i7 gs).all fT=true:=by
 rw[List.all_eq_true]
 intro d hd
 obtain⟨g,_,rfl⟩:=List.mem_map.mp hd
 exact cx g
theorem om {n:Nat}{k:Int}(h0:0<=k)(h:k<n):j_ n k=some k.toNat:=by unfold j_;rw[if_pos h0,if_pos h]
section
variable {cs:List Int}{sv ov seed:Int}{names:List Str}
noncomputable abbrev e0 (cs:List Int):Option Sl:=some (.val (.lst (cs.map .int)) false)
noncomputable abbrev e1 (sv ov:Int):Option Sl:=some (.val (.lst [.int sv,.int ov]) false)
noncomputable abbrev e2 (names:List Str):Option Sl:=some (.val (.lst (names.map D.str)) false)
noncomputable abbrev e3 (seed:Int):Option Sl:=some (.val (.int seed) false)
theorem wA (hn:0<names.length)(hc:cs.length<=200):∃(gs:List (List Int))(x:Option Sl),gs.length=names.length/\(∀ g∈gs,g.length<=200)/\
 cr (gN 5) false bL (cs.map .int) [e0 cs,e1 sv ov,e2 names,e3 seed,some (.dis (.lst (i7 (names.map fun _=>[])))),none,none,none,none,none,none,none]
  = .ok (.nx [e0 cs,e1 sv ov,e2 names,e3 seed,some (.dis (.lst (i7 gs))),x,none,none,none,none,none,none]):=by
 obtain⟨env',lp,gs,x,rfl,h1,h2⟩:=cB (fun k:Int=>D.int k) (asg:=gN 5) (fr:=false) (body:=bL) cs (fun pre env=>∃(gs:List (List Int))(x:Option Sl),env=[e0 cs,e1 sv ov,e2 names,e3 seed,some (.dis (.lst (i7 gs))),x,none,none,none,none,none,none]/\gs.length=names.length/\∀ g∈gs,g.length<=pre.length) cs []
  [e0 cs,e1 sv ov,e2 names,e3 seed,some (.dis (.lst (i7 (names.map fun _=>[])))),none,none,none,none,none,none,none] rfl ⟨_,_,rfl,by simp,fun g hg=>by obtain⟨_,_,rfl⟩:=List.mem_map.mp hg;exact Nat.le_refl _⟩
  (by
    rintro pre post c env ea ⟨gs,x,rfl,h1,h2⟩
    have hpl:pre.length+post.length+1=cs.length:=by have:=congrArg List.length ea;simp at this;omega
    have hn0:(0:Int)<names.length:=by omega
    have bA:((names.map D.str).length:Int)=names.length:=by simp
    have d0:=dc c 1051 names.length hn0
    have d1:=de c 1051 names.length hn0
    have hj:(dg c 1051 names.length).toNat<gs.length:=by omega
    have eg:gs[(dg c 1051 names.length).toNat]?=some gs[(dg c 1051 names.length).toNat]:=by simp[hj]
    generalize gs[(dg c 1051 names.length).toNat]=g at eg
    have hgl:=h2 g (List.mem_of_getElem? eg)
    have ex:j_ (i7 gs).length (dg c 1051 names.length)=some (dg c 1051 names.length).toNat:=om d0 (by unfold i7;rw[List.length_map];omega)
    have ed:(i7 gs)[(dg c 1051 names.length).toNat]?=some (.lst (g.map .int)):=by unfold i7;rw[List.getElem?_map,eg];rfl
    have es:(i7 gs).set (dg c 1051 names.length).toNat (.lst (g.map .int++[.int c]))=i7 (gs.set (dg c 1051 names.length).toNat (g++[c])):=by unfold i7;rw[List.map_set];simp
    have hgl2:(g.map D.int).length<1000000:=by rw[List.length_map];omega
    refine⟨_,[e0 cs,e1 sv ov,e2 names,e3 seed,some (.dis (.lst (i7 (gs.set (dg c 1051 names.length).toNat (g++[c]))))),some (.val (.int c) false),none,none,none,none,none,none],rfl,?_,_,_,rfl,by simp[h1],fun g' hg'=>?_⟩
    ·simp_arith[bL,bA,aP c 1051 names.length (by decide) hn0]
     rw[oe ex ed]
     simp_arith
     rw[og (r:=.val (.int c) true []) rfl hgl2 (ul gs)]
     simp_arith[es]
    ·rcases List.mem_or_eq_of_mem_set hg' with hg'|rfl
     ·have:=h2 g' hg';simp;omega
     ·simp;omega)
 exact⟨gs,x,h1,fun g hg=>Nat.le_trans (h2 g hg) hc,lp⟩
end
end W
namespace W
open PySem L2 L3
section
variable {cs:List Int}{sv ov seed:Int}{names:List Str}
theorem qR (hn:0<names.length)(h1:0<sv)(h2:0<ov){ow:List Int}(hl:ow.length<=300)(h0:0<ow.length){e4 e5 e6 e7 e8 e11:Option Sl}:∃(rs:List (List D))(x y:Option Sl),rs.length=ow.length/\xw names sv ov rs/\
 cr (gT 2 (ay (gN 11) (ay (gN 5) bj))) true bM (cG 0 (ow.map .int)) [e0 cs,e1 sv ov,e2 names,e3 seed,e4,e5,e6,e7,e8,some (.val (.lst (ow.map .int)) true),some (.own [] true),e11]
  = .ok (.nx [e0 cs,e1 sv ov,e2 names,e3 seed,e4,x,e6,e7,e8,some (.val (.lst (ow.map .int)) true),some (.own (rs.map .tup) true),y]):=by
 rw[iy]
 obtain⟨env',lp,rs,x,y,rfl,r1,r2⟩:=cB (fun p:Int×Nat=>D.tup [.int (p.2:Nat),.int p.1]) (asg:=gT 2 (ay (gN 11) (ay (gN 5) bj))) (fr:=true) (body:=bM) (ow.zipIdx 0) (fun pre env=>∃(rs:List (List D))(x y:Option Sl),env=[e0 cs,e1 sv ov,e2 names,e3 seed,e4,x,e6,e7,e8,some (.val (.lst (ow.map .int)) true),some (.own (rs.map .tup) true),y]/\rs.length=pre.length/\∀(i:Nat)(r:List D),rs[i]?=some r->RowC names sv ov ow.length (decide (i+1=ow.length)) r) (ow.zipIdx 0) []
  [e0 cs,e1 sv ov,e2 names,e3 seed,e4,e5,e6,e7,e8,some (.val (.lst (ow.map .int)) true),some (.own [] true),e11] rfl ⟨[],_,_,rfl,rfl,fun _ _ z=>by simp at z⟩
  (by
    rintro pre post ⟨c,i⟩ env ea ⟨rs,x,y,rfl,r1,r2⟩
    have hpl:pre.length+post.length+1=ow.length:=by have:=congrArg List.length ea;simp at this;omega
    have hm:(0:Int)<ow.length:=by omega
    have hi:i=pre.length:=by
     have e2:(ow.zipIdx 0)[pre.length]?=some (c,i):=by rw[ea];simp
     rw[List.getElem?_zipIdx]at e2
     cases q:ow[pre.length]? with
     |none=>rw[q]at e2;cases e2
     |some v=>rw[q]at e2;simp at e2;omega
    have hlast:((i:Int)==(ow.length:Int)-1)=decide (i+1=ow.length):=by
     by_cases z:i+1=ow.length
     ·rw[decide_eq_true z];simp;omega
     ·rw[decide_eq_false z];simp;omega
    have bA:(((ow.map D.int).length:Nat):Int)=ow.length:=by simp
    obtain⟨ds,rw_,er⟩:=zY (c:=c) (sv:=sv) (ov:=ov) (many:=ow.length) (names:=names) (last:=((i:Int)==(ow.length:Int)-1)) hn h1 h2 hm
    have hfl:=(RowC.row rw_).flats
    have hrl:(rs.map D.tup).length<1000000:=by rw[List.length_map];omega
    refine⟨_,[e0 cs,e1 sv ov,e2 names,e3 seed,e4,some (.val (.int c) true),e6,e7,e8,some (.val (.lst (ow.map .int)) true),some (.own ((rs++[ds]).map .tup) true),some (.val (.int (i:Nat)) true)],rfl,?_,rs++[ds],_,_,rfl,by simp[r1],fun j r hr=>?_⟩
    ·simp_arith[bM,bA,eU,cI,er,jO,hrl,hfl,List.map_append]
    ·by_cases hj:j<rs.length
     ·rw[List.getElem?_append_left hj]at hr
      exact r2 j r hr
     ·rw[List.getElem?_append_right (by omega)]at hr
      have hj2:j=rs.length:=by
       by_cases z:j-rs.length=0
       ·omega
       ·rw[List.getElem?_eq_none (by simp;omega)]at hr;cases hr
      subst hj2
      simp at hr
      rw[<- hr,r1,<- hi,<- hlast];exact rw_)
 have rl:rs.length=ow.length:=by rw[r1];simp
 exact⟨rs,x,y,rl,fun i r hr=>by rw[rl];exact r2 i r hr,lp⟩
theorem oo (hn:0<names.length)(hn4:names.length<=4)(hns:∀ n∈names,n.length<=20)(h1:0<sv)(h2:0<ov){gs:List (List Int)}(hg:gs.length=names.length)(hgl:∀ g∈gs,g.length<=200){x:Option Sl}:∃(ps:List Pr)(a b c d e f:Option Sl),ps.map (·.1)=names/\(∀ p∈ps,Cw names sv ov p)/\
 cr (gT 2 (ay (gN 7) (ay (gN 8) bj))) false bN (cG 0 (names.map D.str)) [e0 cs,e1 sv ov,e2 names,e3 seed,some (.dis (.lst (i7 gs))),x,some (.own [] true),none,none,none,none,none]
  = .ok (.nx [e0 cs,e1 sv ov,e2 names,e3 seed,some (.dis (.lst (i7 gs))),a,some (.own (ps.map gv) true),b,c,d,e,f]):=by
 rw[iy]
 obtain⟨env',lp,ps,a,b,c,d,e,f,rfl,r1,r2⟩:=cB (fun p:Str×Nat=>D.tup [.int (p.2:Nat),.str p.1]) (asg:=gT 2 (ay (gN 7) (ay (gN 8) bj))) (fr:=false) (body:=bN) (names.zipIdx 0) (fun pre env=>∃(ps:List Pr)(a b c d e f:Option Sl),env=[e0 cs,e1 sv ov,e2 names,e3 seed,some (.dis (.lst (i7 gs))),a,some (.own (ps.map gv) true),b,c,d,e,f]/\ps.map (·.1)=pre.map (·.1)/\∀ p∈ps,Cw names sv ov p) (names.zipIdx 0) []
  [e0 cs,e1 sv ov,e2 names,e3 seed,some (.dis (.lst (i7 gs))),x,some (.own [] true),none,none,none,none,none] rfl ⟨[],_,_,_,_,_,_,rfl,rfl,fun _ z=>by cases z⟩
  (by
    rintro pre post ⟨n,k⟩ env ea ⟨ps,a,b,c,d,e,f,rfl,r1,r2⟩
    have hmem:(n,k)∈names.zipIdx 0:=by rw[ea];simp
    have hkn:names[k]?=some n:=by have:=List.mem_zipIdx_iff_getElem?.mp hmem;simpa using this
    have hk:=(List.getElem?_eq_some_iff.mp hkn).1
    have hkg:k<gs.length:=by omega
    have eg:gs[k]?=some gs[k]:=by simp[hkg]
    generalize gs[k]=g at eg
    have hgl':=hgl g (List.mem_of_getElem? eg)
    have ed:atI (i7 gs) (k:Int)=some (.lst (g.map .int)):=by
     unfold atI i7
     rw[om (by omega) (by rw[List.length_map];omega)]
     simp[eg]
    generalize hz:((k:Nat):Int)=z at ed
    have k1:-18446744073709551616<z:=by omega
    have k2:z<18446744073709551616:=by omega
    obtain⟨rs,x',y',q1,q2,lp2⟩:=qR (cs:=cs) (seed:=seed) hn h1 h2 (ow:=g++[seed+7*z*z]) (by simp;omega) (by simp) (e4:=some (.dis (.lst (i7 gs)))) (e5:=a) (e6:=some (.own (ps.map gv) true)) (e7:=some (.val (.int z) false)) (e8:=some (.val (.str n) false)) (e11:=f)
    have q1':rs.length=g.length+1:=by rw[q1];simp
    have hpl:pre.length+post.length+1=names.length:=by have:=congrArg List.length ea;simp at this;omega
    have hpsl:ps.length=pre.length:=by have:=congrArg List.length r1;simpa using this
    have hplen:(ps.map gv).length<1000000:=by rw[List.length_map];omega
    have eo:g.map D.int++[D.int (seed+7*z*z)]=(g++[seed+7*z*z]).map D.int:=by simp
    refine⟨_,[e0 cs,e1 sv ov,e2 names,e3 seed,some (.dis (.lst (i7 gs))),x',some (.own ((ps++[(n,rs)]).map gv) true),some (.val (.int z) false),some (.val (.str n) false),some (.val (.lst ((g++[seed+7*z*z]).map .int)) true),some (.val (.lst (rs.map .tup)) true),y'],rfl,?_,ps++[(n,rs)],_,_,_,_,_,_,rfl,by simp[r1],fun p hp=>?_⟩
    ·have hal:(g.map D.int).length+[D.int (seed+7*z*z)].length<=1000000:=by simp;omega
     simp_arith[bN,k1,k2,ed,cx]
     rw[jN hal,eo,bu (cx _)]
     simp_arith
     rw[show frz [e0 cs,e1 sv ov,e2 names,e3 seed,some (.dis (.lst (i7 gs))),a,some (.own (ps.map gv) true),some (.val (.int z) false),some (.val (.str n) false),some (.own ((g++[seed+7*z*z]).map .int) true),some (.own [] true),f] [9]=[e0 cs,e1 sv ov,e2 names,e3 seed,some (.dis (.lst (i7 gs))),a,some (.own (ps.map gv) true),some (.val (.int z) false),some (.val (.str n) false),some (.val (.lst ((g++[seed+7*z*z]).map .int)) true),some (.own [] true),f] from rfl,lp2]
     simp_arith[jO,hplen,List.map_append]
     exact if_pos ⟨hplen,fun h=>absurd (show(6:Nat)∈[10] from h) (by decide)⟩
    ·rcases List.mem_append.mp hp with hp|hp
     ·exact r2 p hp
     ·have:p=(n,rs):=by simpa using hp
      subst this
      exact⟨⟨hns n (List.mem_of_getElem? hkn),by show 0<rs.length;omega,by show rs.length<=400;omega,fun r hr=>by obtain⟨i,hi⟩:=List.mem_iff_getElem?.mp hr;exact(q2 i r hi).row⟩,q2,by show rs.length<=300;omega⟩)
 refine⟨ps,a,b,c,d,e,f,by rw[r1];simp,r2,lp⟩
theorem oq (hn:0<names.length)(hn4:names.length<=4)(hns:∀ n∈names,n.length<=20)(h1:0<sv)(h2:0<ov)(hc:cs.length<=200):∃ ps:List Pr,ps.map (·.1)=names/\(∀ p∈ps,Cw names sv ov p)/\
 bH [.lst (cs.map .int),.lst [.int sv,.int ov],.lst (names.map D.str),.int seed]=.ok (.val (wy sv ov ps) true [6]):=by
 obtain⟨gs,x,g1,g2,lp1⟩:=wA (cs:=cs) (sv:=sv) (ov:=ov) (seed:=seed) hn hc
 obtain⟨ps,a,b,c,d,e,f,r1,r2,lp2⟩:=oo (cs:=cs) (seed:=seed) (x:=x) hn hn4 hns h1 h2 g1 g2
 refine⟨ps,r1,r2,?_⟩
 have ed:(names.map D.str).map (fun _=>D.lst [])=i7 (names.map fun _=>[]):=by unfold i7;simp
 have hl:(names.map D.str).length<=1000000:=by rw[List.length_map];omega
 have i0:atI [D.int sv,D.int ov] 0=some (.int sv):=rfl
 have i1:atI [D.int sv,D.int ov] 1=some (.int ov):=rfl
 simp_arith[bH,fG,hl,ed]
 simp only[e0,e1,e2,e3]at lp1 lp2
 simp_arith[lp1]
 simp_arith[lp2]
 rfl
end
end W
namespace W
open PySem L2 L3
theorem um (ns:List Int)(hl:ns.length<=63)(c:Int):∃ cs:List Int,cs.length<=200/\bO [.lst (ns.map .int),.int c]=.ok (.val (.lst (cs.map .int)) true [2]):=by
 have hcut:bW (ns.map D.int) (some 2) (some 102)=(bW ns (some 2) (some 102)).map D.int:=ua D.int ns _ _
 have hcl:=ub ns (some 2) (some 102)
 by_cases h3:dg c 1049 8=3
 ·have b3:(dg c 1049 8==3)=true:=by rw[h3];rfl
  have d0:=dc c 1103 61 (by decide)
  have d1:=de c 1103 61 (by decide)
  obtain⟨n,hn⟩ : ∃ n:Nat,40+dg c 1103 61=n:=⟨(40+dg c 1103 61).toNat,by omega⟩
  have k1:-4611686018427387904<=(n:Int):=by omega
  have k2:(n:Int)<4611686018427387904:=by omega
  obtain⟨env',lp,cs,e3,rfl,hcs⟩:=cB (fun k:Nat=>D.int k) (asg:=gN 3) (fr:=true) (body:=c9) (List.range n) (fun pre env=>∃(cs:List Int)(e3:Option Sl),env=[some (.val (.lst (ns.map .int)) false),some (.val (.int c) false),some (.own (cs.map .int) true),e3]/\cs.length<=63+pre.length) (List.range n) [] [some (.val (.lst (ns.map .int)) false),some (.val (.int c) false),some (.own ((bW ns (some 2) (some 102)).map .int) true),none] rfl ⟨_,_,rfl,by simp;omega⟩
   (by
     rintro pre post k env ea ⟨cs,e3,rfl,hcs⟩
     have hpl:pre.length+post.length+1=n:=by have:=congrArg List.length ea;simp at this;omega
     have hk:k<n:=List.mem_range.mp (by rw[ea];simp)
     refine⟨_,[some (.val (.lst (ns.map .int)) false),some (.val (.int c) false),some (.own ((cs++[c+1051*(k:Int)*k]).map .int) true),some (.val (.int k) true)],rfl,?_,cs++[c+1051*(k:Int)*k],_,rfl,by simp;omega⟩
     have bA:(cs.map D.int).length<1000000:=by rw[List.length_map];omega
     generalize hz:((k:Nat):Int)=z
     have k1:-18446744073709551616<z:=by omega
     have k2:z<18446744073709551616:=by omega
     simp_arith[c9,k1,k2,jO,bA,List.map_append])
  refine⟨cs,by simp at hcs;omega,?_⟩
  simp_arith[bO,d9,hcut,cx,aP c 1049 8 (by decide) (by decide),eU,cI,b3,aP c 1103 61 (by decide) (by decide),hn]
  rw[o9 k1 k2,jQ,Int.toNat_natCast,i_]
  simp_arith[lp]
 ·have b3:(dg c 1049 8==3)=false:=beq_eq_false_iff_ne.mpr h3
  refine⟨bW ns (some 2) (some 102),by omega,?_⟩
  simp_arith[bO,d9,hcut,cx,aP c 1049 8 (by decide) (by decide),eU,cI,b3]
end W
namespace W
open PySem L2 L3
noncomputable def lets:List Nat:=("bcdefghjklopqrstuvwxyz" : Str).cps.toList
noncomputable def mainL:List Nat:=("main" : Str).cps.toList
theorem fP:lets.length=22:=by decide
theorem ot:lets.Nodup:=by decide
theorem qS:∀ x∈lets,x∉mainL:=by decide
theorem zZ (c st:Int)(i j:Nat)(hi:i<3)(hj:j<3)(hij:i≠j)(h1:1<=st)(h2:st<=7):(c+i*st) % 22≠(c+j*st) % 22:=by
 have hi:i=0\/i=1\/i=2:=by omega
 have hj:j=0\/j=1\/j=2:=by omega
 rcases hi with rfl|rfl|rfl<;>rcases hj with rfl|rfl|rfl<;>first|exact(hij rfl).elim|(simp;omega)
noncomputable def jb (c:Int)(k:Nat):Nat:=lets.getD ((c+k*(1+c / 22 % 7)) % 22).toNat 0
theorem pB (c:Int)(k:Nat):jb c k∈lets:=by
 unfold jb
 have h:((c+k*(1+c / 22 % 7)) % 22).toNat<lets.length:=by rw[fP];omega
 rw[List.getD_eq_getElem?_getD,List.getElem?_eq_getElem h]
 exact List.getElem_mem h
theorem z9 (c:Int)(i j:Nat)(hi:i<3)(hj:j<3)(hij:i≠j):jb c i≠jb c j:=by
 intro e
 have h:=zZ c (1+c / 22 % 7) i j hi hj hij (by omega) (by omega)
 unfold jb at e
 have h1:((c+i*(1+c / 22 % 7)) % 22).toNat<lets.length:=by rw[fP];omega
 have h2:((c+j*(1+c / 22 % 7)) % 22).toNat<lets.length:=by rw[fP];omega
 rw[List.getD_eq_getElem?_getD,List.getElem?_eq_getElem h1,List.getD_eq_getElem?_getD,List.getElem?_eq_getElem h2]at e
 have:=(List.getElem?_inj (i:=((c+i*(1+c / 22 % 7)) % 22).toNat) (j:=((c+j*(1+c / 22 % 7)) % 22).toNat) h1 ot).mp (by rw[List.getElem?_eq_getElem h1,List.getElem?_eq_getElem h2];exact congrArg some e)
 generalize (c+i*(1+c / 22 % 7))=x at *
 generalize (c+j*(1+c / 22 % 7))=y at *
 omega
noncomputable def wB (lot:Int)(bl:List Nat)(sp:Nat)(c:Int)(k:Nat):List Nat:=if lot=3 then mainL.take (1+k) else if lot=2 then mainL++[jb c k] else bl.take sp++[jb c k]++bl.drop (sp+1)
theorem ou {bl:List Nat}{sp:Nat}{x:Nat}(h:sp<bl.length):(bl.take sp++[x]++bl.drop (sp+1))[sp]?=some x:=by
 have hl:(bl.take sp).length=sp:=by rw[List.length_take];omega
 rw[List.append_assoc,List.getElem?_append_right (by omega),hl]
 simp
theorem uq (lot:Int)(bl:List Nat)(sp:Nat)(c:Int)(k:Nat)(h:sp<bl.length)(hk:k<3):wB lot bl sp c k≠mainL:=by
 unfold wB
 have h4:mainL.length=4:=by decide
 split
 ·intro e;have:=congrArg List.length e;rw[List.length_take]at this;omega
 ·split
  ·intro e;have:=congrArg List.length e;simp at this
  ·intro e
   have:=ou (x:=jb c k) h
   rw[e]at this
   exact qS _ (pB c k) (List.mem_of_getElem? this)
theorem z_ (lot:Int)(bl:List Nat)(sp:Nat)(c:Int)(i j:Nat)(h:sp<bl.length)(hi:i<3)(hj:j<3)(hij:i≠j):wB lot bl sp c i≠wB lot bl sp c j:=by
 unfold wB
 have h4:mainL.length=4:=by decide
 have hs:=z9 c i j hi hj hij
 split
 ·intro e;have:=congrArg List.length e;rw[List.length_take,List.length_take]at this;omega
 ·split
  ·intro e;exact hs (by simpa using e)
  ·intro e
   have e1:=ou (x:=jb c i) h
   have e2:=ou (x:=jb c j) h
   rw[e,e2]at e1
   exact hs (Option.some.inj e1).symm
end W
namespace W
open PySem L2 L3
noncomputable def wds:List (List Nat):=[("call" : Str).cps.toList,("back" : Str).cps.toList,("values" : Str).cps.toList,("own" : Str).cps.toList,("shared" : Str).cps.toList,("end" : Str).cps.toList,("come" : Str).cps.toList,("skip" : Str).cps.toList,("stop" : Str).cps.toList,("surely" : Str).cps.toList,("longest" : Str).cps.toList,("any" : Str).cps.toList]
noncomputable def xx (c:Int)(k:Nat):List Nat:=wds.getD ((c / 7+k*(1+c / 12 % 5)) % 12).toNat []
noncomputable def Nm (l:List Nat):Prop:=(1<=l.length/\l.length<=8)/\∀ x∈l,97<=x/\x<=122
instance (l:List Nat):Decidable (Nm l):=by unfold Nm;infer_instance
theorem qT:wds.Nodup:=by decide
theorem ur:mainL∉wds:=by decide
theorem Aa:∀ l∈wds,Nm l:=by decide
theorem md (c:Int)(k:Nat):wds[((c / 7+k*(1+c / 12 % 5)) % 12).toNat]?=some (xx c k):=by
 have h0:0<=(c / 7+k*(1+c / 12 % 5)) % 12:=Int.emod_nonneg _ (by decide)
 have h1:(c / 7+k*(1+c / 12 % 5)) % 12<12:=Int.emod_lt_of_pos _ (by decide)
 unfold xx
 have hl:((c / 7+k*(1+c / 12 % 5)) % 12).toNat<wds.length:=by show _<12;omega
 rw[List.getD_eq_getElem?_getD,List.getElem?_eq_getElem hl];rfl
theorem pC (c:Int)(k:Nat):xx c k∈wds:=List.mem_of_getElem? (md c k)
theorem B6 (a st:Int)(i j:Nat)(hi:i<3)(hj:j<3)(hij:i≠j)(h1:1<=st)(h2:st<=5):(a+i*st) % 12≠(a+j*st) % 12:=by
 have:st=1\/st=2\/st=3\/st=4\/st=5:=by omega
 rcases this with rfl|rfl|rfl|rfl|rfl<;>omega
theorem Ab (c:Int)(i j:Nat)(hi:i<3)(hj:j<3)(hij:i≠j):xx c i≠xx c j:=fun e=>by
 have a:=md c i
 have b:=md c j
 rw[e]at a
 have hne:=B6 (c / 7) (1+c / 12 % 5) i j hi hj hij (by omega) (by omega)
 have i0:0<=(c / 7+i*(1+c / 12 % 5)) % 12:=Int.emod_nonneg _ (by decide)
 have j0:0<=(c / 7+j*(1+c / 12 % 5)) % 12:=Int.emod_nonneg _ (by decide)
 have hil:=(List.getElem?_eq_some_iff.mp a).1
 have:=(List.getElem?_inj hil qT).mp (a.trans b.symm)
 generalize (c / 7+i*(1+c / 12 % 5)) % 12=x at *
 generalize (c / 7+j*(1+c / 12 % 5)) % 12=y at *
 omega
noncomputable def ll (lot:Int)(bl:List Nat)(sp:Nat)(c:Int)(k:Nat):List Nat:=if lot=4 then xx c k else wB lot bl sp c k
theorem uu (lot:Int)(bl:List Nat)(sp:Nat)(c:Int)(k:Nat)(h:sp<bl.length)(hk:k<3):ll lot bl sp c k≠mainL:=by
 unfold ll
 split
 ·intro e;exact ur (e▸pC c k)
 ·exact uq lot bl sp c k h hk
theorem Ac (lot:Int)(bl:List Nat)(sp:Nat)(c:Int)(i j:Nat)(h:sp<bl.length)(hi:i<3)(hj:j<3)(hij:i≠j):ll lot bl sp c i≠ll lot bl sp c j:=by
 unfold ll
 split
 ·exact Ab c i j hi hj hij
 ·exact z_ lot bl sp c i j h hi hj hij
theorem wC:∀ x∈lets,97<=x/\x<=122:=by decide
theorem me:Nm mainL:=by decide
theorem Ad (lot:Int){bl:List Nat}{sp:Nat}(c:Int){k:Nat}(h:sp<bl.length)(hb:bl.length<=8)(hl:∀ x∈bl,97<=x/\x<=122)(hk:k<3):Nm (ll lot bl sp c k):=by
 have hs:=wC _ (pB c k)
 have h4:mainL.length=4:=by decide
 unfold ll
 split
 ·exact Aa _ (pC c k)
 ·unfold wB
  split
  ·exact⟨by rw[List.length_take];omega,fun x hx=>me.2 x (List.mem_of_mem_take hx)⟩
  ·split
   ·refine⟨by simp[h4],fun x hx=>?_⟩
    rcases List.mem_append.mp hx with hx|hx
    ·exact me.2 x hx
    ·simp at hx;subst hx;exact hs
   ·refine⟨by simp;omega,fun x hx=>?_⟩
    rcases List.mem_append.mp hx with hx|hx
    ·rcases List.mem_append.mp hx with hx|hx
     ·exact hl x (List.mem_of_mem_take hx)
     ·simp at hx;subst hx;exact hs
    ·exact hl x (List.mem_of_mem_drop hx)
end W
namespace W
open PySem L2 L3
noncomputable abbrev T (l:List Nat):Str:=⟨l.toArray⟩
theorem dO (l:List Nat):(T l).length=l.length:=by show l.toArray.size=_;simp
theorem uv (a b:List Nat):T a++T b=T (a++b):=by
 show(⟨a.toArray++b.toArray⟩ : Str)=⟨(a++b).toArray⟩
 simp
theorem jZ (s:Str):s=T s.cps.toList:=by cases s;rfl
theorem xy {a b:List Nat}(h:T a=T b):a=b:=by
 have h2:(T a).cps.toList=(T b).cps.toList:=by rw[h]
 exact h2
theorem Ae {x y:Str}{f g:Bool}{al bl:List Nat}(h:x.length+y.length<=1000000):bc (.val (.str x) f al) (.val (.str y) g bl)=.ok (.val (.str (x++y)) true []):=if_pos h
theorem cU {a b:List Nat}{f g:Bool}{al bl:List Nat}(h:a.length+b.length<=1000000):bc (.val (.str (T a)) f al) (.val (.str (T b)) g bl)=.ok (.val (.str (T (a++b))) true []):=by
 rw[Ae (by rw[dO,dO];exact h),uv]
theorem xz {z:Str}{k:Int}{f:Bool}{al:List Nat}{c:Nat}(h:z.length<=1000000)(h2:atI z.cps.toList k=some c):iV (.str z) (.int k) f al=.ok (.val (.str (T [c])) true []):=by
 show(if z.length<=lim then (match atI z.cps.toList k with
  |some c=>(Res.ok (.val (.str ⟨#[c]⟩) true []):Res R)
  |none=>.stuck) else .stuck)=_
 rw[if_pos (show z.length<=lim from h),h2]
theorem xA (bl:List Nat)(k:Nat)(h:k<=bl.length):Txt.slice (T bl) none (some (k:Int))=T (bl.take k):=by
 have:=StrLaws.sliceText_to (x:=T bl) (j:=(k:Int)) ⟨by omega,by show(k:Int)<=bl.toArray.toList.length;simp;omega⟩
 refine(Eq.trans ?_ this).trans ?_
 ·rfl
 ·show(⟨((bl.toArray.toList.drop 0).take ((k:Int)-0).toNat).toArray⟩ : Str)=_
  simp
theorem wD (bl:List Nat)(k:Nat)(h:k<=bl.length):Txt.slice (T bl) (some (k:Int)) none=T (bl.drop k):=by
 have:=StrLaws.sliceText_from (x:=T bl) (i:=(k:Int)) ⟨by omega,by show(k:Int)<=bl.toArray.toList.length;simp;omega⟩
 refine(Eq.trans ?_ this).trans ?_
 ·rfl
 ·show(⟨((bl.toArray.toList.drop (k:Int).toNat).take ((bl.toArray.toList.length:Int)-k).toNat).toArray⟩ : Str)=_
  have e:((bl.length:Int)-k).toNat=(bl.drop k).length:=by rw[List.length_drop];omega
  rw[show(bl.toArray.toList.length:Int)=bl.length by simp,show((k:Int).toNat)=k by omega,e,List.toList_toArray,List.take_length]
theorem lm (ns:List D)(k:Nat):bW ns none (some ((k:Nat):Int))=ns.take k:=by
 unfold bW
 have h1:HT.sIx ns.length ns.length (some ((k:Nat):Int))=min k ns.length:=HT.sIx_nat ns.length ns.length k
 have h2:HT.sIx ns.length 0 none=0:=rfl
 rw[h1,h2,List.drop_zero,Nat.sub_zero,List.take_eq_take_iff];omega
theorem qU (ns:List D)(k:Nat):bW ns (some ((k:Nat):Int)) none=ns.drop k:=by
 unfold bW
 have h1:HT.sIx ns.length 0 (some ((k:Nat):Int))=min k ns.length:=HT.sIx_nat ns.length 0 k
 have h2:HT.sIx ns.length ns.length none=ns.length:=rfl
 rw[h1,h2]
 by_cases h:k<=ns.length
 ·rw[Nat.min_eq_left h,List.take_of_length_le (by rw[List.length_drop];omega)]
 ·rw[Nat.min_eq_right (by omega),List.drop_of_length_le (Nat.le_refl _),List.drop_of_length_le (by omega),List.take_nil]
noncomputable def abc:List Nat:=("abcdefghijklmnopqrstuvwxyz" : Str).cps.toList
theorem Af:∀ x∈abc,97<=x/\x<=122:=by decide
theorem Ag {k:Int} (h0:0<=k) (h:k<26):∃ a,(97<=a/\a<=122)/\atI ("abcdefghijklmnopqrstuvwxyz" : Str).cps.toList k=some a:=by
 have hl:abc.length=26:=by decide
 obtain⟨a,ea,em⟩:=lT (xs:=abc) h0 (by omega)
 exact⟨a,Af a (List.mem_of_getElem? em),ea⟩
theorem wE:("abcdefghijklmnopqrstuvwxyz" : Str).length<=1000000:=by decide
theorem qV:("bcdefghjklopqrstuvwxyz" : Str).length<=1000000:=by decide
theorem wF (c:Int) (k:Nat):atI ("bcdefghjklopqrstuvwxyz" : Str).cps.toList ((c+k*(1+c / 22 % 7)) % 22)=some (jb c k):=by
 have h:((c+k*(1+c / 22 % 7)) % 22).toNat<lets.length:=by rw[fP];omega
 obtain⟨a,ea,eb⟩:=lT (xs:=lets) (k:=(c+k*(1+c / 22 % 7)) % 22) (by omega) (by rw[fP];omega)
 unfold jb
 rw[List.getD_eq_getElem?_getD,eb]
 exact ea
theorem ox:("main" : Str)=T mainL:=jZ _
theorem qW (c sz:Int){n:Nat}(hn:n<=8){e1 e4:Option Sl}:∃(bl:List Nat)(x:Option Sl),bl.length=n/\(∀ x∈bl,97<=x/\x<=122)/\
 cr (gN 4) true ck ((List.range n).map fun k=>D.int (k:Nat)) [some (.val (.int c) false),e1,some (.val (.int sz) true),some (.val (.str "") true),e4,none,none,none,none,none]
  = .ok (.nx [some (.val (.int c) false),e1,some (.val (.int sz) true),some (.val (.str (T bl)) true),x,none,none,none,none,none]):=by
 obtain⟨env',lp,bl,x,rfl,hb,hx⟩:=cB (fun k:Nat=>D.int k) (asg:=gN 4) (fr:=true) (body:=ck) (List.range n) (fun pre env=>∃(bl:List Nat)(x:Option Sl),env=[some (.val (.int c) false),e1,some (.val (.int sz) true),some (.val (.str (T bl)) true),x,none,none,none,none,none]/\bl.length=pre.length/\∀ x∈bl,97<=x/\x<=122) (List.range n) []
  [some (.val (.int c) false),e1,some (.val (.int sz) true),some (.val (.str "") true),e4,none,none,none,none,none] rfl ⟨[],_,by rw[jZ ""];rfl,rfl,fun _ z=>by cases z⟩
  (by
    rintro pre post k env ea ⟨bl,x,rfl,hb,hx⟩
    have hl:pre.length+post.length+1=n:=by have:=congrArg List.length ea;simp at this;omega
    have hk:k<n:=by
     have:k∈List.range n:=by rw[ea];simp
     exact List.mem_range.mp this
    generalize hz:((k:Nat):Int)=z
    have k1:-18446744073709551616<z:=by omega
    have k2:z<18446744073709551616:=by omega
    obtain⟨a,har,ha⟩:=Ag (dc (c+5*z*z) 1093 26 (by decide)) (de (c+5*z*z) 1093 26 (by decide))
    have bA:bl.length+[a].length<=1000000:=by simp;omega
    refine⟨[some (.val (.int c) false),e1,some (.val (.int sz) true),some (.val (.str (T bl)) true),some (.val (.int z) true),none,none,none,none,none],[some (.val (.int c) false),e1,some (.val (.int sz) true),some (.val (.str (T (bl++[a]))) true),some (.val (.int z) true),none,none,none,none,none],rfl,?_,bl++[a],_,rfl,by simp[hb],fun x hx'=>(List.mem_append.mp hx').elim (hx x) fun z=>by simp at z;subst z;exact har⟩
    simp_arith[ck,k1,k2,aP (c+5*z*z) 1093 26 (by decide) (by decide),xz wE ha,cU bA])
 exact⟨bl,x,by rw[hb];simp,hx,lp⟩
theorem wG (c:Int)(k:Nat):dh [.int (c / 7+k*(1+c / 12 % 5))]=.ok (.val (.str (T (xx c k))) true []):=by
 have h0:0<=(c / 7+k*(1+c / 12 % 5)) % 12:=Int.emod_nonneg _ (by decide)
 have h1:(c / 7+k*(1+c / 12 % 5)) % 12<12:=Int.emod_lt_of_pos _ (by decide)
 have key:=md c k
 generalize c / 7+k*(1+c / 12 % 5)=z at *
 generalize xx c k=l at *
 have e:wds.map (fun l=>D.str (T l))=[D.str "call",D.str "back",D.str "values",D.str "own",D.str "shared",D.str "end",D.str "come",D.str "skip",D.str "stop",D.str "surely",D.str "longest",D.str "any"]:=rfl
 have ha:atI [D.str "call",D.str "back",D.str "values",D.str "own",D.str "shared",D.str "end",D.str "come",D.str "skip",D.str "stop",D.str "surely",D.str "longest",D.str "any"] (z % 12)=some (.str (T l)):=by
  rw[<- e,lS]
  have:atI wds (z % 12)=some l:=by
   unfold atI j_
   rw[if_pos h0,if_pos (by show z % 12<((12:Nat):Int);omega)]
   exact key
  rw[this];rfl
 simp_arith[dh,iM,ha]
theorem B7 {s aQ:En->Res Fl}{env env':En}(h:s env=.ok (.nx env')):aE s aQ env=aQ env':=by rw[o7,h];rfl
theorem uw (c sz lot:Int){bl:List Nat}{sp m:Nat}(hs:sp<bl.length)(hb:bl.length<=8)(hm:m<=3){e4:Option Sl}:∃(x y z:Option Sl),
 cr (gN 4) true c6 ((List.range m).map fun k=>D.int (k:Nat)) [some (.val (.int c) false),some (.own [] true),some (.val (.int sz) true),some (.val (.str (T bl)) true),e4,some (.val (.int (sp:Nat)) true),some (.val (.int lot) true),none,none,none]
  = .ok (.nx [some (.val (.int c) false),some (.own ((List.range m).map fun k=>D.str (T (ll lot bl sp c k))) true),some (.val (.int sz) true),some (.val (.str (T bl)) true),x,some (.val (.int (sp:Nat)) true),some (.val (.int lot) true),y,z,none]):=by
 obtain⟨env',lp,x,y,z,rfl⟩:=cB (fun k:Nat=>D.int k) (asg:=gN 4) (fr:=true) (body:=c6) (List.range m) (fun pre env=>∃(x y z:Option Sl),env=[some (.val (.int c) false),some (.own (pre.map fun k=>D.str (T (ll lot bl sp c k))) true),some (.val (.int sz) true),some (.val (.str (T bl)) true),x,some (.val (.int (sp:Nat)) true),some (.val (.int lot) true),y,z,none]) (List.range m) []
  [some (.val (.int c) false),some (.own [] true),some (.val (.int sz) true),some (.val (.str (T bl)) true),e4,some (.val (.int (sp:Nat)) true),some (.val (.int lot) true),none,none,none] rfl ⟨_,_,_,rfl⟩
  (by
    rintro pre post k env ea ⟨x,y,z,rfl⟩
    have hl:pre.length+post.length+1=m:=by have:=congrArg List.length ea;simp at this;omega
    have hk:k<m:=by
     have:k∈List.range m:=by rw[ea];simp
     exact List.mem_range.mp this
    have k1:-18446744073709551616<(1+c / 22 % 7):=by omega
    have k2:(1+c / 22 % 7)<18446744073709551616:=by omega
    have hT:(T bl).length<=1000000:=by rw[dO];omega
    have hM:("main" : Str).length<=1000000:=by decide
    have a1:(bl.take sp).length+[jb c k].length<=1000000:=by simp;omega
    have a2:(bl.take sp++[jb c k]).length+(bl.drop (sp+1)).length<=1000000:=by simp;omega
    have a3:mainL.length+[jb c k].length<=1000000:=by
     have:mainL.length=4:=by decide
     simp;omega
    have s1:=xA bl sp (by omega)
    have s2:Txt.slice (T bl) (some ((sp:Int)+1)) none=T (bl.drop (sp+1)):=wD bl (sp+1) (by omega)
    have s3:Txt.slice ("main" : Str) none (some (1+(k:Int)))=T (mainL.take (1+k)):=by
     have h4:mainL.length=4:=by decide
     rw[ox,show(1+(k:Int))=((1+k:Nat):Int) by omega];exact xA mainL (1+k) (by omega)
    have hp:(pre.map fun k=>D.str (T (ll lot bl sp c k))).length<1000000:=by rw[List.length_map];omega
    refine⟨[some (.val (.int c) false),some (.own (pre.map fun k=>D.str (T (ll lot bl sp c k))) true),some (.val (.int sz) true),some (.val (.str (T bl)) true),some (.val (.int (k:Nat)) true),some (.val (.int (sp:Nat)) true),some (.val (.int lot) true),y,z,none],[some (.val (.int c) false),some (.own ((pre++[k]).map fun k=>D.str (T (ll lot bl sp c k))) true),some (.val (.int sz) true),some (.val (.str (T bl)) true),some (.val (.int (k:Nat)) true),some (.val (.int (sp:Nat)) true),some (.val (.int lot) true),some (.val (.str (T [jb c k])) true),some (.val (.str (T (ll lot bl sp c k))) true),none],rfl,?_,_,_,_,rfl⟩
    have k3:-18446744073709551616<(1+c / 12 % 5):=by omega
    have k4:(1+c / 12 % 5)<18446744073709551616:=by omega
    generalize hpre:(pre.map fun k=>D.str (T (ll lot bl sp c k)))=acc at hp
    have eacc:((pre++[k]).map fun k=>D.str (T (ll lot bl sp c k)))=acc++[D.str (T (ll lot bl sp c k))]:=by rw[List.map_append,hpre];rfl
    rw[eacc]
    show aE _ _ [some (.val (.int c) false),some (.own acc true),some (.val (.int sz) true),some (.val (.str (T bl)) true),some (.val (.int (k:Nat)) true),some (.val (.int (sp:Nat)) true),some (.val (.int lot) true),y,z,none]=_
    rw[B7 (env':=[some (.val (.int c) false),some (.own acc true),some (.val (.int sz) true),some (.val (.str (T bl)) true),some (.val (.int (k:Nat)) true),some (.val (.int (sp:Nat)) true),some (.val (.int lot) true),some (.val (.str (T [jb c k])) true),z,none]) (by simp_arith[k1,k2,xz qV (wF c k)]),
     B7 (env':=[some (.val (.int c) false),some (.own acc true),some (.val (.int sz) true),some (.val (.str (T bl)) true),some (.val (.int (k:Nat)) true),some (.val (.int (sp:Nat)) true),some (.val (.int lot) true),some (.val (.str (T [jb c k])) true),some (.val (.str (T (bl.take sp++[jb c k]++bl.drop (sp+1)))) true),none]) (by simp_arith[hT,s1,s2,cU a1,cU a2]),
     B7 (env':=[some (.val (.int c) false),some (.own acc true),some (.val (.int sz) true),some (.val (.str (T bl)) true),some (.val (.int (k:Nat)) true),some (.val (.int (sp:Nat)) true),some (.val (.int lot) true),some (.val (.str (T [jb c k])) true),some (.val (.str (T (if lot=2 then mainL++[jb c k] else bl.take sp++[jb c k]++bl.drop (sp+1)))) true),none]) (by
      by_cases h2:lot=2
      ·subst h2
       simp_arith[ox,cU a3,eU,cI,if_true]
      ·have b2:(lot==2)=false:=by simpa using h2
       simp_arith[eU,cI,b2,h2,if_false]),
     B7 (env':=[some (.val (.int c) false),some (.own acc true),some (.val (.int sz) true),some (.val (.str (T bl)) true),some (.val (.int (k:Nat)) true),some (.val (.int (sp:Nat)) true),some (.val (.int lot) true),some (.val (.str (T [jb c k])) true),some (.val (.str (T (wB lot bl sp c k))) true),none]) (by
      unfold wB
      by_cases h3:lot=3
      ·subst h3
       simp_arith[hM,s3,eU,cI,if_true]
      ·have b3:(lot==3)=false:=by simpa using h3
       simp_arith[eU,cI,b3,h3,if_false]),
     B7 (env':=[some (.val (.int c) false),some (.own acc true),some (.val (.int sz) true),some (.val (.str (T bl)) true),some (.val (.int (k:Nat)) true),some (.val (.int (sp:Nat)) true),some (.val (.int lot) true),some (.val (.str (T [jb c k])) true),some (.val (.str (T (ll lot bl sp c k))) true),none]) (by
      unfold ll
      by_cases h4:lot=4
      ·subst h4
       simp_arith[k3,k4,eU,cI,wG c k,if_true]
      ·have b4:(lot==4)=false:=by simpa using h4
       simp_arith[eU,cI,b4,h4,if_false])]
    simp_arith[hp,jO])
 exact⟨x,y,z,lp⟩
theorem ux (c:Int):∃ names:List Str,0<names.length/\names.length<=4/\names.Nodup/\(∀ n∈names,Nm n.cps.toList)/\("main" : Str)∈names/\cT [.int c]=.ok (.new (names.map D.str) true):=by
 have s0:=dc c 1063 8 (by decide)
 have s1:=de c 1063 8 (by decide)
 obtain⟨n,hn⟩ : ∃ n:Nat,1+dg c 1063 8=n:=⟨(1+dg c 1063 8).toNat,by omega⟩
 have hn0:(0:Int)<n:=by omega
 obtain⟨bl,x4,hbl,hbx,lp1⟩:=qW c n (n:=n) (by omega) (e1:=some (.own [] true)) (e4:=none)
 have p0:=dc c 1069 n hn0
 have p1:=de c 1069 n hn0
 obtain⟨sp,hsp⟩ : ∃ sp:Nat,dg c 1069 n=sp:=⟨(dg c 1069 n).toNat,by omega⟩
 have m0:=dc c 1061 4 (by decide)
 have m1:=de c 1061 4 (by decide)
 obtain⟨m,hm⟩ : ∃ m:Nat,dg c 1061 4=m:=⟨(dg c 1061 4).toNat,by omega⟩
 obtain⟨y4,y7,y8,lp2⟩:=uw c n (dg c 1087 5) (bl:=bl) (sp:=sp) (m:=m) (by omega) (by omega) (by omega) (e4:=x4)
 generalize hlot:dg c 1087 5=lot at lp2
 generalize hoth:((List.range m).map fun k=>T (ll lot bl sp c k))=oth at *
 have hod:((List.range m).map fun k=>D.str (T (ll lot bl sp c k)))=oth.map D.str:=by rw[<- hoth,List.map_map];rfl
 have hol:oth.length=m:=by rw[<- hoth];simp
 rw[hod]at lp2
 have hk0:(0:Int)<(m:Int)+1:=by omega
 have q0:=dc c 1091 ((m:Int)+1) hk0
 have q1:=de c 1091 ((m:Int)+1) hk0
 obtain⟨k,hk⟩ : ∃ k:Nat,dg c 1091 ((m:Int)+1)=k:=⟨(dg c 1091 ((m:Int)+1)).toNat,by omega⟩
 have ond:oth.Nodup:=by
  rw[<- hoth]
  rw[List.Nodup,List.pairwise_map]
  refine List.Pairwise.imp_of_mem (R:=(·≠ ·)) (fun{i j} hi hj hij e=>?_) (List.nodup_range (n:=m))
  have hi:=List.mem_range.mp hi
  have hj:=List.mem_range.mp hj
  exact Ac lot bl sp c i j (by omega) (by omega) (by omega) hij (xy e)
 have omn:("main" : Str)∉oth:=by
  rw[<- hoth]
  intro h
  obtain⟨i,hi,e⟩:=List.mem_map.mp h
  have hi:=List.mem_range.mp hi
  rw[ox]at e
  exact uu lot bl sp c i (by omega) (by omega) (xy e)
 have ol:∀ x∈oth,Nm x.cps.toList:=by
  rw[<- hoth]
  intro x hx
  obtain⟨i,hi,rfl⟩:=List.mem_map.mp hx
  have hi:=List.mem_range.mp hi
  have:=Ad lot (bl:=bl) (sp:=sp) c (k:=i) (by omega) (by omega) hbx (by omega)
  simpa using this
 refine⟨oth.take k++("main" : Str)::oth.drop k,by simp;omega,by simp;omega,?_,?_,by simp,?_⟩
 ·have:(oth.take k++("main" : Str)::oth.drop k).Perm (("main" : Str)::oth):=by
   refine List.perm_middle.trans ?_
   rw[List.take_append_drop]
  exact this.nodup_iff.mpr (List.nodup_cons.mpr ⟨omn,ond⟩)
 ·intro x hx
  rcases List.mem_append.mp hx with h|h
  ·exact ol x (List.mem_of_mem_take h)
  ·rcases List.mem_cons.mp h with rfl|h
   ·exact me
   ·exact ol x (List.mem_of_mem_drop h)
 ·have k1:-4611686018427387904<=(n:Int):=by omega
  have k2:(n:Int)<4611686018427387904:=by omega
  have k3:-4611686018427387904<=(m:Int):=by omega
  have k4:(m:Int)<4611686018427387904:=by omega
  have hlm:(((oth.map D.str).length:Nat):Int)=m:=by simp[hol]
  simp_arith[cT,gP,aP c 1063 8 (by decide) (by decide),hn]
  rw[o9 k1 k2,jQ,Int.toNat_natCast,i_]
  simp_arith[lp1,aP c 1069 n (by decide) hn0,aP c 1087 5 (by decide) (by decide),aP c 1061 4 (by decide) (by decide),hsp,hlot,hm]
  rw[o9 k3 k4,jQ,Int.toNat_natCast,i_]
  have fl1:D.flats ((oth.map D.str).take k)=true:=bX fun d hd=>by obtain⟨a,_,rfl⟩:=List.mem_map.mp (List.mem_of_mem_take hd);rfl
  have fl2:D.flats ((oth.map D.str).drop k)=true:=bX fun d hd=>by obtain⟨a,_,rfl⟩:=List.mem_map.mp (List.mem_of_mem_drop hd);rfl
  have fl3:D.flats ((oth.map D.str).take k++[D.str "main"])=true:=bX fun d hd=>by
   rcases List.mem_append.mp hd with h|h
   ·obtain⟨a,_,rfl⟩:=List.mem_map.mp (List.mem_of_mem_take h);rfl
   ·rw[List.mem_singleton.mp h];rfl
  have fl4:D.flats ((oth.map D.str).take k++[D.str "main"]++(oth.map D.str).drop k)=true:=bX fun d hd=>by
   rcases List.mem_append.mp hd with h|h
   ·rcases List.mem_append.mp h with h|h
    ·obtain⟨a,_,rfl⟩:=List.mem_map.mp (List.mem_of_mem_take h);rfl
    ·rw[List.mem_singleton.mp h];rfl
   ·obtain⟨a,_,rfl⟩:=List.mem_map.mp (List.mem_of_mem_drop h);rfl
  have ln1:((oth.map D.str).take k).length+[D.str "main"].length<=1000000:=by simp;omega
  have ln2:((oth.map D.str).take k++[D.str "main"]).length+((oth.map D.str).drop k).length<=1000000:=by simp;omega
  simp_arith[lp2,hlm,aP c 1091 ((m:Int)+1) (by decide) hk0,hk,lm,qU,bu fl1,bu fl2,jN ln1,bu fl3,jN ln2,bu fl4]
  simp
end W
namespace W
open PySem PySem.StrLaws PySem.Builtin.Str
noncomputable def jn (sep:List Nat):List (List Nat)->List Nat
 | []=>[]
 | [p]=>p
 |p::q::r=>p++sep++jn sep (q::r)
theorem eG (sep p:List Nat){ps:List (List Nat)}(h:ps≠[]):jn sep (p::ps)=p++sep++jn sep ps:=by
 cases ps with
 |nil=>exact(h rfl).elim
 |cons q r=>rfl
theorem oy (x:List Nat)(sep:List Nat)(k:Nat):At (T x) (T sep) (T x).length k↔k+sep.length<=x.length/\(x.drop k).take sep.length=sep:=by
 unfold At
 have hl:(T x).length=x.length:=by show x.toArray.size=_;simp
 have hs:(T sep).length=sep.length:=by show sep.toArray.size=_;simp
 rw[hl,hs]
 unfold subAt
 rw[hs]
 constructor
 ·rintro⟨h1,h2⟩
  refine⟨h1,?_⟩
  have:=eq_of_beq h2
  have:=congrArg Array.toList this
  simpa using this
 ·rintro⟨h1,h2⟩
  refine⟨h1,?_⟩
  rw[beq_iff_eq]
  apply Array.ext'
  simpa using h2
theorem mf (pre p post:List Nat):strSub (T (pre++p++post)) pre.length (pre.length+p.length)=T p:=by
 apply Str.ext'
 show(pre++p++post).toArray.extract pre.length (pre.length+p.length)=p.toArray
 apply Array.ext'
 simp
theorem uy {pre p post:List Nat}{c:Nat}{st:List Nat}(hc:c∉p){k:Nat}(h1:pre.length<=k)(h2:k<pre.length+p.length):¬ At (T (pre++p++post)) (T (c::st)) (T (pre++p++post)).length k:=by
 rw[oy]
 rintro⟨_,h⟩
 have e:((pre++p++post).drop k).take (c::st).length=c::st:=h
 have e2:(pre++p++post)[k]?=some c:=by
  have:=congrArg (fun l=>l[0]?) e
  simp only[List.getElem?_cons_zero]at this
  rw[List.getElem?_take_of_lt (by simp),List.getElem?_drop]at this
  simpa using this
 rw[List.append_assoc,List.getElem?_append_right h1,List.getElem?_append_left (by omega)]at e2
 exact hc (List.mem_of_getElem? e2)
theorem Ah (pre p sep post:List Nat):At (T (pre++p++(sep++post))) (T sep) (T (pre++p++(sep++post))).length (pre.length+p.length):=by
 rw[oy]
 refine⟨by simp;omega,?_⟩
 have:pre.length+p.length=(pre++p).length:=by simp
 rw[this,List.drop_left,List.take_left]
theorem gr (c:Nat)(st:List Nat):∀(ps:List (List Nat))(pre:List Nat)(cuts:List Nat)(f:Nat),ps≠[]->(∀ p∈ps,c∉p)->
 ChainG (T (pre++jn (c::st) ps)) (T (c::st)) (T (pre++jn (c::st) ps)).length pre.length cuts f->(∀ k,f<=k->¬ At (T (pre++jn (c::st) ps)) (T (c::st)) (T (pre++jn (c::st) ps)).length k)->
 partsFrom (T (pre++jn (c::st) ps)) (c::st).length pre.length cuts=ps.map T
 | [],_,_,_,h,_,_,_=>(h rfl).elim
 | [p],pre,cuts,f,_,hc,hG,hn=>by
  have hp:=hc p (by simp)
  have e0:pre++jn (c::st) [p]=pre++p++[]:=by simp[jn]
  rw[e0]at hG hn ⊢
  have no:∀ k,pre.length<=k->¬ At (T (pre++p++[])) (T (c::st)) (T (pre++p++[])).length k:=fun k hk hA=>by
   by_cases h2:k<pre.length+p.length
   ·exact uy hp hk h2 hA
   ·have:=(oy _ _ _).mp hA
    simp at this;omega
  cases cuts with
  |nil=>
   show[strSub (T (pre++p++[])) pre.length (T (pre++p++[])).length]=[T p]
   have:(T (pre++p++[])).length=pre.length+p.length:=by show(pre++p++[]).toArray.size=_;simp
   rw[this,mf]
  |cons d r=>exact(no d hG.1 hG.2.1).elim
 |p::q::r,pre,cuts,f,_,hc,hG,hn=>by
  have hp:=hc p (by simp)
  have e0:pre++jn (c::st) (p::q::r)=pre++p++((c::st)++jn (c::st) (q::r)):=by rw[eG _ _ (by simp)];simp
  have e1:pre++p++((c::st)++jn (c::st) (q::r))=(pre++p++(c::st))++jn (c::st) (q::r):=by simp
  rw[e0]at hG hn ⊢
  have yes:=Ah pre p (c::st) (jn (c::st) (q::r))
  cases cuts with
  |nil=>
   have:f=pre.length:=hG
   exact(hn _ (by omega) yes).elim
  |cons d cs=>
   obtain⟨g1,g2,g3,g4⟩:=hG
   have ed:d=pre.length+p.length:=by
    rcases Nat.lt_trichotomy d (pre.length+p.length) with h|h|h
    ·exact(uy hp g1 h g2).elim
    ·exact h
    ·exact(g3 _ (by omega) h yes).elim
   subst ed
   have hw:(T (c::st)).length=(c::st).length:=by show(c::st).toArray.size=_;simp
   rw[hw]at g4
   have hl:pre.length+p.length+(c::st).length=(pre++p++(c::st)).length:=by simp;omega
   rw[hl,e1]at g4
   rw[e1]at hn
   have ih:=gr c st (q::r) (pre++p++(c::st)) cs f (by simp) (fun x hx=>hc x (by simp at hx ⊢;exact .inr hx)) g4 hn
   show strSub _ pre.length (pre.length+p.length)::partsFrom _ (c::st).length (pre.length+p.length+(c::st).length) cs=_
   rw[mf,hl,e1,ih]
   rfl
theorem nE (c:Nat)(st:List Nat)(ps:List (List Nat))(h:ps≠[])(hc:∀ p∈ps,c∉p) :
 Builtin.Str.partsBetween (T (jn (c::st) ps)) (Builtin.Str.occurrences (T (jn (c::st) ps)) (T (c::st)) 0 (T (jn (c::st) ps)).length ((T (jn (c::st) ps)).length+1)) (T (c::st)).length=ps.map T:=by
 obtain⟨f,hG,hn⟩:=occ_tight (T (jn (c::st) ps)) (T (c::st)) (by show 1<=(c::st).toArray.size;simp)
 have key:=gr c st ps [] (occurrences (T (jn (c::st) ps)) (T (c::st)) 0 (T (jn (c::st) ps)).length ((T (jn (c::st) ps)).length+1)) f h hc hG hn
 have hw:(T (c::st)).length=(c::st).length:=by show(c::st).toArray.size=_;simp
 rw[partsBetween_eq,hw]
 exact key
theorem oz (c:Nat)(st:List Nat)(ps:List (List Nat))(h:ps≠[])(hc:∀ p∈ps,c∉p)(ha:c<256)(hs:∀ x∈st,x<256):Txt.split (T (jn (c::st) ps)) (T (c::st))=ps.map T:=by
 obtain⟨f,hG,hn⟩:=occ_tight (T (jn (c::st) ps)) (T (c::st)) (by show 1<=(c::st).toArray.size;simp)
 have key:=gr c st ps [] (occurrences (T (jn (c::st) ps)) (T (c::st)) 0 (T (jn (c::st) ps)).length ((T (jn (c::st) ps)).length+1)) f h hc hG hn
 have hw:(T (c::st)).length=(c::st).length:=by show(c::st).toArray.size=_;simp
 have one:∀ x:Str,strKind x<strKind (T (c::st))->False:=fun x hx=>by
  have k1:strKind (T (c::st))=1:=by
   unfold Builtin.Str.strKind
   have:(T (c::st)).cps.all (·< 256)=true:=by
    rw[<- Array.all_toList,List.all_eq_true]
    intro y hy
    have hy:y∈c::st:=by simpa using hy
    rcases List.mem_cons.mp hy with rfl|hy
    ·exact decide_eq_true ha
    ·exact decide_eq_true (hs y hy)
   rw[if_pos this]
  rw[k1]at hx
  unfold Builtin.Str.strKind at hx
  split at hx
  ·omega
  ·split at hx<;>omega
 have lone:(∃ p,ps=[p])\/∃ p q r,ps=p::q::r:=by
  cases ps with
  |nil=>exact(h rfl).elim
  |cons p r=>cases r with
   |nil=>exact .inl ⟨p,rfl⟩
   |cons q r=>exact .inr ⟨p,q,r,rfl⟩
 unfold Txt.split
 by_cases h1:(decide ((T (jn (c::st) ps)).length<(T (c::st)).length) || decide (strKind (T (jn (c::st) ps))<strKind (T (c::st))))=true
 ·rw[if_pos h1]
  rw[Bool.or_eq_true,decide_eq_true_eq,decide_eq_true_eq]at h1
  rcases h1 with h1|h1
  ·rcases lone with⟨p,rfl⟩|⟨p,q,r,rfl⟩
   ·rfl
   ·exfalso
    rw[hw]at h1
    have:(T (jn (c::st) (p::q::r))).length=(jn (c::st) (p::q::r)).length:=by show(jn (c::st) (p::q::r)).toArray.size=_;simp
    rw[this,eG _ _ (by simp)]at h1
    simp at h1;omega
  ·exact(one _ h1).elim
 ·rw[if_neg h1]
  by_cases h2:(occurrences (T (jn (c::st) ps)) (T (c::st)) 0 (T (jn (c::st) ps)).length ((T (jn (c::st) ps)).length+1)).isEmpty=true
  ·rw[if_pos h2]
   have h2':=List.isEmpty_iff.mp h2
   rw[h2']at key
   rw[<- key]
   show _=[strSub (T (jn (c::st) ps)) 0 (T (jn (c::st) ps)).length]
   have:=mf [] (jn (c::st) ps) []
   simp only[List.nil_append,List.append_nil,List.length_nil,Nat.zero_add]at this
   have hl:(T (jn (c::st) ps)).length=(jn (c::st) ps).length:=by show(jn (c::st) ps).toArray.size=_;simp
   rw[hl,this]
  ·rw[if_neg h2,partsBetween_eq,hw]
   exact key
theorem wH (sep:List Nat):∀ ps:List (List Nat),ps≠[]->Txt.join (T sep) (ps.map T)=T (jn sep ps):=fun ps h=>by
 have e:∀ ps:List (List Nat),ps≠[]->Str.join (T sep) (ps.map T)=T (jn sep ps):=by
  intro ps
  induction ps with
  |nil=>intro h;exact(h rfl).elim
  |cons p r ih=>
   intro _
   cases r with
   |nil=>rfl
   |cons q r=>
    have:=ih (by simp)
    show T p++T sep++Str.join (T sep) ((q::r).map T)=_
    rw[this,show jn sep (p::q::r)=p++sep++jn sep (q::r) from rfl]
    apply Str.ext'
    show p.toArray++sep.toArray++(jn sep (q::r)).toArray=(p++sep++jn sep (q::r)).toArray
    simp
 show Builtin.Str.glued (T sep) (ps.map T)=_
 rw[glued_eq_join]
 exact e ps h
end W
namespace W
open PySem L2 L3
theorem xB {x y:Str}{f g:Bool}{al bl:List Nat}:lN (.val (.str x) f al) (.val (.str y) g bl)=.ok (.val (.bl (!(decide (y.cps.toList<x.cps.toList)))) true []):=(rfl)
theorem pD (k1 k2:R->R->Res R)(fa fb fc:En->Res R)(env:En){ra rb rc:R}{v:R}(ha:fa env=.ok ra)(hb:fb env=.ok rb)(hc:fc env=.ok rc){f:Bool}{al:List Nat}(h1:k1 ra rb=.ok (.val (.bl true) f al))(h2:k2 rb rc=.ok v):dq k1 k2 fa fb fc env=.ok v:=by
 unfold dq
 rw[ha,jQ,hb,jQ,h1,jQ]
 show(fc env).bind _=_
 rw[hc,jQ,h2]
theorem C9 {a b:Nat}(h:b<=a):decide ([a]<[b])=false:=by
 apply decide_eq_false
 intro z
 rw[List.cons_lt_cons_iff]at z
 rcases z with z|⟨_,z⟩
 ·omega
 ·exact absurd z (by simp)
theorem wI (l:List Nat):fB (T l)=l.map fun c=>D.str (T [c]):=by unfold fB;simp
theorem Ai (f:En->Res R)(env:En):o0 f env=(f env).bind oZ:=(rfl)
theorem wJ {z:Str}{f:Bool}{al:List Nat}:oZ (.val (.str z) f al)=.ok ⟨fB z,true,[]⟩:=(rfl)
theorem Aj {z:Str}(h:z.length<=1000000):tE (.str z)=.ok (.val (.int z.length) true []):=if_pos h
theorem j3 {l:List Nat}(h:Nm l):dN [.str (T l)]=.ok (.val (.bl true) true []):=by
 obtain⟨⟨h1,h2⟩,h3⟩:=h
 have hc:=aZ (mk:=fun d=>gN 0 d true (cO [some (.val (.str (T l)) false)] 1 [])) (test:=fun _=>.ok true) (elt:=iQ) (fun c:Nat=>D.str (T [c])) (fun _=>.val (.bl true) true []) l
  fun c hc=>⟨[some (.val (.str (T [c])) true)],rfl,rfl,by
   refine pD lN lN _ _ _ _ (ra:=.val (.str "a") true []) (rb:=.val (.str (T [c])) true []) (rc:=.val (.str "z") true []) rfl rfl rfl (f:=true) (al:=[]) ?_ ?_
   ·rw[xB,show((T [c]).cps.toList)=[c] from rfl,show(("a" : Str).cps.toList)=[97] from by decide,C9 (h3 c hc).1];rfl
   ·rw[xB,show((T [c]).cps.toList)=[c] from rfl,show(("z" : Str).cps.toList)=[122] from by decide,C9 (h3 c hc).2];rfl⟩
 have hl:(T l).length<=1000000:=by rw[dO];omega
 have c1:dq su su (vC (.int 1)) (dW cg (ad (ah 0) ao)) (vC (.int 8)) [some (.val (.str (T l)) false)]=.ok (.val (.bl true) true []):=by
  refine pD su su _ _ _ _ (ra:=.val (.int 1) true []) (rb:=.val (.int (T l).length) true []) (rc:=.val (.int 8) true []) rfl ?_ rfl (f:=true) (al:=[]) ?_ ?_
  ·simp_arith[Aj hl]
  ·rw[za,dO,decide_eq_true (by omega)]
  ·rw[za,dO,decide_eq_true (by omega)]
 simp_arith[dN,lh,c1,Ai,wJ,wI]
 rw[b5 (by rw[List.length_map];omega) hc,fE (fun _=>D.bl true),bu (aK (fun _=>D.bl true) l fun _=>rfl)]
 simp_arith[ni,fW]
noncomputable def gb (n:Nat):List Nat:=((toString ((n:Nat):Int):String):Str).cps.toList
theorem B8 (n:Nat):((toString ((n:Nat):Int):String):Str)=T (gb n):=jZ _
noncomputable def Dw:Res R->Bool
 | .ok (.val (.bl true) true [])=>true
 |_=>false
theorem gu {r:Res R}(h:Dw r=true):r=.ok (.val (.bl true) true []):=by
 unfold Dw at h
 split at h
 ·rfl
 ·cases h
noncomputable def alnum (l:List Nat):Bool:=l.all fun x=>(decide (97<=x)&&decide (x<=122)) || (decide (48<=x)&&decide (x<=57))
set_option maxRecDepth 100000 in
theorem wK:∀ n:Fin 300,(Dw (c_ [.str (T (gb n.val))])&&(decide (PySem.intText? (T (gb n.val))=some ((n.val:Nat):Int))&&(alnum (gb n.val)&&decide ((gb n.val).length<=3))))=true:=by decide +kernel
theorem hZ {n:Nat}(h:n<300):c_ [.str (T (gb n))]=.ok (.val (.bl true) true [])/\PySem.intText? (T (gb n))=some ((n:Nat):Int)/\alnum (gb n)=true/\(gb n).length<=3:=by
 have:=wK ⟨n,h⟩
 simp only[Bool.and_eq_true,decide_eq_true_eq]at this
 exact⟨gu this.1,this.2.1,this.2.2.1,this.2.2.2⟩
end W
namespace W
open PySem L2 L3
theorem h7 (fo fa:En->Res R)(env:En):gi fo fa env=(fo env).bind (gG fa env):=(rfl)
theorem fX {fa:En->Res R}{env:En}{a:Str}{f:Bool}{al:List Nat}:gG fa env (.val (.str a) f al)=(fa env).bind (cS a):=(rfl)
theorem h8 {c:Nat}{st:List Nat}{ps:List (List Nat)}{x:Str}{f:Bool}{al:List Nat}(hx:x=T (c::st))(h:ps≠[])(hc:∀ p∈ps,c∉p)(hl:(jn (c::st) ps).length<=100000)(hn:ps.length<=100000)(ha:c<256)(hs:∀ y∈st,y<256) :
 cS (T (jn (c::st) ps)) (.val (.str x) f al)=.ok (.new (ps.map fun p=>D.str (T p)) true):=by
 subst hx
 have e1:=oz c st ps h hc ha hs
 have e2:=nE c st ps h hc
 have ok:fV (T (jn (c::st) ps)) (T (c::st)):=by
  refine⟨by rw[dO];simp,by rw[dO];exact hl,by rw[e1,List.length_map];exact hn,by rw[e2,List.length_map];exact hn⟩
 show(if fV _ _ then _ else _)=_
 rw[if_pos ok,e1,List.map_map];rfl
theorem Ak:(" " : Str)=T [32]:=by decide
theorem pE {l:List Nat}(h:alnum l=true){c:Nat}(hc:c<48\/(57<c/\c<97)):c∉l:=fun z=>by
 unfold alnum at h
 have:=List.all_eq_true.mp h c z
 simp only[Bool.or_eq_true,Bool.and_eq_true,decide_eq_true_eq]at this
 omega
theorem mh (sep:List Nat){n:Nat}:∀ ps:List (List Nat),(∀ p∈ps,p.length<=n)->(jn sep ps).length<=ps.length*(n+sep.length)
 | [],_=>Nat.zero_le _
 | [p],h=>by have:=h p (by simp);show p.length<=1*(n+sep.length);omega
 |p::q::r,h=>by
  have h1:=h p (by simp)
  have ih:=mh sep (q::r) fun x hx=>h x (by simp at hx ⊢;exact .inr hx)
  have:(jn sep (p::q::r)).length=p.length+sep.length+(jn sep (q::r)).length:=by rw[eG _ _ (by simp)];simp;omega
  rw[this,List.length_cons]
  rw[Nat.succ_mul]
  omega
theorem j6 {sep:List Nat}{x:Nat}:∀{ps:List (List Nat)},x∈jn sep ps->x∈sep\/∃ p∈ps,x∈p
 | [],h=>by cases h
 | [p],h=>.inr ⟨p,by simp,h⟩
 |p::q::r,h=>by
  rw[eG _ _ (by simp)]at h
  rcases List.mem_append.mp h with h|h
  ·rcases List.mem_append.mp h with h|h
   ·exact .inr ⟨p,by simp,h⟩
   ·exact .inl h
  ·rcases j6 h with h|⟨p',h1,h2⟩
   ·exact .inl h
   ·exact .inr ⟨p',by simp at h1 ⊢;exact .inr h1,h2⟩
structure Cel where
 l:Str
 w:List Nat
 d:D
noncomputable def mi (h:Str)(cs:List Cel):List D:=.str h::cs.map fun c=>.str c.l
noncomputable def mw (h:Str)(cs:List Cel):List D:=.str h::cs.map fun c=>.str (T c.w)
noncomputable def qX (h:Str)(cs:List Cel):List D:=.str h::cs.map Cel.d
structure Wk (c:Cel):Prop where
 mean:F_is_meant [.str c.l,.str (T c.w)]=.ok (.val (.bl true) true [])
 keep:E_words_kept_1 [some (.val (.str c.l) true),some (.val (.str (T c.w)) true)]=.ok (.val c.d true [])
 al:alnum c.w=true
 len:c.w.length<=8
 str:∀(f:Bool)(al:List Nat),kStr [.val c.d f al]=.ok (.val (.str (T c.w)) true [])
 flat:c.d.flat=true
theorem kZ {ds es:List D}{f g:Bool}{al:List Nat}:k_ [.val (.tup ds) f al,.new es g]=.ok ⟨dn ds es,f&&g,al++[]⟩:=(rfl)
theorem mj {α:Type}(g k:α->D):∀ xs:List α,dn (xs.map g) (xs.map k)=xs.map fun a=>D.tup [g a,k a]
 | []=>rfl
 |a::r=>by rw[List.map_cons,List.map_cons,List.map_cons];unfold dn;rw[mj g k r]
theorem uz (d:D)(ds:List D):bW (d::ds) (some 1) none=ds:=by rw[uc];rfl
theorem h9 (h:Str)(cs:List Cel):D.flats (mi h cs)=true:=by unfold mi;rw[ba,aK _ _ fun _=>rfl];rfl
theorem qY (d:D)(ds:List D):atI (d::ds) 0=some d:=by
 unfold atI j_
 rw[if_pos (by decide),if_pos (by simp)];rfl
theorem B9 {w f:Str}{ws fs:List D}(hf:D.flats fs=true)(hne:w≠f):bI [.lst (.str w::ws),.tup (.str f::fs)]=.ok (.val (.bl false) true []):=by
 have b:(w==f)=false:=by simpa using hne
 have a0:atI (D.str w::ws) 0=some (.str w):=qY _ _
 have a1:atI (D.str f::fs) 0=some (.str f):=qY _ _
 have e1:cq (.str w) (.str f)=false:=b
 cases hl:((((ws.length+1:Nat)):Int)==((fs.length+1:Nat):Int)) with
 |true=>simp_arith[bI,eF,hf,nc,a0,a1,e1,cI,hl]
 |false=>simp_arith[bI,eF,hf,nc,a0,a1,e1,cI,hl]
theorem Al {h:Str}{cs:List Cel}(hl:cs.length<=10)(hc:∀ c∈cs,Wk c):bI [.lst (mw h cs),.tup (mi h cs)]=.ok (.val (.bl true) true []):=by
 have a0:atI (mw h cs) 0=some (.str h):=qY _ _
 have a1:atI (mi h cs) 0=some (.str h):=qY _ _
 have e1:cq (.str h) (.str h)=true:=cc _
 have e2:(((((mw h cs).length:Nat):Int)==(((mi h cs).length:Nat):Int)))=true:=by unfold mw mi;simp
 have c1:bW (mi h cs) (some 1) none=cs.map fun c=>.str c.l:=uz _ _
 have c2:bW (mw h cs) (some 1) none=cs.map fun c=>.str (T c.w):=uz _ _
 have f1:D.flats (cs.map fun c=>D.str c.l)=true:=aK _ _ fun _=>rfl
 have f2:D.flats (cs.map fun c=>D.str (T c.w))=true:=aK _ _ fun _=>rfl
 have hcm:=aZ (mk:=fun d=>gT 2 (ay (gN 0) (ay (gN 1) bj)) d true (cO [some (.val (.lst (mw h cs)) false),some (.val (.tup (mi h cs)) false)] 2 [])) (test:=fun _=>.ok true) (elt:=eB) (fun c:Cel=>D.tup [.str c.l,.str (T c.w)]) (fun _=>.val (.bl true) true []) cs
  fun c h=>⟨[some (.val (.str c.l) true),some (.val (.str (T c.w)) true)],rfl,rfl,by simp_arith[eB,(hc c h).mean]⟩
 simp_arith[bI,eF,h9,nc,a0,a1,e1,cI,e2,c1,c2,f1,f2,kZ,mj (fun c:Cel=>D.str c.l) (fun c=>.str (T c.w))]
 rw[b5 (by rw[List.length_map];omega) hcm,fE (fun _=>D.bl true),bu (aK (fun _=>D.bl true) cs fun _=>rfl)]
 simp_arith[ni,fW]
end W
namespace W
open PySem L2 L3
noncomputable def fD (p:Str×List D):D:=.tup (.str p.1::p.2)
noncomputable def ml (h:Str)(cs:List Cel):List (List Nat):=h.cps.toList::cs.map Cel.w
noncomputable def cL (h:Str)(cs:List Cel):List Nat:=jn [32] (ml h cs)
theorem Am (h:Str)(cs:List Cel):((ml h cs).map fun p=>D.str (T p))=mw h cs:=by
 unfold ml mw
 rw[List.map_cons,<- jZ,List.map_map];rfl
structure RwW (h:Str) (cs:List Cel):Prop where
 hd:alnum h.cps.toList=true
 hl:h.cps.toList.length<=8
 len:cs.length<=3
 wk:∀ c∈cs,Wk c
theorem RwW.no {h:Str}{cs:List Cel}(r:RwW h cs){c:Nat}(hc:c<48\/(57<c/\c<97)):∀ p∈ml h cs,c∉p:=fun p hp=>by
 rcases List.mem_cons.mp hp with rfl|hp
 ·exact pE r.hd hc
 ·obtain⟨x,hx,rfl⟩:=List.mem_map.mp hp
  exact pE (r.wk x hx).al hc
theorem RwW.tlen {h:Str}{cs:List Cel}(r:RwW h cs):(cL h cs).length<=36:=by
 have:=mh [32] (n:=8) (ml h cs) fun p hp=>by
  rcases List.mem_cons.mp hp with rfl|hp
  ·exact r.hl
  ·obtain⟨x,hx,rfl⟩:=List.mem_map.mp hp
   exact(r.wk x hx).len
 have hl:=r.len
 have e:(ml h cs).length=cs.length+1:=by unfold ml;simp
 rw[e]at this
 simp only[List.length_cons,List.length_nil]at this
 unfold cL
 omega
theorem RwW.split {h:Str} {cs:List Cel} (r:RwW h cs) {f:Bool} {al:List Nat}:cS (T (cL h cs)) (.val (.str " ") f al)=.ok (.new (mw h cs) true):=by
 rw[<- Am]
 have hl:=r.len
 have ht:=r.tlen
 exact h8 (c:=32) (st:=[]) Ak (by unfold ml;simp) (r.no (.inl (by decide))) (Nat.le_trans ht (by decide)) (by unfold ml;simp;omega) (by decide) (fun _ z=>by cases z)
theorem xC {h:Str}{cs:List Cel}(r:RwW h cs){forms:List (Str×List D)}(hF:∀ p∈forms,D.flats p.2=true/\(p.1=h->p.2=cs.map fun c=>.str c.l))(hin:h∈forms.map (·.1)) :
 bv [.str (T (cL h cs)),.tup (forms.map fD)]=.ok (.val (.tup (mi h cs)) true []):=by
 have hfl:D.flats (forms.map fD)=true:=bX fun d hd=>by
  obtain⟨p,hp,rfl⟩:=List.mem_map.mp hd
  show D.flats (.str p.1::p.2)=true
  rw[ba,(hF p hp).1];rfl
 obtain⟨i1,_⟩:=li fD (asg:=gN 3) (fr:=true) (body:=bq) (fun env=>∃ x:Option Sl,env=[some (.val (.str (T (cL h cs))) false),some (.val (.tup (forms.map fD)) false),some (.own (mw h cs) true),x]) (fun p=>decide (p.1=h)) (fun p=>.val (fD p) true []) forms
  [some (.val (.str (T (cL h cs))) false),some (.val (.tup (forms.map fD)) false),some (.own (mw h cs) true),none] ⟨_,rfl⟩ (by
   rintro p hp env ⟨x,rfl⟩
   refine⟨_,rfl,?_⟩
   have hpf:D.flats (.str p.1::p.2)=true:=by rw[ba,(hF p hp).1];rfl
   by_cases e:p.1=h
   ·refine .inl ⟨decide_eq_true e,?_⟩
    have e2:fD p=.tup (mi h cs):=by unfold fD mi;rw[e,(hF p hp).2 e]
    show bq [some (.val (.str (T (cL h cs))) false),some (.val (.tup (forms.map fD)) false),some (.own (mw h cs) true),some (.val (fD p) true)]=_
    rw[e2]
    simp_arith[bq,h9,Al (Nat.le_trans r.len (by decide)) r.wk]
   ·refine .inr ⟨decide_eq_false e,[some (.val (.str (T (cL h cs))) false),some (.val (.tup (forms.map fD)) false),some (.own (mw h cs) true),some (.val (fD p) true)],?_,_,rfl⟩
    show bq [some (.val (.str (T (cL h cs))) false),some (.val (.tup (forms.map fD)) false),some (.own (mw h cs) true),some (.val (fD p) true)]=_
    have hno:=B9 (w:=h) (f:=p.1) (ws:=cs.map fun c=>.str (T c.w)) (hF p hp).1 (Ne.symm e)
    have hno:bI [.lst (mw h cs),.tup (.str p.1::p.2)]=.ok (.val (.bl false) true []):=hno
    simp_arith[bq,fD,hpf,hno])
 obtain⟨p,hp,e⟩:=List.mem_map.mp hin
 have hfind:∃ q,forms.find? (fun p=>decide (p.1=h))=some q/\fD q=.tup (mi h cs):=by
  cases q:forms.find? (fun p=>decide (p.1=h)) with
  |none=>
   have:=List.find?_eq_none.mp q p hp
   simp[e]at this
  |some z=>
   have hz:z.1=h:=by have:=List.find?_some q;simpa using this
   have hm:=List.mem_of_find?_eq_some q
   exact⟨z,rfl,by unfold fD mi;rw[hz,(hF z hm).2 hz]⟩
 obtain⟨q,hq,eq⟩:=hfind
 have lp:=i1 q hq
 rw[eq]at lp
 simp_arith[bv,g9,h7,fX,r.split,hfl,lp]
theorem uA {ds:List D}{f:Bool}:lL [.new ds f]=.ok (mkV (.tup ds) f []):=(rfl)
theorem B_ (d:D)(ds:List D):bW (d::ds) none (some 1)=[d]:=by
 have:=lm (d::ds) 1
 simpa using this
theorem xD {h:Str}{cs:List Cel}(r:RwW h cs):bR [.str (T (cL h cs)),.tup (mi h cs)]=.ok (.val (.tup (qX h cs)) true []):=by
 have c1:bW (mi h cs) (some 1) none=cs.map fun c=>.str c.l:=uz _ _
 have c2:bW (mw h cs) (some 1) none=cs.map fun c=>.str (T c.w):=uz _ _
 have c3:bW (mw h cs) none (some 1)=[.str h]:=B_ _ _
 have f1:D.flats (cs.map fun c=>D.str c.l)=true:=aK _ _ fun _=>rfl
 have f2:D.flats (cs.map fun c=>D.str (T c.w))=true:=aK _ _ fun _=>rfl
 have f3:D.flats (cs.map Cel.d)=true:=bX fun d hd=>by obtain⟨c,hc,rfl⟩:=List.mem_map.mp hd;exact(r.wk c hc).flat
 have f4:D.flats (D.str h::cs.map Cel.d)=true:=by rw[ba,f3];rfl
 have hcm:=aZ (mk:=fun d=>gT 2 (ay (gN 0) (ay (gN 1) bj)) d true (cO [some (.val (.str (T (cL h cs))) false),some (.val (.tup (mi h cs)) false),some (.own (mw h cs) true),none] 2 [])) (test:=fun _=>.ok true) (elt:=E_words_kept_1) (fun c:Cel=>D.tup [.str c.l,.str (T c.w)]) (fun c=>.val c.d true []) cs
  fun c h=>⟨[some (.val (.str c.l) true),some (.val (.str (T c.w)) true)],rfl,rfl,(r.wk c h).keep⟩
 have hl:=r.len
 have hal:[D.str h].length+(cs.map Cel.d).length<=1000000:=by simp;omega
 simp_arith[bR,gZ,h7,fX,r.split,h9,c1,c2,f1,f2,kZ,mj (fun c:Cel=>D.str c.l) (fun c=>.str (T c.w))]
 rw[b5 (by rw[List.length_map];omega) hcm,fE Cel.d,bu f3]
 simp_arith[c3]
 rw[jN hal]
 rw[show[D.str h]++cs.map Cel.d=D.str h::cs.map Cel.d from rfl,bu f4]
 simp_arith[uA,f4,qX]
end W
namespace W
open PySem L2 L3
noncomputable def cV (w:Bool):Cel:=⟨"V",(wd w).cps.toList,.str (wd w)⟩
noncomputable def cN (l:Str)(n:Int):Cel:=⟨l,gb n.toNat,.int n⟩
noncomputable def cF (f:Str):Cel:=⟨"F",f.cps.toList,.str f⟩
theorem xE (l:Str) (x:Str) (hl:l="N"\/l="K"\/l="S"):E_words_kept_1 [some (.val (.str l) true),some (.val (.str x) true)]=m_ [.val (.str x) true []]:=by
 rcases hl with rfl|rfl|rfl<;>rfl
theorem nF {x:Str}{n:Int}(h:PySem.intText? x=some n)(hl:x.length<=100):m_ [.val (.str x) true []]=.ok (.val (.int n) true []):=by
 show(match PySem.intText? x with|some n=>if x.length<=100 then _ else _|none=>_)=_
 rw[h];exact if_pos hl
theorem pF {n:Nat}(h:n<300)(f:Bool)(al:List Nat):kStr [.val (.int (n:Int)) f al]=.ok (.val (.str (T (gb n))) true []):=by
 show(if ((n:Nat):Int).natAbs<1000000 then _ else _)=_
 rw[if_pos (by omega),B8]
theorem Cy (w:Bool):Wk (cV w):=by
 cases w
 ·exact⟨gu (by decide +kernel),rfl,by decide,by decide,fun f al=>by rw[show T (cV false).w=wd false from(jZ _).symm];rfl,rfl⟩
 ·exact⟨gu (by decide +kernel),rfl,by decide,by decide,fun f al=>by rw[show T (cV true).w=wd true from(jZ _).symm];rfl,rfl⟩
theorem Ca (l:Str) (x:Str) (hl:l="N"\/l="K") (h:c_ [.str x]=.ok (.val (.bl true) true [])):F_is_meant [.str l,.str x]=.ok (.val (.bl true) true []):=by
 rcases hl with rfl|rfl
 ·have a:cq (.str "N") (.str "F")=false:=rfl
  have b:cq (.str "N") (.str "V")=false:=rfl
  have c:cq (.str "N") (.str "S")=false:=rfl
  simp_arith[F_is_meant,ef,eU,a,b,c,h]
 ·have a:cq (.str "K") (.str "F")=false:=rfl
  have b:cq (.str "K") (.str "V")=false:=rfl
  have c:cq (.str "K") (.str "S")=false:=rfl
  simp_arith[F_is_meant,ef,eU,a,b,c,h]
theorem Cb {l:Str} (hl:l="N"\/l="K") {n:Int} (h0:0<=n) (h1:n<300):Wk (cN l n):=by
 obtain⟨k,rfl⟩ : ∃ k:Nat,n=k:=⟨n.toNat,by omega⟩
 have hk:k<300:=by omega
 obtain⟨c1,c2,c3,c4⟩:=hZ hk
 have e:(cN l (k:Int)).w=gb k:=rfl
 refine⟨by rw[e];exact Ca l _ hl c1,?_,by rw[e];exact c3,by rw[e];omega,fun f al=>by rw[e];exact pF hk f al,rfl⟩
 rw[e]
 show E_words_kept_1 [some (.val (.str l) true),some (.val (.str (T (gb k))) true)]=_
 rw[xE l _ (hl.elim .inl fun z=>.inr (.inl z))]
 exact nF c2 (by rw[dO];omega)
theorem uB {l:List Nat}(h:Nm l):alnum l=true:=by
 unfold alnum
 rw[List.all_eq_true]
 intro x hx
 have:=h.2 x hx
 simp only[Bool.or_eq_true,Bool.and_eq_true,decide_eq_true_eq]
 exact .inl this
theorem Cc (l:List Nat) (h:Nm l):F_is_meant [.str "F",.str (T l)]=.ok (.val (.bl true) true []):=by
 have a:cq (.str "F") (.str "F")=true:=cc _
 simp_arith[F_is_meant,ef,eU,a,j3 h]
theorem Eb {f:Str}(h:Nm f.cps.toList):Wk (cF f):=by
 have e:T (cF f).w=f:=(jZ f).symm
 refine⟨Cc _ h,?_,uB h,h.1.2,fun g al=>by rw[e];rfl,rfl⟩
 rw[e];rfl
set_option maxRecDepth 100000 in
theorem DO {n:Int} (h0:1<=n) (h1:n<=4):Wk (cN "S" n):=by
 have:n=1\/n=2\/n=3\/n=4:=by omega
 have key:∀ k:Nat,k<300->F_is_meant [.str "S",.str (T (gb k))]=.ok (.val (.bl true) true [])->Wk (cN "S" (k:Int)):=fun k hk hm=>by
  obtain⟨c1,c2,c3,c4⟩:=hZ hk
  have e:(cN "S" (k:Int)).w=gb k:=rfl
  refine⟨by rw[e];exact hm,?_,by rw[e];exact c3,by rw[e];omega,fun f al=>by rw[e];exact pF hk f al,rfl⟩
  rw[e]
  show E_words_kept_1 [some (.val (.str "S") true),some (.val (.str (T (gb k))) true)]=_
  rw[xE "S" _ (.inr (.inr rfl))]
  exact nF c2 (by rw[dO];omega)
 rcases this with rfl|rfl|rfl|rfl
 ·exact key 1 (by decide) (gu (by decide +kernel))
 ·exact key 2 (by decide) (gu (by decide +kernel))
 ·exact key 3 (by decide) (gu (by decide +kernel))
 ·exact key 4 (by decide) (gu (by decide +kernel))
noncomputable def Rw.hd:Rw->Str
 | .skip=>"skip"
 | .back=>"back"
 | .stop=>"stop"
 | .set _ _=>"set"
 | .any _=>"any"
 | .turn _=>"turn"
 | .iff _ _ _=>"if"
 | .go _=>"go"
 | .fork _=>"fork"
 | .call _=>"call"
noncomputable def Rw.cs:Rw->List Cel
 | .skip=>[]
 | .back=>[]
 | .stop=>[]
 | .set w n=>[cV w,cN "N" n]
 | .any w=>[cV w]
 | .turn w=>[cV w]
 | .iff w n k=>[cV w,cN "N" n,cN "K" k]
 | .go k=>[cN "K" k]
 | .fork k=>[cN "K" k]
 | .call f=>[cF f]
theorem h_ (r:Rw):r.d=qX r.hd r.cs:=by cases r<;>rfl
noncomputable def xF:List Str:=["skip", "back", "stop", "set", "any", "turn", "if", "go", "fork", "call"]
theorem uC:∀ h∈xF,alnum h.cps.toList=true/\h.cps.toList.length<=8:=by decide
theorem Cd (r:Rw):r.hd∈xF:=by cases r<;>(simp only[Rw.hd];decide)
noncomputable def rowsF:List (Str×List D):=[("skip",[]),("set",[.str "V",.str "N"]),("any",[.str "V"]),("turn",[.str "V"]),("if",[.str "V",.str "N",.str "K"]),("go",[.str "K"]),("fork",[.str "K"]),("call",[.str "F"]),("back",[]),("stop",[])]
theorem Dx {names:List Str}{sv ov many:Int}{last:Bool}{r:Rw}(h:ma names sv ov many last r)(hn:∀ n∈names,Nm n.cps.toList)(h1:sv<=4)(h2:ov<=4)(h3:many<=300):RwW r.hd r.cs:=by
 have ho:=uC _ (Cd r)
 have hv:∀ w,vl sv ov w<=4:=fun w=>by cases w<;>assumption
 have no:∀ c∈([]:List Cel),Wk c:=fun _ z=>by cases z
 have one:∀{a:Cel},Wk a->∀ c∈[a],Wk c:=fun ha c hc=>by rw[List.mem_singleton.mp hc];exact ha
 cases r with
 |skip=>exact⟨ho.1,ho.2,by decide,no⟩
 |back=>exact⟨ho.1,ho.2,by decide,no⟩
 |stop=>exact⟨ho.1,ho.2,by decide,no⟩
 |any w=>exact⟨ho.1,ho.2,by show 1<=3;decide,one (Cy w)⟩
 |turn w=>exact⟨ho.1,ho.2,by show 1<=3;decide,one (Cy w)⟩
 |set w n=>
  refine⟨ho.1,ho.2,by show 2<=3;decide,fun c hc=>?_⟩
  have:=hv w
  rcases List.mem_cons.mp hc with rfl|hc
  ·exact Cy w
  ·exact one (Cb (.inl rfl) h.1.1 (by have:=h.1.2;omega)) c hc
 |iff w n k=>
  refine⟨ho.1,ho.2,by show 3<=3;decide,fun c hc=>?_⟩
  have:=hv w
  rcases List.mem_cons.mp hc with rfl|hc
  ·exact Cy w
  ·rcases List.mem_cons.mp hc with rfl|hc
   ·exact Cb (.inl rfl) h.1.1.1 (by have:=h.1.1.2;omega)
   ·exact one (Cb (.inr rfl) h.1.2.1 (by have:=h.1.2.2;omega)) c hc
 |go k=>exact⟨ho.1,ho.2,by show 1<=3;decide,one (Cb (.inr rfl) h.1 (by have:=h.2;omega))⟩
 |fork k=>exact⟨ho.1,ho.2,by show 1<=3;decide,one (Cb (.inr rfl) h.1.1 (by have:=h.1.2;omega))⟩
 |call f=>exact⟨ho.1,ho.2,by show 1<=3;decide,one (Eb (hn f h.1))⟩
theorem oA:∀ p∈rowsF,D.flats p.2=true:=by
 intro p hp
 unfold rowsF at hp
 simp only[List.mem_cons,List.not_mem_nil,or_false]at hp
 rcases hp with rfl|rfl|rfl|rfl|rfl|rfl|rfl|rfl|rfl|rfl<;>rfl
theorem nG (r:Rw):(∀ p∈rowsF,p.1=r.hd->p.2=r.cs.map fun c=>.str c.l)/\r.hd∈rowsF.map (·.1):=by
 constructor
 ·intro p hp
  unfold rowsF at hp
  simp only[List.mem_cons,List.not_mem_nil,or_false]at hp
  rcases hp with rfl|rfl|rfl|rfl|rfl|rfl|rfl|rfl|rfl|rfl<;>cases r<;>intro e<;>first|rfl|(exfalso;revert e;simp only[Rw.hd];decide)
 ·cases r<;>(simp only[Rw.hd];decide)
noncomputable def Rw.tx (r:Rw):List Nat:=cL r.hd r.cs
theorem qZ {r:Rw}(h:RwW r.hd r.cs):g_ [.str (T r.tx)]=.ok (.val (.tup r.d) true []):=by
 have e1:=xC h (forms:=rowsF) (fun p hp=>⟨oA p hp,(nG r).1 p hp⟩) (nG r).2
 have e2:=xD h
 have e3:D.flats (qX r.hd r.cs)=true:=by rw[<- h_];exact(iD r).flats
 rw[h_]
 unfold Rw.tx
 have e1:bv [.str (T (cL r.hd r.cs)),.tup [.tup [.str "skip"],.tup [.str "set",.str "V",.str "N"],.tup [.str "any",.str "V"],.tup [.str "turn",.str "V"],.tup [.str "if",.str "V",.str "N",.str "K"],.tup [.str "go",.str "K"],.tup [.str "fork",.str "K"],.tup [.str "call",.str "F"],.tup [.str "back"],.tup [.str "stop"]]]=.ok (.val (.tup (mi r.hd r.cs)) true []):=e1
 simp_arith[g_,nw,e1,h9,e2,e3]
end W
namespace W
open PySem L2 L3
noncomputable abbrev Pq:=Str×List Rw
noncomputable def mx (rs:List Rw):List Nat:=jn [44,32] (rs.map Rw.tx)
noncomputable def cM (q:Pq):List Nat:=jn [58,32] [q.1.cps.toList,mx q.2]
structure PqW (q:Pq):Prop where
 nm:Nm q.1.cps.toList
 ne:0<q.2.length
 le:q.2.length<=300
 rw:∀ r∈q.2,RwW r.hd r.cs
theorem xG {r:Rw}(h:RwW r.hd r.cs){c:Nat}(hc:(c<48/\c≠32)\/(57<c/\c<97)):c∉r.tx:=fun z=>by
 rcases j6 z with z|⟨p,hp,z⟩
 ·simp at z;omega
 ·exact h.no (hc.imp (·.1) id) p hp z
theorem xH {rs:List Rw}(h:∀ r∈rs,RwW r.hd r.cs){c:Nat}(hc:(c<48/\c≠32/\c≠44)\/(57<c/\c<97)):c∉mx rs:=fun z=>by
 rcases j6 z with z|⟨p,hp,z⟩
 ·simp at z;omega
 ·obtain⟨r,hr,rfl⟩:=List.mem_map.mp hp
  exact xG (h r hr) (hc.imp (fun z=>⟨z.1,z.2.1⟩) id) z
theorem mn {rs:List Rw}(h:∀ r∈rs,RwW r.hd r.cs)(hl:rs.length<=300):(mx rs).length<=11400:=by
 have:=mh [44,32] (n:=36) (rs.map Rw.tx) fun p hp=>by
  obtain⟨r,hr,rfl⟩:=List.mem_map.mp hp
  exact(h r hr).tlen
 rw[List.length_map]at this
 simp only[List.length_cons,List.length_nil]at this
 unfold mx
 have h2:rs.length*(36+(0+1+1))<=300*(36+(0+1+1)):=Nat.mul_le_mul_right _ hl
 omega
theorem mo {q:Pq}(h:PqW q):(cM q).length<=11500:=by
 have h1:=mn h.rw h.le
 have h2:=h.nm.1.2
 have:(cM q).length=q.1.cps.toList.length+2+(mx q.2).length:=by unfold cM;rw[eG _ _ (by simp)];simp[jn];omega
 omega
theorem Ce {q:Pq}(h:PqW q):59∉cM q:=fun z=>by
 rcases j6 z with z|⟨p,hp,z⟩
 ·simp at z
 ·simp only[List.mem_cons,List.not_mem_nil,or_false]at hp
  rcases hp with rfl|rfl
  ·exact pE (uB h.nm) (.inr (by decide)) z
  ·exact xH h.rw (.inr (by decide)) z
theorem An:(": " : Str)=T [58,32]:=by decide
theorem Cf:(", " : Str)=T [44,32]:=by decide
theorem Ao:("; " : Str)=T [59,32]:=by decide
noncomputable def qD (q:Pq):D:=.tup [.str q.1,.lst (q.2.map fun r=>.tup r.d)]
theorem Dy (d e:D)(ds:List D):atI (d::e::ds) 1=some e:=by
 unfold atI j_
 rw[if_pos (by decide),if_pos (by simp;omega)];rfl
theorem wL {q:Pq}(h:PqW q):cn [.str (T (cM q))]=.ok (.val (qD q) true []):=by
 have h1:=mn h.rw h.le
 have h2:=mo h
 have hle:=h.le
 have hne:=h.ne
 have s1:∀(f:Bool)(al:List Nat),cS (T (cM q)) (.val (.str ": ") f al)=.ok (.new [.str (T q.1.cps.toList),.str (T (mx q.2))] true):=fun f al=>
  h8 (c:=58) (st:=[32]) (ps:=[q.1.cps.toList,mx q.2]) An (by simp) (fun p hp=>by
   simp only[List.mem_cons,List.not_mem_nil,or_false]at hp
   rcases hp with rfl|rfl
   ·exact pE (uB h.nm) (.inr (by decide))
   ·exact xH h.rw (.inr (by decide))) (by show(cM q).length<=100000;omega) (by show 2<=100000;decide) (by decide) (by decide)
 have s2:∀(f:Bool)(al:List Nat),cS (T (mx q.2)) (.val (.str ", ") f al)=.ok (.new ((q.2.map Rw.tx).map fun p=>D.str (T p)) true):=fun f al=>
  h8 (c:=44) (st:=[32]) (ps:=q.2.map Rw.tx) Cf (by intro z;have:(q.2.map Rw.tx).length=0:=(by rw[z];rfl);rw[List.length_map]at this;omega) (fun p hp=>by
   obtain⟨r,hr,rfl⟩:=List.mem_map.mp hp
   exact xG (h.rw r hr) (.inl (by decide))) (by show(mx q.2).length<=100000;omega) (by rw[List.length_map];omega) (by decide) (by decide)
 have e0:T q.1.cps.toList=q.1:=(jZ _).symm
 have nm:=j3 h.nm
 rw[e0]at s1 nm
 have a0:∀ y,atI [D.str q.1,y] 0=some (.str q.1):=fun y=>qY _ _
 have a1:∀ y,atI [D.str q.1,y] 1=some y:=fun y=>Dy _ _ _
 have hcm:=aZ (mk:=fun d=>gN 0 d true (cO [some (.val (.str (T (cM q))) false),some (.own [.str q.1,.str (T (mx q.2))] true)] 1 [])) (test:=fun _=>.ok true) (elt:=cz) (fun r:Rw=>D.str (T r.tx)) (fun r=>.val (.tup r.d) true []) q.2
  fun r hr=>⟨[some (.val (.str (T r.tx)) true)],rfl,rfl,by
   have fl:=(iD r).flats
   simp_arith[cz,qZ (h.rw r hr),fl]⟩
 have fl:D.flats (q.2.map fun r=>D.tup r.d)=true:=bX fun d hd=>by obtain⟨r,_,rfl⟩:=List.mem_map.mp hd;exact(iD r).flats
 simp_arith[cn,fM,h7,fX,s1,nc,cI,a0,nm]
 rw[s2,List.map_map]
 simp_arith
 rw[show List.map ((fun p=>D.str (T p)) ∘ Rw.tx) q.2=q.2.map (fun r=>D.str (T r.tx)) from rfl,b5 (by rw[List.length_map];omega) hcm,fE (fun r:Rw=>D.tup r.d),bu fl]
 simp_arith[qD]
end W
namespace W
open PySem L2 L3
theorem uD {α:Type}(g:α->D)(xs:List α):aT (xs.map fun a=>.fre (g a))=true:=by
 induction xs with
 |nil=>rfl
 |cons a r ih=>rw[List.map_cons,ld,ih];rfl
theorem Ap {α:Type}(g:α->D)(xs:List α):(xs.map fun a=>R.fre (g a)).map R.d=xs.map g:=by rw[List.map_map];rfl
noncomputable def dP (sv ov:Int):List Cel:=[cN "S" sv,cN "S" ov]
theorem wM {sv ov:Int} (h1:1<=sv) (h2:sv<=4) (h3:1<=ov) (h4:ov<=4):RwW "values" (dP sv ov):=by
 refine⟨by decide,by decide,by show 2<=3;decide,fun c hc=>?_⟩
 unfold dP at hc
 simp only[List.mem_cons,List.not_mem_nil,or_false]at hc
 rcases hc with rfl|rfl
 ·exact DO h1 h2
 ·exact DO h3 h4
noncomputable def uE (sv ov:Int) (qs:List Pq):List Nat:=jn [59,32] (cL "values" (dP sv ov)::qs.map cM)
noncomputable def dA (sv ov:Int)(qs:List Pq):D:=.tup [.int sv,.int ov,.lst (qs.map qD)]
theorem wN (q:Pq):(qD q).flat=false:=by unfold qD;simp only[fC,ba,jP,gJ,Bool.true_and,Bool.false_and]
theorem bZ (sv ov:Int)(qs:List Pq):(dA sv ov qs).flat=false:=by unfold dA;simp only[fC,ba,gI,gJ,Bool.true_and,Bool.false_and]
structure PgW (sv ov:Int) (qs:List Pq):Prop where
 s1:1<=sv
 s2:sv<=4
 o1:1<=ov
 o2:ov<=4
 n0:0<qs.length
 n4:qs.length<=4
 qw:∀ q∈qs,PqW q
section
variable {sv ov:Int}{qs:List Pq}
theorem PgW.len (h:PgW sv ov qs):(uE sv ov qs).length<=100000:=by
 have hv:=(wM h.s1 h.s2 h.o1 h.o2).tlen
 have h4:=h.n4
 have:=mh [59,32] (n:=11500) (cL "values" (dP sv ov)::qs.map cM) fun p hp=>by
  rcases List.mem_cons.mp hp with rfl|hp
  ·omega
  ·obtain⟨q,hq,rfl⟩:=List.mem_map.mp hp
   exact mo (h.qw q hq)
 simp only[List.length_cons,List.length_nil,List.length_map]at this
 have h2:(qs.length+1)*(11500+(0+1+1))<=5*(11500+(0+1+1)):=Nat.mul_le_mul_right _ (by omega)
 unfold uE
 omega
theorem q_ (h:PgW sv ov qs):dk [.str (T (uE sv ov qs))]=.ok (.val (dA sv ov qs) true []):=by
 have hv:=wM h.s1 h.s2 h.o1 h.o2
 have h4:=h.n4
 have h0:=h.n0
 have bA:=h.len
 have s1:∀(f:Bool)(al:List Nat),cS (T (uE sv ov qs)) (.val (.str "; ") f al)=.ok (.new ((cL "values" (dP sv ov)::qs.map cM).map fun p=>D.str (T p)) true):=fun f al=>
  h8 (c:=59) (st:=[32]) (ps:=cL "values" (dP sv ov)::qs.map cM) Ao (by simp) (fun p hp=>by
   rcases List.mem_cons.mp hp with rfl|hp
   ·intro z
    rcases j6 z with z|⟨p,hp,z⟩
    ·simp at z
    ·exact hv.no (.inr (by decide)) p hp z
   ·obtain⟨q,hq,rfl⟩:=List.mem_map.mp hp
    exact Ce (h.qw q hq)) bA (by simp;omega) (by decide) (by decide)
 rw[List.map_cons,List.map_map]at s1
 have e1:=xC hv (forms:=[("values",[.str "S",.str "S"])]) (fun p hp=>by
  rw[List.mem_singleton.mp hp]
  exact⟨rfl,fun _=>rfl⟩) (by simp)
 have e1:bv [.str (T (cL "values" (dP sv ov))),.tup [.tup [.str "values",.str "S",.str "S"]]]=.ok (.val (.tup (mi "values" (dP sv ov))) true []):=e1
 have e2:=xD hv
 have e2:bR [.str (T (cL "values" (dP sv ov))),.tup (mi "values" (dP sv ov))]=.ok (.val (.tup [.str "values",.int sv,.int ov]) true []):=e2
 have hcm:=fun(x y:Option Sl)=>aZ (mk:=fun d=>gN 0 d true (cO [x,some (.own (D.str (T (cL "values" (dP sv ov)))::qs.map fun q=>D.str (T (cM q))) true),y] 1 [])) (test:=fun _=>.ok true) (elt:=dw) (fun q:Pq=>D.str (T (cM q))) (fun q=>.fre (qD q)) qs
  fun q hq=>⟨[some (.val (.str (T (cM q))) true)],rfl,rfl,by simp_arith[dw,wL (h.qw q hq),wN]⟩
 have s1:∀(f:Bool)(al:List Nat),cS (T (uE sv ov qs)) (.val (.str "; ") f al)=.ok (.new (D.str (T (cL "values" (dP sv ov)))::qs.map fun q=>D.str (T (cM q))) true):=s1
 have a0:∀(d:D)(ds:List D),atI (d::ds) 0=some d:=qY
 have c1:=uz (D.str (T (cL "values" (dP sv ov)))) (qs.map fun q=>D.str (T (cM q)))
 have f2:D.flats (qs.map fun q=>D.str (T (cM q)))=true:=aK _ _ fun _=>rfl
 have hl1:((((qs.map fun q=>D.str (T (cM q))).length+1:Nat):Int)==1)=false:=by rw[List.length_map];simp;omega
 have i1:atI [D.str "values",D.int sv,D.int ov] 1=some (.int sv):=rfl
 have i2:atI [D.str "values",D.int sv,D.int ov] 2=some (.int ov):=rfl
 simp_arith[dk,iR,l_,h7,fX,s1,a0,e1,h9,e2,gK,eU,cI,hl1,i1,i2,c1,f2]
 rw[b5 (by rw[List.length_map];omega) (hcm _ _),Ap qD,uD,List.filter_nil,List.append_nil,o8]
 simp_arith[dA]
end
end W
namespace W
open PySem L2 L3
theorem uF (l:List Str):D.deps (l.map D.str)<=50:=Nat.le_trans (ud (n:=0) fun _=>Nat.le_refl 0) (Nat.zero_le _)
theorem ln (l:List Str):D.flats (l.map D.str)=true:=aK _ _ fun _=>rfl
theorem uG (neg:Bool)(x:Str)(l:List Str):lR neg (.str x) (.lst (l.map D.str))=.ok (.val (.bl (if neg then !decide (x∈l) else decide (x∈l))) true []):=by
 show xf neg (.str x) (l.map D.str)=_
 unfold xf
 rw[if_pos ⟨uF l,Nat.zero_le _⟩]
 have e:(l.map D.str).any (fun e=>cq e (.str x))=decide (x∈l):=by
  rw[List.any_map,Bool.eq_iff_iff,List.any_eq_true,decide_eq_true_eq]
  constructor
  ·rintro⟨y,hy,h⟩
   have:y=x:=by simpa[cq] using h
   exact this▸hy
  ·intro h
   exact⟨x,h,by simp[cq]⟩
 rw[e]
theorem j7 (x:Str)(l:List Str):lR true (.str x) (.lst (l.map D.str))=.ok (.val (.bl (!decide (x∈l))) true []):=uG true x l
end W
namespace W
open PySem L2 L3
theorem mq {t:En->Res Bool}{a aQ:En->Res Fl}{env:En}(h:t env=.ok false):aE (dX t a bt) aQ env=aQ env:=by rw[o7,yV,h];rfl
theorem uH {s aQ:En->Res Fl}{env env':En}(h:s env=.ok (.nx env')):aE s aQ env=aQ env':=by rw[o7,h];rfl
section
variable {sv ov:Int}{qs:List Pq}{names:List Str}
theorem Dz (w:Bool):dJ [("shared",0),("own",1)] (wd w)=some (if w then 1 else 0):=by cases w<;>decide
theorem Cg (w:Bool):atI [D.int sv,D.int ov,D.lst (qs.map qD)] (if w then 1 else 0)=some (.int (vl sv ov w)):=by cases w<;>rfl
theorem aY {rs:List Rw}{i:Int}{ds:List D}{hd:Str}{b1 b2 b3 b4 last:Bool}(ea:atI (rs.map fun r=>D.tup r.d) i=some (.tup ds))(fl:D.flats ds=true)(a0:atI ds 0=some (.str hd))(hlast:(i==(rs.length:Int)-1)=last)
 (q1:cq (.str hd) (.str "call")=b1) (c1:b1=true->∃ f,atI ds 1=some (.str f)/\f∈names)
 (q2:lR false (.str hd) (.tup [.str "set",.str "if"])=.ok (.val (.bl b2) true [])) (c2:b2=true->∃ w n,atI ds 1=some (.str (wd w))/\atI ds 2=some (.int n)/\n<vl sv ov w)
 (q3:lR false (.str hd) (.tup [.str "if",.str "go",.str "fork"])=.ok (.val (.bl b3) true [])) (c3:b3=true->∃ k,atI ds (-1)=some (.int k)/\k<rs.length)
 (q4:lR true (.str hd) (.tup [.str "go",.str "back",.str "stop"])=.ok (.val (.bl b4) true [])) (c4:last=true->b4=false) :
 bw [dA sv ov qs,.lst (names.map D.str),.lst (rs.map fun r=>.tup r.d),.int i]=.ok (.val .non true []):=by
 have hln:(((rs.map fun r=>D.tup r.d).length:Nat):Int)=rs.length:=by simp
 have s0:ca 4 (aR 2 (ah 3)) [some (.val (dA sv ov qs) false),some (.val (.lst (names.map D.str)) false),some (.val (.lst (rs.map fun r=>.tup r.d)) false),some (.val (.int i) false),none]=.ok (.nx [some (.val (dA sv ov qs) false),some (.val (.lst (names.map D.str)) false),some (.val (.lst (rs.map fun r=>.tup r.d)) false),some (.val (.int i) false),some (.val (.tup ds) true)]):=by simp_arith[ea,fl]
 show kP (b9 [some (.val (dA sv ov qs) false),some (.val (.lst (names.map D.str)) false),some (.val (.lst (rs.map fun r=>.tup r.d)) false),some (.val (.int i) false),none])=_
 unfold b9
 rw[uH s0,mq (t:=iU _ (vB (v2 fS _ _))) (by
  cases b1 with
  |false=>simp_arith[fl,a0,eU,q1]
  |true=>
   obtain⟨f,hf,hm⟩:=c1 rfl
   simp_arith[fl,a0,eU,q1,hf,ph,j7,hm]),mq (t:=iU _ (vB (v2 vq _ (aR 0 _)))) (by
  cases b2 with
  |false=>simp_arith[fl,a0,q2]
  |true=>
   obtain⟨w,n,h1,h2,h3⟩:=c2 rfl
   have h4:decide (vl sv ov w<=n)=false:=decide_eq_false (by omega)
   simp_arith[fl,a0,q2,h1,h2,t_ (Dz w),dA,Cg,h4]),mq (t:=iU _ (vB (v2 vq (aR 4 (sI _)) _))) (by
  cases b3 with
  |false=>simp_arith[fl,a0,q3]
  |true=>
   obtain⟨k,h1,h2⟩:=c3 rfl
   have h4:decide ((rs.length:Int)<=k)=false:=decide_eq_false (by omega)
   simp_arith[fl,a0,q3,h1,hln,h4]),yV]
 cases last with
 |false=>simp_arith[fl,cI,hln,hlast,eU]
 |true=>simp_arith[fl,cI,hln,hlast,eU,a0,q4,c4 rfl]
theorem rf {rs:List Rw}{i:Nat}{r:Rw}(e:rs[i]?=some r)(h:ma names sv ov rs.length (decide (i+1=rs.length)) r) :
 bw [dA sv ov qs,.lst (names.map D.str),.lst (rs.map fun r=>.tup r.d),.int (i:Nat)]=.ok (.val .non true []):=by
 have hi:=(List.getElem?_eq_some_iff.mp e).1
 have fl:=(iD r).flats
 have ea:atI (rs.map fun r=>D.tup r.d) (i:Int)=some (.tup r.d):=by
  unfold atI
  rw[om (by omega) (by rw[List.length_map];omega)]
  simp[e]
 have hlast:((i:Int)==(rs.length:Int)-1)=decide (i+1=rs.length):=by
  by_cases q:i+1=rs.length
  ·rw[decide_eq_true q];simp;omega
  ·rw[decide_eq_false q];simp;omega
 generalize decide (i+1=rs.length)=last at *
 have no:∀{P:Prop},false=true->P:=fun z=>by cases z
 have nl:∀{P:Prop},last=false->last=true->P:=fun a b=>by rw[a]at b;cases b
 cases r with
 |skip=>exact aY ea fl rfl hlast rfl no rfl no rfl no rfl (nl h)
 |back=>exact aY ea fl rfl hlast rfl no rfl no rfl no rfl fun _=>rfl
 |stop=>exact aY ea fl rfl hlast rfl no rfl no rfl no rfl fun _=>rfl
 |any w=>exact aY ea fl rfl hlast rfl no rfl no rfl no rfl (nl h)
 |turn w=>exact aY ea fl rfl hlast rfl no rfl no rfl no rfl (nl h)
 |set w n=>exact aY ea fl rfl hlast rfl no rfl (fun _=>⟨w,n,rfl,rfl,h.1.2⟩) rfl no rfl (nl h.2)
 |iff w n k=>exact aY ea fl rfl hlast rfl no rfl (fun _=>⟨w,n,rfl,rfl,h.1.1.2⟩) rfl (fun _=>⟨k,rfl,h.1.2.2⟩) rfl (nl h.2)
 |go k=>exact aY ea fl rfl hlast rfl no rfl no rfl (fun _=>⟨k,rfl,h.2⟩) rfl fun _=>rfl
 |fork k=>exact aY ea fl rfl hlast rfl no rfl no rfl (fun _=>⟨k,rfl,h.1.2⟩) rfl (nl h.2)
 |call f=>exact aY ea fl rfl hlast rfl (fun _=>⟨f,rfl,h.1⟩) rfl no rfl no rfl (nl h.2)
end
end W
namespace W
open PySem L2 L3
theorem uI:∀(xs a:List Str),(a++xs).Nodup->xs.foldl uR a=a++xs
 | [],a,_=>by simp
 |x::xs,a,h=>by
  have hx:a.contains x=false:=by
   cases q:a.contains x with
   |false=>rfl
   |true=>
    have hm:x∈a:=by simpa using q
    have:=List.nodup_append.mp h
    exact(this.2.2 x hm x (by simp) rfl).elim
  rw[List.foldl_cons]
  have e:uR a x=a++[x]:=by unfold uR;rw[hx];rfl
  rw[e,uI xs (a++[x]) (by simpa using h)]
  simp
theorem rg {xs:List Str}(h:xs.Nodup):ij xs=xs:=by
 have:=uI xs [] (by simpa using h)
 simpa[ij] using this
theorem uJ (f:En->Res R)(env:En):lQ f env=(f env).bind i9:=(rfl)
theorem oB {xs:List Str}{f:Bool}{al:List Nat}(h:xs.length<=1000)(nd:xs.Nodup):i9 (.val (.lst (xs.map D.str)) f al)=.ok (.val (.int (xs.length:Nat)) true []):=by
 show(match eL (xs.map D.str) with|some xs=>if xs.length<=1000 then _ else _|none=>_)=_
 rw[ip]
 show(if xs.length<=1000 then _ else _)=_
 rw[if_pos h,rg nd]
theorem Aq (f:En->Res R)(env:En):s_ f env=(f env).bind (sZ env):=(rfl)
theorem wO (env:En)(r:R):sZ env r=.ok (.nx env):=(rfl)
section
variable {sv ov:Int}{qs:List Pq}
noncomputable abbrev j8 (qs:List Pq):List Str:=qs.map (·.1)
theorem uK {t:Option Sl}{q:Pq}(hr:∀ i r,q.2[i]?=some r->ma (j8 qs) sv ov q.2.length (decide (i+1=q.2.length)) r){x y:Option Sl}:∃ z:Option Sl,
 cr (gN 5) true hI ((List.range q.2.length).map fun k=>D.int (k:Nat)) [t,some (.val (dA sv ov qs) true),some (.own ((j8 qs).map D.str) true),x,some (.val (.lst (q.2.map fun r=>.tup r.d)) true),y]
  = .ok (.nx [t,some (.val (dA sv ov qs) true),some (.own ((j8 qs).map D.str) true),x,some (.val (.lst (q.2.map fun r=>.tup r.d)) true),z]):=by
 obtain⟨env',lp,z,rfl⟩:=cB (fun k:Nat=>D.int k) (asg:=gN 5) (fr:=true) (body:=hI) (List.range q.2.length) (fun _ env=>∃ z:Option Sl,env=[t,some (.val (dA sv ov qs) true),some (.own ((j8 qs).map D.str) true),x,some (.val (.lst (q.2.map fun r=>.tup r.d)) true),z]) (List.range q.2.length) []
  [t,some (.val (dA sv ov qs) true),some (.own ((j8 qs).map D.str) true),x,some (.val (.lst (q.2.map fun r=>.tup r.d)) true),y] rfl ⟨_,rfl⟩
  (by
    rintro pre post k env ea ⟨z,rfl⟩
    have hk:k<q.2.length:=by
     have:k∈List.range q.2.length:=by rw[ea];simp
     exact List.mem_range.mp this
    have e:=rf (qs:=qs) (i:=k) (r:=q.2[k]) (by simp[hk]) (hr k _ (by simp[hk]))
    refine⟨_,[t,some (.val (dA sv ov qs) true),some (.own ((j8 qs).map D.str) true),x,some (.val (.lst (q.2.map fun r=>.tup r.d)) true),some (.val (.int (k:Nat)) true)],rfl,?_,_,rfl⟩
    ·simp_arith[hI,Aq,bZ,e,wO])
 exact⟨z,lp⟩
theorem uL (h:PgW sv ov qs)(hr:∀ q∈qs,∀ i r,q.2[i]?=some r->ma (j8 qs) sv ov q.2.length (decide (i+1=q.2.length)) r){t:Option Sl}:∃ x y z:Option Sl,
 cr (gT 2 (ay (gN 3) (ay (gN 4) bj))) true hJ (qs.map qD) [t,some (.val (dA sv ov qs) true),some (.own ((j8 qs).map D.str) true),none,none,none]
  = .ok (.nx [t,some (.val (dA sv ov qs) true),some (.own ((j8 qs).map D.str) true),x,y,z]):=by
 obtain⟨env',lp,x,y,z,rfl⟩:=cB qD (asg:=gT 2 (ay (gN 3) (ay (gN 4) bj))) (fr:=true) (body:=hJ) qs (fun _ env=>∃ x y z:Option Sl,env=[t,some (.val (dA sv ov qs) true),some (.own ((j8 qs).map D.str) true),x,y,z]) qs []
  [t,some (.val (dA sv ov qs) true),some (.own ((j8 qs).map D.str) true),none,none,none] rfl ⟨_,_,_,rfl⟩
  (by
    rintro pre post q env ea ⟨x,y,z,rfl⟩
    have hq:q∈qs:=by rw[ea];simp
    obtain⟨z',lp⟩:=uK (t:=t) (hr q hq) (x:=some (.val (.str q.1) true)) (y:=z)
    have hle:=(h.qw q hq).le
    have hln:(((q.2.map fun r=>D.tup r.d).length:Nat):Int)=(q.2.length:Nat):=by simp
    refine⟨[t,some (.val (dA sv ov qs) true),some (.own ((j8 qs).map D.str) true),some (.val (.str q.1) true),some (.val (.lst (q.2.map fun r=>.tup r.d)) true),z],[t,some (.val (dA sv ov qs) true),some (.own ((j8 qs).map D.str) true),some (.val (.str q.1) true),some (.val (.lst (q.2.map fun r=>.tup r.d)) true),z'],rfl,?_,_,_,_,rfl⟩
    ·simp_arith[hJ,hln]
     rw[o9 (by omega) (by omega),jQ,Int.toNat_natCast,i_]
     simp_arith[lp])
 exact⟨x,y,z,lp⟩
theorem wP (h:PgW sv ov qs) (nd:(j8 qs).Nodup) (hm:("main" : Str)∈j8 qs) (hr:∀ q∈qs,∀ i r,q.2[i]?=some r->ma (j8 qs) sv ov q.2.length (decide (i+1=q.2.length)) r) :
 l5 [.str (T (uE sv ov qs))]=.ok (.val (dA sv ov qs) true []):=by
 have h4:=h.n4
 have hl:(j8 qs).length<=1000:=by rw[List.length_map];omega
 obtain⟨x,y,z,lp⟩:=uL h hr (t:=some (.val (.str (T (uE sv ov qs))) false))
 have a2:atI [D.int sv,D.int ov,D.lst (qs.map qD)] 2=some (.lst (qs.map qD)):=rfl
 have hcm:=fun(a b c d e:Option Sl)=>aZ (mk:=fun d'=>gT 2 (ay (gN 0) (ay (gN 1) bj)) d' true (cO [a,some (.val (dA sv ov qs) true),b,c,d,e] 2 [])) (test:=fun _=>.ok true) (elt:=jW) qD (fun q=>.val (.str q.1) true []) qs
  fun q hq=>⟨[some (.val (.str q.1) true),some (.val (.lst (q.2.map fun r=>.tup r.d)) true)],rfl,rfl,by simp_arith[jW]⟩
 have fl:D.flats (qs.map fun q=>D.str q.1)=true:=aK _ _ fun _=>rfl
 have en:(qs.map fun q=>D.str q.1)=(j8 qs).map D.str:=by rw[List.map_map];rfl
 have hln:((((j8 qs).map D.str).length:Nat):Int)=((j8 qs).length:Nat):=by rw[List.length_map]
 have hlt:decide ((((j8 qs).length:Nat):Int)<(((j8 qs).length:Nat):Int))=false:=decide_eq_false (by omega)
 have iq:iV (dA sv ov qs) (.int 2) true []=.ok (.val (.lst (qs.map qD)) true []):=by
  unfold dA
  simp_arith[a2]
 simp_arith[l5,ue,q_ h,bZ,gK,tR,iq]
 rw[b5 (by rw[List.length_map];omega) (hcm _ _ _ _ _),fE (fun q:Pq=>D.str q.1),bu fl,en]
 simp_arith[uJ,oB hl nd,hln,hlt,j7,hm,bZ,iq,lp]
end
end W
namespace W
open PySem L2 L3
theorem ia (fo fa:En->Res R)(env:En):f8 fo fa env=(fo env).bind (jK fa env):=(rfl)
theorem fQ {fa:En->Res R}{env:En}{a:Str}{f:Bool}{al:List Nat}:jK fa env (.val (.str a) f al)=(fa env).bind (ir a):=(rfl)
theorem Ci (ps:List (List Nat)):eL (ps.map fun p=>D.str (T p))=some (ps.map T):=by
 have:=ip (ps.map T)
 rw[List.map_map]at this
 exact this
theorem uM {sep:Str}{n:Nat}(ps:List (List Nat))(h:∀ p∈ps,p.length<=n):iJ sep (ps.map T)<=ps.length*(n+sep.length):=by
 unfold iJ
 rw[List.length_map,Nat.mul_add]
 refine Nat.add_le_add ?_ (Nat.le_refl _)
 induction ps with
 |nil=>exact Nat.zero_le _
 |cons p r ih=>
  rw[List.map_cons,List.map_cons,List.sum_cons,List.length_cons,Nat.succ_mul,dO]
  have h1:=h p (by simp)
  have h2:=ih fun q hq=>h q (by simp[hq])
  omega
theorem wQ {x:Str}{sep:List Nat}{ps:List (List Nat)}{n:Nat}(hx:x=T sep)(h:ps≠[])(hn:∀ p∈ps,p.length<=n)(hl:ps.length*(n+sep.length)<=1000000) :
 iJ x (ps.map T)<=1000000/\Txt.join x (ps.map T)=T (jn sep ps):=by
 subst hx
 refine⟨Nat.le_trans (uM ps hn) (by rw[dO];exact hl),wH sep ps h⟩
theorem fY {x:Str}{sep:List Nat}{ps:List (List Nat)}{n:Nat}{r:R}(hr:r.d=.lst (ps.map fun p=>.str (T p)))(hx:x=T sep)(h:ps≠[])(hn:∀ p∈ps,p.length<=n)(hl:ps.length*(n+sep.length)<=1000000):ir x r=.ok (.val (.str (T (jn sep ps))) true []):=by
 obtain⟨a,b⟩:=wQ hx h hn hl
 unfold ir
 rw[hr]
 dsimp only
 rw[Ci]
 dsimp only
 rw[if_pos a,b]
theorem uN {w:Str}{cs:List Cel}(h:RwW w cs)(f:Bool):bY [some (.val (.tup (qX w cs)) f)]=.ok (.val (.str (T (cL w cs))) true []):=by
 have fl:D.flats (qX w cs)=true:=by
  unfold qX
  rw[ba,bX fun d hd=>by obtain⟨c,hc,rfl⟩:=List.mem_map.mp hd;exact(h.wk c hc).flat];rfl
 have hl:=h.len
 have ew:qX w cs=(((w.cps.toList,D.str w)::cs.map fun c=>(c.w,c.d)):List (List Nat×D)).map (·.2):=by
  unfold qX;rw[List.map_cons,List.map_map];rfl
 have hw:(((w.cps.toList,D.str w)::cs.map fun c=>(c.w,c.d)):List (List Nat×D)).map (·.1)=ml w cs:=by
  unfold ml;rw[List.map_cons,List.map_map];rfl
 generalize hps:((w.cps.toList,D.str w)::cs.map fun c=>(c.w,c.d):List (List Nat×D))=ps at ew hw
 have hks:∀ p∈ps,(∀(g:Bool)(al:List Nat),kStr [.val p.2 g al]=.ok (.val (.str (T p.1)) true []))/\p.2.flat=true:=by
  rw[<- hps]
  intro p hp
  rcases List.mem_cons.mp hp with rfl|hp
  ·exact⟨fun g al=>by rw[<- jZ];rfl,rfl⟩
  ·obtain⟨c,hc,rfl⟩:=List.mem_map.mp hp
   exact⟨(h.wk c hc).str,(h.wk c hc).flat⟩
 have hpl:ps.length<=4:=by rw[<- hps];simp;omega
 have hcm:=aZ (mk:=fun d=>gN 0 d true (cO [some (.val (.tup (qX w cs)) f)] 1 [])) (test:=fun _=>.ok true) (elt:=dt) (fun p:List Nat×D=>p.2) (fun p=>.val (.str (T p.1)) true []) ps
  fun p hp=>⟨[some (.val p.2 true)],rfl,rfl,by
   have:=hks p hp
   simp_arith[dt,this.2,this.1]⟩
 have f2:D.flats (ps.map fun p=>D.str (T p.1))=true:=aK _ _ fun _=>rfl
 have ed:(ps.map fun p=>D.str (T p.1))=(ml w cs).map fun p=>D.str (T p):=by rw[<- hw,List.map_map];rfl
 have hj:=fun g=>fY (x:=" ") (sep:=[32]) (ps:=ml w cs) (n:=8) (r:=.new ((ml w cs).map fun p=>D.str (T p)) g) rfl Ak (by unfold ml;simp) (fun p hp=>by
  rcases List.mem_cons.mp hp with rfl|hp
  ·exact h.hl
  ·obtain⟨c,hc,rfl⟩:=List.mem_map.mp hp
   exact(h.wk c hc).len) (by
   have:(ml w cs).length<=4:=by unfold ml;simp;omega
   have h2:(ml w cs).length*(8+[32].length)<=4*(8+[32].length):=Nat.mul_le_mul_right _ this
   have:4*(8+[32].length)<=1000000:=by decide
   omega)
 rw[ew]at fl hcm ⊢
 simp_arith[bY,ia,fQ,fl]
 rw[b5 (by rw[List.length_map];omega) hcm,fE (fun p:List Nat×D=>D.str (T p.1)),bu f2,ed]
 simp_arith[hj]
 rfl
theorem uO {r:Rw}(h:RwW r.hd r.cs)(f:Bool):bY [some (.val (.tup r.d) f)]=.ok (.val (.str (T r.tx)) true []):=by rw[h_];exact uN h f
end W
namespace W
open PySem L2 L3
section
variable {sv ov:Int}{qs:List Pq}
theorem uP {q:Pq} (h:PqW q) (r:R) (hr:r.d=.lst ((q.2.map Rw.tx).map fun p=>.str (T p))):ir ", " r=.ok (.val (.str (T (mx q.2))) true []):=by
 have hle:=h.le
 have hne:=h.ne
 refine fY (n:=36) hr Cf (by intro z;have:(q.2.map Rw.tx).length=0:=(by rw[z];rfl);rw[List.length_map]at this;omega) (fun p hp=>by
  obtain⟨r,hr,rfl⟩:=List.mem_map.mp hp
  exact(h.rw r hr).tlen) ?_
 rw[List.length_map]
 have h2:q.2.length*(36+[44,32].length)<=300*(36+[44,32].length):=Nat.mul_le_mul_right _ hle
 have:300*(36+[44,32].length)<=1000000:=by decide
 omega
theorem rh (h:PgW sv ov qs){P:Option Sl}:∃ x y:Option Sl,
 cr (gT 2 (ay (gN 2) (ay (gN 3) bj))) false cC (qs.map qD) [P,some (.own [.str (T (cL "values" (dP sv ov)))] true),none,none]
  = .ok (.nx [P,some (.own ((cL "values" (dP sv ov)::qs.map cM).map fun p=>.str (T p)) true),x,y]):=by
 have h4:=h.n4
 obtain⟨env',lp,x,y,rfl⟩:=cB qD (asg:=gT 2 (ay (gN 2) (ay (gN 3) bj))) (fr:=false) (body:=cC) qs (fun pre env=>∃ x y:Option Sl,env=[P,some (.own ((cL "values" (dP sv ov)::pre.map cM).map fun p=>.str (T p)) true),x,y]) qs []
  [P,some (.own [.str (T (cL "values" (dP sv ov)))] true),none,none] rfl ⟨_,_,rfl⟩
  (by
    rintro pre post q env ea ⟨x,y,rfl⟩
    have hq:q∈qs:=by rw[ea];simp
    have hw:=h.qw q hq
    have hle:=hw.le
    have hpl:pre.length+post.length+1=qs.length:=by have:=congrArg List.length ea;simp at this;omega
    have hcm:=fun(a b c:Option Sl)=>aZ (mk:=fun d=>gN 0 d false (cO [a,b,c,some (.val (.lst (q.2.map fun r=>.tup r.d)) false)] 1 [])) (test:=fun _=>.ok true) (elt:=bY) (fun r:Rw=>D.tup r.d) (fun r=>.val (.str (T r.tx)) true []) q.2
     fun r hr=>⟨[some (.val (.tup r.d) false)],rfl,rfl,uO (hw.rw r hr) false⟩
    have f2:D.flats (q.2.map fun r=>D.str (T r.tx))=true:=aK _ _ fun _=>rfl
    have ed:(q.2.map fun r=>D.str (T r.tx))=(q.2.map Rw.tx).map fun p=>D.str (T p):=by rw[List.map_map];rfl
    have hj:=uP hw (.new ((q.2.map Rw.tx).map fun p=>D.str (T p)) true) rfl
    have hn:=hw.nm.1.2
    have hr:=mn hw.rw hw.le
    have e0:q.1=T q.1.cps.toList:=jZ _
    have ad1:bc (.val (.str q.1) true []) (.val (.str ": ") true [])=.ok (.val (.str (T (q.1.cps.toList++[58,32]))) true []):=by
     rw[e0,An]
     exact cU (by simp at hn ⊢;omega)
    have ad2:bc (.val (.str (T (q.1.cps.toList++[58,32]))) true []) (.val (.str (T (mx q.2))) true [])=.ok (.val (.str (T (cM q))) true []):=by
     rw[cU (by simp at hn ⊢;omega)]
     have:cM q=q.1.cps.toList++[58,32]++mx q.2:=by unfold cM;rw[eG _ _ (by simp)];rfl
     rw[this]
    have hp:((cL "values" (dP sv ov)::pre.map cM).map fun p=>D.str (T p)).length<1000000:=by rw[List.length_map,List.length_cons,List.length_map];omega
    refine⟨[P,some (.own ((cL "values" (dP sv ov)::pre.map cM).map fun p=>.str (T p)) true),some (.val (.str q.1) false),some (.val (.lst (q.2.map fun r=>.tup r.d)) false)],[P,some (.own ((cL "values" (dP sv ov)::(pre++[q]).map cM).map fun p=>.str (T p)) true),some (.val (.str q.1) false),some (.val (.lst (q.2.map fun r=>.tup r.d)) false)],rfl,?_,_,_,rfl⟩
    have eacc:((cL "values" (dP sv ov)::(pre++[q]).map cM).map fun p=>D.str (T p))=((cL "values" (dP sv ov)::pre.map cM).map fun p=>D.str (T p))++[.str (T (cM q))]:=by simp
    rw[eacc]
    generalize ((cL "values" (dP sv ov)::pre.map cM).map fun p=>D.str (T p))=acc at *
    simp_arith[cC,ia,fQ,ad1]
    rw[b5 (by rw[List.length_map];omega) (hcm _ _ _),fE (fun r:Rw=>D.str (T r.tx)),bu f2,ed]
    simp_arith[hj,ad2,jO,hp])
 exact⟨x,y,lp⟩
theorem wR (h:PgW sv ov qs):dj [dA sv ov qs]=.ok (.val (.str (T (uE sv ov qs))) true []):=by
 have h4:=h.n4
 obtain⟨a,ha⟩ : ∃ a:Nat,sv=a:=⟨sv.toNat,by have:=h.s1;omega⟩
 obtain⟨b,hb⟩ : ∃ b:Nat,ov=b:=⟨ov.toNat,by have:=h.o1;omega⟩
 have a3:a<300:=by have:=h.s2;omega
 have b3:b<300:=by have:=h.o2;omega
 obtain⟨x,y,lp⟩:=rh h (P:=some (.val (dA sv ov qs) false))
 have hla:=(hZ a3).2.2.2
 have hlb:=(hZ b3).2.2.2
 have va:("values " : Str)=T (("values" : Str).cps.toList++[32]):=by decide
 have vl:(("values" : Str).cps.toList++[32]).length=7:=by decide
 have ks:∀ f al,kStr [.val (.int sv) f al]=.ok (.val (.str (T (gb a))) true []):=fun f al=>by rw[ha];exact pF a3 f al
 have ko:∀ f al,kStr [.val (.int ov) f al]=.ok (.val (.str (T (gb b))) true []):=fun f al=>by rw[hb];exact pF b3 f al
 have etx:cL "values" (dP sv ov)=("values" : Str).cps.toList++[32]++gb a++[32]++gb b:=by
  unfold cL ml dP
  have ea:(cN "S" sv).w=gb a:=by show gb sv.toNat=gb a;rw[ha];rfl
  have eb:(cN "S" ov).w=gb b:=by show gb ov.toNat=gb b;rw[hb];rfl
  rw[List.map_cons,List.map_cons,List.map_nil,ea,eb]
  simp[jn]
 have ad1:bc (.val (.str "values ") true []) (.val (.str (T (gb a))) true [])=.ok (.val (.str (T (("values" : Str).cps.toList++[32]++gb a))) true []):=by
  rw[va];exact cU (by omega)
 have ad2:bc (.val (.str (T (("values" : Str).cps.toList++[32]++gb a))) true []) (.val (.str " ") true [])=.ok (.val (.str (T (("values" : Str).cps.toList++[32]++gb a++[32]))) true []):=by
  rw[Ak];exact cU (by rw[List.length_append,vl];simp;omega)
 have ad3:bc (.val (.str (T (("values" : Str).cps.toList++[32]++gb a++[32]))) true []) (.val (.str (T (gb b))) true [])=.ok (.val (.str (T (cL "values" (dP sv ov)))) true []):=by
  rw[etx];exact cU (by rw[List.length_append,List.length_append,vl];simp;omega)
 have i0:iV (dA sv ov qs) (.int 0) false []=.ok (.val (.int sv) true []):=by unfold dA;simp_arith[show atI [D.int sv,D.int ov,D.lst (qs.map qD)] 0=some (.int sv) from rfl]
 have i1:iV (dA sv ov qs) (.int 1) false []=.ok (.val (.int ov) true []):=by unfold dA;simp_arith[show atI [D.int sv,D.int ov,D.lst (qs.map qD)] 1=some (.int ov) from rfl]
 have i2:iV (dA sv ov qs) (.int 2) false []=.ok (.val (.lst (qs.map qD)) false []):=by unfold dA;simp_arith[show atI [D.int sv,D.int ov,D.lst (qs.map qD)] 2=some (.lst (qs.map qD)) from rfl]
 have hj:=fun(f:Bool)(al:List Nat)=>fY (x:="; ") (sep:=[59,32]) (ps:=cL "values" (dP sv ov)::qs.map cM) (n:=11500) (r:=.val (.lst ((cL "values" (dP sv ov)::qs.map cM).map fun p=>D.str (T p))) f al) rfl Ao (by simp) (fun p hp=>by
  rcases List.mem_cons.mp hp with rfl|hp
  ·have:=(wM h.s1 h.s2 h.o1 h.o2).tlen;omega
  ·obtain⟨q,hq,rfl⟩:=List.mem_map.mp hp
   exact mo (h.qw q hq)) (by
   have:(cL "values" (dP sv ov)::qs.map cM).length<=5:=by simp;omega
   have h2:(cL "values" (dP sv ov)::qs.map cM).length*(11500+[59,32].length)<=5*(11500+[59,32].length):=Nat.mul_le_mul_right _ this
   exact Nat.le_trans h2 (by show 5*(11500+2)<=1000000;decide))
 generalize ((cL "values" (dP sv ov)::qs.map cM).map fun p=>D.str (T p))=L at lp hj
 simp_arith[dj,iO,bZ,i0,i1,i2,ks,ko,ad1,ad2,ad3,lp,ia,fQ,hj]
 rfl
end
end W
namespace W
open PySem L2 L3
noncomputable def Aw (q:Pq):Pr:=(q.1,q.2.map Rw.d)
theorem pG {names:List Str}{sv ov many:Int}{F:Nat->Bool}:∀(rs:List (List D))(k:Nat),(∀(i:Nat)(r:List D),rs[i]?=some r->RowC names sv ov many (F (k+i)) r)->∃ ws:List Rw,rs=ws.map Rw.d/\∀(i:Nat)(w:Rw),ws[i]?=some w->ma names sv ov many (F (k+i)) w
 | [],_,_=>⟨[],rfl,fun i w z=>by simp at z⟩
 |r::rs,k,h=>by
  obtain⟨w,e,hw⟩:=h 0 r rfl
  obtain⟨ws,e2,h2⟩:=pG rs (k+1) fun i r hr=>by
   have:=h (i+1) r (by simpa using hr)
   rwa [show k+1+i=k+(i+1) by omega]
  refine⟨w::ws,by rw[e,e2];rfl,fun i x hx=>?_⟩
  cases i with
  |zero=>simp at hx;subst hx;exact hw
  |succ i=>
   have:=h2 i x (by simpa using hx)
   rwa [show k+1+i=k+(i+1) by omega]at this
theorem nH {names:List Str}{sv ov:Int}:∀(ps:List Pr),(∀ p∈ps,Cw names sv ov p)->∃ qs:List Pq,ps=qs.map Aw/\∀ q∈qs,0<q.2.length/\q.2.length<=300/\∀(i:Nat)(r:Rw),q.2[i]?=some r->ma names sv ov q.2.length (decide (i+1=q.2.length)) r
 | [],_=>⟨[],rfl,fun _ z=>by cases z⟩
 |(n,rs)::ps,h=>by
  obtain⟨⟨_,a1,_,_⟩,a2,a3⟩:=h (n,rs) (by simp)
  obtain⟨qs,e,hq⟩:=nH ps fun p hp=>h p (by simp[hp])
  obtain⟨ws,e2,hw⟩:=pG (many:=rs.length) (F:=fun i=>decide (i+1=rs.length)) rs 0 (fun i r hr=>by
   have:=a2 i r hr
   rwa [Nat.zero_add])
  have hl:ws.length=rs.length:=by have:=congrArg List.length e2;simpa using this.symm
  refine⟨(n,ws)::qs,by rw[e,List.map_cons];unfold Aw;rw[<- e2],fun q hq'=>?_⟩
  rcases List.mem_cons.mp hq' with rfl|hq'
  ·refine⟨by show 0<ws.length;rw[hl];exact a1,by show ws.length<=300;rw[hl];exact a3,fun i r hr=>?_⟩
   have:=hw i r hr
   show ma names sv ov (ws.length:Nat) (decide (i+1=ws.length)) r
   rw[hl]
   rwa [Nat.zero_add]at this
  ·exact hq q hq'
theorem Cj (sv ov:Int)(qs:List Pq):wy sv ov (qs.map Aw)=dA sv ov qs:=by
 unfold wy dA
 have:(qs.map Aw).map gv=qs.map qD:=by
  rw[List.map_map]
  refine List.map_congr_left fun q _=>?_
  show gv (Aw q)=qD q
  unfold gv Aw qD
  simp only[List.map_map];rfl
 rw[this]
end W
namespace W
open PySem L2 L3
section
variable {sv ov:Int}{qs:List Pq}
theorem nI {w:Str}{cs:List Cel}(h:RwW w cs):b_ [.tup (qX w cs)]=.ok (.val (.str (T (cL w cs))) true []):=by
 have e:f8 (vC (.str " ")) (bV 1 [] (fj (ah 0)) (gN 0) (fun _=>.ok true) dr) [some (.val (.tup (qX w cs)) false)]=.ok (.val (.str (T (cL w cs))) true []):=uN h false
 show kP ((f8 (vC (.str " ")) (bV 1 [] (fj (ah 0)) (gN 0) (fun _=>.ok true) dr) [some (.val (.tup (qX w cs)) false)]).bind _)=_
 rw[e];rfl
theorem Ar (c:Str)(fa fb:En->Res R)(env:En):yT c fa fb env=(fa env).bind (na c fb env):=(rfl)
theorem wS {c:Str}{fb:En->Res R}{env:En}{a:Str}{f:Bool}{al:List Nat}(h:a.length+c.length<=1000000):na c fb env (.val (.str a) f al)=(fb env).bind (o6 c a):=if_pos h
theorem wT {c a b:Str}{f:Bool}{al:List Nat}(h:a.length+c.length+b.length<=1000000):o6 c a (.val (.str b) f al)=.ok (.val (.str (a++c++b)) true []):=if_pos h
theorem ri {q:Pq}(h:PqW q):bE [.str q.1,.lst (q.2.map fun r=>.tup r.d)]=.ok (.val (.str (T (cM q))) true []):=by
 have hle:=h.le
 have hn:=h.nm.1.2
 have hr:=mn h.rw h.le
 have hcm:=fun(a b:Option Sl)=>aZ (mk:=fun d=>gN 0 d false (cO [a,some (.val (.lst (q.2.map fun r=>.tup r.d)) false),b] 1 [])) (test:=fun _=>.ok true) (elt:=bU) (fun r:Rw=>D.tup r.d) (fun r=>.val (.str (T r.tx)) true []) q.2
  fun r hr=>⟨[some (.val (.tup r.d) false)],rfl,rfl,by
   have fl:=(iD r).flats
   have e:=nI (h.rw r hr)
   rw[<- h_]at e
   have e:b_ [.tup r.d]=.ok (.val (.str (T r.tx)) true []):=e
   simp_arith[bU,fl,e]⟩
 have f2:D.flats (q.2.map fun r=>D.str (T r.tx))=true:=aK _ _ fun _=>rfl
 have ed:(q.2.map fun r=>D.str (T r.tx))=(q.2.map Rw.tx).map fun p=>D.str (T p):=by rw[List.map_map];rfl
 have hj:=uP h (.new ((q.2.map Rw.tx).map fun p=>D.str (T p)) true) rfl
 have el:q.1.length=q.1.cps.toList.length:=by show q.1.cps.size=_;simp
 have cl:(": " : Str).length=2:=by decide
 have l1:q.1.length+(": " : Str).length<=1000000:=by omega
 have l2:q.1.length+(": " : Str).length+(T (mx q.2)).length<=1000000:=by have e3:(T (mx q.2)).length=(mx q.2).length:=dO _;omega
 have ep:q.1++(": " : Str)++T (mx q.2)=T (cM q):=by
  have e0:q.1=T q.1.cps.toList:=jZ _
  have:cM q=q.1.cps.toList++[58,32]++mx q.2:=by unfold cM;rw[eG _ _ (by simp)];rfl
  rw[this,<- uv,<- uv,<- e0,An]
 simp_arith[bE,di,ia,fQ]
 rw[b5 (by rw[List.length_map];omega) (hcm _ _),fE (fun r:Rw=>D.str (T r.tx)),bu f2,ed]
 simp_arith[hj,Ar,wS l1,wT l2,ep]
theorem uQ (h:PgW sv ov qs):ja [dA sv ov qs]=.ok (.val (.str (T (uE sv ov qs))) true []):=by
 have h4:=h.n4
 have hv:=wM h.s1 h.s2 h.o1 h.o2
 have ev:=nI hv
 have ev:b_ [.tup [.str "values",.int sv,.int ov]]=.ok (.val (.str (T (cL "values" (dP sv ov)))) true []):=ev
 have i0:iV (dA sv ov qs) (.int 0) false []=.ok (.val (.int sv) true []):=by unfold dA;simp_arith[show atI [D.int sv,D.int ov,D.lst (qs.map qD)] 0=some (.int sv) from rfl]
 have i1:iV (dA sv ov qs) (.int 1) false []=.ok (.val (.int ov) true []):=by unfold dA;simp_arith[show atI [D.int sv,D.int ov,D.lst (qs.map qD)] 1=some (.int ov) from rfl]
 have i2:iV (dA sv ov qs) (.int 2) false []=.ok (.val (.lst (qs.map qD)) false []):=by unfold dA;simp_arith[show atI [D.int sv,D.int ov,D.lst (qs.map qD)] 2=some (.lst (qs.map qD)) from rfl]
 have hcm:=fun(a b:Option Sl)=>aZ (mk:=fun d=>gT 2 (ay (gN 0) (ay (gN 1) bj)) d false (cO [a,b] 2 [])) (test:=fun _=>.ok true) (elt:=iz) qD (fun q=>.val (.str (T (cM q))) true []) qs
  fun q hq=>⟨[some (.val (.str q.1) false),some (.val (.lst (q.2.map fun r=>.tup r.d)) false)],rfl,rfl,by simp_arith[iz,ri (h.qw q hq)]⟩
 have f2:D.flats (qs.map fun q=>D.str (T (cM q)))=true:=aK _ _ fun _=>rfl
 have ed:D.str (T (cL "values" (dP sv ov)))::qs.map (fun q=>D.str (T (cM q)))=(cL "values" (dP sv ov)::qs.map cM).map fun p=>D.str (T p):=by rw[List.map_cons,List.map_map];rfl
 have f3:D.flats ((cL "values" (dP sv ov)::qs.map cM).map fun p=>D.str (T p))=true:=aK _ _ fun _=>rfl
 have hal:[D.str (T (cL "values" (dP sv ov)))].length+(qs.map fun q=>D.str (T (cM q))).length<=1000000:=by simp;omega
 have hj:=fY (x:="; ") (sep:=[59,32]) (ps:=cL "values" (dP sv ov)::qs.map cM) (n:=11500) (r:=.new ((cL "values" (dP sv ov)::qs.map cM).map fun p=>D.str (T p)) true) rfl Ao (by simp) (fun p hp=>by
  rcases List.mem_cons.mp hp with rfl|hp
  ·have:=hv.tlen;omega
  ·obtain⟨q,hq,rfl⟩:=List.mem_map.mp hp
   exact mo (h.qw q hq)) (by
   have:(cL "values" (dP sv ov)::qs.map cM).length<=5:=by simp;omega
   have h2:(cL "values" (dP sv ov)::qs.map cM).length*(11500+[59,32].length)<=5*(11500+[59,32].length):=Nat.mul_le_mul_right _ this
   exact Nat.le_trans h2 (by show 5*(11500+2)<=1000000;decide))
 simp_arith[ja,pj,bZ,i0,i1,i2,ev,gK,ia,fQ]
 rw[b5 (by rw[List.length_map];omega) (hcm _ _),fE (fun q:Pq=>D.str (T (cM q))),bu f2]
 simp_arith
 rw[jN hal,show[D.str (T (cL "values" (dP sv ov)))]++qs.map (fun q=>D.str (T (cM q)))=_ from ed,bu f3,jQ,hj]
 rfl
end
end W
namespace W
open PySem L2 L3
theorem As (ns:List Int)(hl:ns.length<=63):ny [.lst (ns.map .int)]=.ok (.val (.bl true) true []):=by
 obtain⟨cs,c1,ec⟩:=um ns hl (j9 ns 0)
 obtain⟨names,n1,n2,n3,n4,n5,en⟩:=ux (j9 ns 1)
 have v1:=dc (j9 ns 0) 1033 4 (by decide)
 have v2:=dc (j9 ns 0) 1039 4 (by decide)
 have u1:=de (j9 ns 0) 1033 4 (by decide)
 have u2:=de (j9 ns 0) 1039 4 (by decide)
 obtain⟨ps,r1,r2,ep⟩:=oq (cs:=cs) (seed:=j9 ns 0) (sv:=1+dg (j9 ns 0) 1033 4) (ov:=1+dg (j9 ns 0) 1039 4) n1 n2 (fun n hn=>by
  have:=(n4 n hn).1.2
  show n.cps.size<=20
  simp at this;omega) (by omega) (by omega) c1
 have hps:ps.length=names.length:=by rw[<- r1];simp
 have sm:=wz (1+dg (j9 ns 0) 1033 4) (1+dg (j9 ns 0) 1039 4) ps (by omega) fun p hp=>(r2 p hp).1
 obtain⟨qs,e,hq⟩:=nH ps r2
 have hnm:j8 qs=names:=by rw[<- r1,e,List.map_map];rfl
 have hql:qs.length=names.length:=by rw[<- hnm];simp
 have W:PgW (1+dg (j9 ns 0) 1033 4) (1+dg (j9 ns 0) 1039 4) qs:=by
  refine⟨by omega,by omega,by omega,by omega,by omega,by omega,fun q hq'=>?_⟩
  obtain⟨b1,b2,b3⟩:=hq q hq'
  refine⟨n4 q.1 (by rw[<- hnm];exact List.mem_map.mpr ⟨q,hq',rfl⟩),b1,b2,fun r hr=>?_⟩
  obtain⟨i,hi⟩:=List.mem_iff_getElem?.mp hr
  exact Dx (b3 i r hi) n4 (by omega) (by omega) (by omega)
 have tx:=wR W
 have rd:=wP W (by rw[hnm];exact n3) (by rw[hnm];exact n5) fun q hq'=>by rw[hnm];exact(hq q hq').2.2
 rw[e,Cj]at sm ep
 have ln:D.flats (names.map D.str)=true:=aK _ _ fun _=>rfl
 have sh:=uQ W
 have es:cq (.str (T (uE (1+dg (j9 ns 0) 1033 4) (1+dg (j9 ns 0) 1039 4) qs))) (.str (T (uE (1+dg (j9 ns 0) 1033 4) (1+dg (j9 ns 0) 1039 4) qs)))=true:=cc _
 simp_arith[ny,xt,ug ns 0 (by decide),pA,aP (j9 ns 0) 1033 4 (by decide) (by decide),aP (j9 ns 0) 1039 4 (by decide) (by decide)]
 simp_arith[pz,ug ns 1 (by decide),en,ng,ln]
 have hlf:(D.lst (cs.map D.int)).flat=false:=rfl
 simp_arith[px,ec,gH,hlf,ep,bZ]
 simp_arith[pr,ec,gH,hlf,ep,bZ]
 simp_arith[pq,bZ,sh,gK]
 simp_arith[pp,l_,bZ,tx,nc,es]
 simp_arith[pk,bZ,rd,sm,gH]
end W
open PySem PySem.W PyProof.Rows
set_option maxRecDepth 100000 in
set_option maxHeartbeats 0 in
theorem PySem.Challenge.cw_callwalk_k52_shown_read_again_holds : PySem.Challenge.rw_callwalk_k52_shown_read_again.Holds := by
 w_on;o_law;k_head;(case hw=>w_witness2)
 k_fill
 refine' L2.sd (l:=PySem.Challenge.rw_callwalk_k52_shown_read_again) (n:=63) (k:=9) (x:="_law_script") (CX:=fun w=>L2.fR PySem.Challenge.pw_callwalk_k52_shown_read_again w) (sp:=fun _=>L3.Ct W.ny) (kts:=_) rfl (by decide) rfl ⟨rfl,by decide,by decide⟩ (fun w h Y=>PySem.W.kIn_of Y) ?kT ?kN ?kL ?F ?S ?C
 case kT=>
  intro w
  refine' W.B4 ?g_VALUES ?d_VALUES ?g_ROWS ?d_ROWS ?d_ROWS_0 ?d_ROWS_1 ?d_ROWS_2 ?d_ROWS_3 ?d_ROWS_4 ?d_ROWS_5 ?d_ROWS_6 ?d_ROWS_7 ?d_ROWS_8 ?d_ROWS_9
  (case g_VALUES=>k_is)
  (case d_VALUES=>k_is)
  (case g_ROWS=>k_is)
  (case d_ROWS=>k_is)
  (case d_ROWS_0=>k_is)
  (case d_ROWS_1=>k_is)
  (case d_ROWS_2=>k_is)
  (case d_ROWS_3=>k_is)
  (case d_ROWS_4=>k_is)
  (case d_ROWS_5=>k_is)
  (case d_ROWS_6=>k_is)
  (case d_ROWS_7=>k_is)
  (case d_ROWS_8=>k_is)
  (case d_ROWS_9=>k_is)
 case kN=>exact⟨by decide,by decide⟩
 case kL=>exact fun w=>⟨by rfl,by rfl,by rfl⟩
 case F=>
  intro w mg fa h KX G hmg hT
  refine W.zU hmg ?_
  refine' Exists.imp (fun _ _=>True.intro) (W.B3 KX G (L2.vm hT) ?a_a ?l_a ?c_a ?k_a ?a_b ?l_b ?c_b ?k_b ?a_c ?l_c ?c_c ?k_c ?a_d ?l_d ?c_d ?k_d ?a_e ?l_e ?c_e ?k_e ?a_f ?l_f ?c_f ?k_f ?a_g ?l_g ?c_g ?k_g ?a_h ?l_h ?c_h ?k_h ?a_i ?l_i ?c_i ?k_i ?a_j ?l_j ?c_j ?k_j ?a_k ?l_k ?c_k ?k_k ?a_l ?l_l ?c_l ?k_l ?a_m ?l_m ?c_m ?k_m ?a_n ?l_n ?c_n ?k_n ?a_o ?l_o ?c_o ?k_o ?a_p ?l_p ?c_p ?k_p ?a_q ?l_q ?c_q ?k_q ?a_r ?l_r ?c_r ?k_r ?a_s ?l_s ?c_s ?k_s ?a_t ?l_t ?c_t ?k_t ?a_u ?l_u ?c_u ?k_u ?a_v ?l_v ?c_v ?k_v ?a_w ?l_w ?c_w ?k_w ?a_x ?l_x ?c_x ?k_x ?a_y ?l_y ?c_y ?k_y ?a_z ?l_z ?c_z ?k_z ?a_A ?l_A ?c_A ?k_A ?z_all ?z_bool ?z_enumerate ?z_int ?z_isinstance ?z_len ?z_list ?z_range ?z_set ?z_str ?z_tuple ?z_zip ?b_Twice ?e_Twice ?b_NoName ?e_NoName ?b_NoText ?e_NoText ?b_NoValue ?e_NoValue ?b_NoRow ?e_NoRow ?g_PLACES ?d_PLACES ?m_PLACES_0 ?m_PLACES_1 ?g_VALUES ?q_VALUES ?g_ROWS ?q_ROWS ?n_PLACES)
  (case a_a=>k_is)
  (case l_a=>k_is)
  (case c_a=>k_is)
  (case k_a=>k_is)
  (case a_b=>k_is)
  (case l_b=>k_is)
  (case c_b=>k_is)
  (case k_b=>k_is)
  (case a_c=>k_is)
  (case l_c=>k_is)
  (case c_c=>k_is)
  (case k_c=>k_is)
  (case a_d=>k_is)
  (case l_d=>k_is)
  (case c_d=>k_is)
  (case k_d=>k_is)
  (case a_e=>k_is)
  (case l_e=>k_is)
  (case c_e=>k_is)
  (case k_e=>k_is)
  (case a_f=>k_is)
  (case l_f=>k_is)
  (case c_f=>k_is)
  (case k_f=>k_is)
  (case a_g=>k_is)
  (case l_g=>k_is)
  (case c_g=>k_is)
  (case k_g=>k_is)
  (case a_h=>k_is)
  (case l_h=>k_is)
  (case c_h=>k_is)
  (case k_h=>k_is)
  (case a_i=>k_is)
  (case l_i=>k_is)
  (case c_i=>k_is)
  (case k_i=>k_is)
  (case a_j=>k_is)
  (case l_j=>k_is)
  (case c_j=>k_is)
  (case k_j=>k_is)
  (case a_k=>k_is)
  (case l_k=>k_is)
  (case c_k=>k_is)
  (case k_k=>k_is)
  (case a_l=>k_is)
  (case l_l=>k_is)
  (case c_l=>k_is)
  (case k_l=>k_is)
  (case a_m=>k_is)
  (case l_m=>k_is)
  (case c_m=>k_is)
  (case k_m=>k_is)
  (case a_n=>k_is)
  (case l_n=>k_is)
  (case c_n=>k_is)
  (case k_n=>k_is)
  (case a_o=>k_is)
  (case l_o=>k_is)
  (case c_o=>k_is)
  (case k_o=>k_is)
  (case a_p=>k_is)
  (case l_p=>k_is)
  (case c_p=>k_is)
  (case k_p=>k_is)
  (case a_q=>k_is)
  (case l_q=>k_is)
  (case c_q=>k_is)
  (case k_q=>k_is)
  (case a_r=>k_is)
  (case l_r=>k_is)
  (case c_r=>k_is)
  (case k_r=>k_is)
  (case a_s=>k_is)
  (case l_s=>k_is)
  (case c_s=>k_is)
  (case k_s=>k_is)
  (case a_t=>k_is)
  (case l_t=>k_is)
  (case c_t=>k_is)
  (case k_t=>k_is)
  (case a_u=>k_is)
  (case l_u=>k_is)
  (case c_u=>k_is)
  (case k_u=>k_is)
  (case a_v=>k_is)
  (case l_v=>k_is)
  (case c_v=>k_is)
  (case k_v=>k_is)
  (case a_w=>k_is)
  (case l_w=>k_is)
  (case c_w=>k_is)
  (case k_w=>k_is)
  (case a_x=>k_is)
  (case l_x=>k_is)
  (case c_x=>k_is)
  (case k_x=>k_is)
  (case a_y=>k_is)
  (case l_y=>k_is)
  (case c_y=>k_is)
  (case k_y=>k_is)
  (case a_z=>k_is)
  (case l_z=>k_is)
  (case c_z=>k_is)
  (case k_z=>k_is)
  (case a_A=>k_is)
  (case l_A=>k_is)
  (case c_A=>k_is)
  (case k_A=>k_is)
  (case z_all=>k_is)
  (case z_bool=>k_is)
  (case z_enumerate=>k_is)
  (case z_int=>k_is)
  (case z_isinstance=>k_is)
  (case z_len=>k_is)
  (case z_list=>k_is)
  (case z_range=>k_is)
  (case z_set=>k_is)
  (case z_str=>k_is)
  (case z_tuple=>k_is)
  (case z_zip=>k_is)
  (case b_Twice=>k_is)
  (case e_Twice=>k_exc)
  (case b_NoName=>k_is)
  (case e_NoName=>k_exc)
  (case b_NoText=>k_is)
  (case e_NoText=>k_exc)
  (case b_NoValue=>k_is)
  (case e_NoValue=>k_exc)
  (case b_NoRow=>k_is)
  (case e_NoRow=>k_exc)
  (case g_PLACES=>k_is)
  (case d_PLACES=>k_is)
  (case m_PLACES_0=>rfl)
  (case m_PLACES_1=>rfl)
  (case g_VALUES=>k_is)
  (case q_VALUES=>exact⟨_,_,rfl,L2.bx (List.mem_of_getElem? (i:=0) rfl) hT,⟨_,_,rfl,rfl,⟨_,_,rfl,rfl,⟨_,_,rfl,rfl,rfl⟩⟩⟩⟩)
  (case g_ROWS=>k_is)
  (case q_ROWS=>exact⟨_,_,rfl,L2.bx (List.mem_of_getElem? (i:=1) rfl) hT,⟨_,_,rfl,⟨_,_,rfl,L2.bx (List.mem_of_getElem? (i:=2) rfl) hT,⟨_,_,rfl,rfl,rfl⟩⟩,⟨_,_,rfl,⟨_,_,rfl,L2.bx (List.mem_of_getElem? (i:=3) rfl) hT,⟨_,_,rfl,rfl,⟨_,_,rfl,rfl,⟨_,_,rfl,rfl,rfl⟩⟩⟩⟩,⟨_,_,rfl,⟨_,_,rfl,L2.bx (List.mem_of_getElem? (i:=4) rfl) hT,⟨_,_,rfl,rfl,⟨_,_,rfl,rfl,rfl⟩⟩⟩,⟨_,_,rfl,⟨_,_,rfl,L2.bx (List.mem_of_getElem? (i:=5) rfl) hT,⟨_,_,rfl,rfl,⟨_,_,rfl,rfl,rfl⟩⟩⟩,⟨_,_,rfl,⟨_,_,rfl,L2.bx (List.mem_of_getElem? (i:=6) rfl) hT,⟨_,_,rfl,rfl,⟨_,_,rfl,rfl,⟨_,_,rfl,rfl,⟨_,_,rfl,rfl,rfl⟩⟩⟩⟩⟩,⟨_,_,rfl,⟨_,_,rfl,L2.bx (List.mem_of_getElem? (i:=7) rfl) hT,⟨_,_,rfl,rfl,⟨_,_,rfl,rfl,rfl⟩⟩⟩,⟨_,_,rfl,⟨_,_,rfl,L2.bx (List.mem_of_getElem? (i:=8) rfl) hT,⟨_,_,rfl,rfl,⟨_,_,rfl,rfl,rfl⟩⟩⟩,⟨_,_,rfl,⟨_,_,rfl,L2.bx (List.mem_of_getElem? (i:=9) rfl) hT,⟨_,_,rfl,rfl,⟨_,_,rfl,rfl,rfl⟩⟩⟩,⟨_,_,rfl,⟨_,_,rfl,L2.bx (List.mem_of_getElem? (i:=10) rfl) hT,⟨_,_,rfl,rfl,rfl⟩⟩,⟨_,_,rfl,⟨_,_,rfl,L2.bx (List.mem_of_getElem? (i:=11) rfl) hT,⟨_,_,rfl,rfl,rfl⟩⟩,rfl⟩⟩⟩⟩⟩⟩⟩⟩⟩⟩⟩)
  (case n_PLACES=>rfl)
 case S=>exact fun w H a ns hl hS=>L3.yC (fun ns hn=>⟨_,_,W.As ns hn⟩) H a ns hl hS
 case C=>exact fun _ _ _ _ _ z=>L3.yD z
