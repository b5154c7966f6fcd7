import PyProof.Rows.All
import Wide.All
import OpenK.AllK
import Wide.FinOn
import Lean
import PyProof.EqAt
import PyProof.EqKinds
import PyProof.TupleCall
import PyProof.ZipIter
import PyProof.AttrMissHeap
import PyProof.Walks
import PyProof.WalksS
import PySem.SetTable
import KE.KSortTup
import KE.KRevIter
import PyProof.Rows.SetFrom
import PyProof.CollectWalk
import PyProof.DictWalks
import PyProof.DictItems
import KE.KDictList
import PyProof.ListRange
import PyProof.EqAt
import PyProof.WalkInts
import PyProof.StrBlockG
import PyProof.SumWalk
import PyProof.Rows.TupIter
import PyProof.StrLawsIdx
import PyProof.CallStr
import PyProof.StrCalls2
import PyProof.StrWalks
import KE.KIntText
import PyProof.SetRoads
import PyProof.StrLawsTight
import PyProof.Rows.FStr
import PyProof.Draws
import PyProof.EnumMake
import PyProof.ConsumeWalk
import PySem.Challenge.RW_callwalk_k55_rules_of_rows
set_option Elab.async false
set_option linter.all false
set_option genSizeOf false
set_option genSizeOfSpec false
set_option compiler.extract_closed false
set_option maxRecDepth 100000
set_option maxHeartbeats 4000000
set_option bootstrap.genMatcherCode false
theorem autoR (h : True := by rfl) : True := h
theorem autoD (h : True := by decide) : True := h
theorem autoI (h : ∀ u : Unit, u = u := by intro _; rfl) : True := True.intro

namespace L2
open PySem PySem.Spec PyProof.Rows
noncomputable abbrev Key:=Sum Int Str
noncomputable def ln:Key->Value->Bool
 | .inl k,v=>Value.isInt k v
 | .inr x,v=>Value.isStrOf x v
noncomputable def CL (w:World):Key->Int
 | .inl k=>hashInt k
 | .inr x=>hashStr w x
theorem br:∀{k:Key}{v:Value},ln k v=true->(∃ i t,k=Sum.inl i/\v=Value.int i t)\/(∃ x t,k=Sum.inr x/\v=Value.str x t)
 | .inl i,v,h=>by
  obtain⟨t,e⟩:=Value.isInt_shape (k:=i) (v:=v) h
  exact .inl ⟨i,t,rfl,e⟩
 | .inr x,v,h=>by
  obtain⟨t,e⟩:=Value.isStrOf_shape (x:=x) (v:=v) h
  exact .inr ⟨x,t,rfl,e⟩
theorem qK (i:Int)(t:Tok):ln (.inl i) (.int i t)=true:=by simp[ln,Value.isInt]
theorem qL (x:Str)(t:Tok):ln (.inr x) (.str x t)=true:=by simp[ln,Value.isStrOf]
theorem x9 (a b:Int):decide ((Sum.inl a:Key)=Sum.inl b)=(a==b):=by
 by_cases e:a=b
 ·subst e;simp
 ·have h:¬ (Sum.inl a:Key)=Sum.inl b:=fun q=>e (Sum.inl.inj q)
  rw[decide_eq_false h]
  exact(beq_eq_false_iff_ne.mpr e).symm
theorem x_ (a b:Str):decide ((Sum.inr a:Key)=Sum.inr b)=decide (a=b):=by
 by_cases e:a=b
 ·subst e;simp
 ·have h:¬ (Sum.inr a:Key)=Sum.inr b:=fun q=>e (Sum.inr.inj q)
  rw[decide_eq_false h,decide_eq_false e]
theorem ya (a:Int)(b:Str):decide ((Sum.inl a:Key)=Sum.inr b)=false:=decide_eq_false (fun q=>nomatch q)
theorem yb (a:Str)(b:Int):decide ((Sum.inr a:Key)=Sum.inl b)=false:=decide_eq_false (fun q=>nomatch q)
noncomputable def aT (prog:Program)(w:World):PySem.KeyKind prog w Key where
 is:=ln
 hash:=CL w
 inj:=fun v a b ha hb=>by
  rcases br ha with⟨i,t,rfl,rfl⟩|⟨x,t,rfl,rfl⟩
  ·rcases br hb with⟨j,u,rfl,e⟩|⟨y,u,rfl,e⟩
   ·injection e with e1 _;rw[e1]
   ·exact nomatch e
  ·rcases br hb with⟨j,u,rfl,e⟩|⟨y,u,rfl,e⟩
   ·exact nomatch e
   ·injection e with e1 _;rw[e1]
 byValue:=fun k v h=>by
  rcases br h with⟨i,t,rfl,rfl⟩|⟨x,t,rfl,rfl⟩<;>rfl
 pyHash:=fun hv h=>by
  rcases br hv with⟨i,t,rfl,rfl⟩|⟨x,t,rfl,rfl⟩
  ·exact wpAny_pyHash_int h
  ·exact wpAny_pyHash_str h
 eqBool:=fun hu hv h=>by
  rcases br hu with⟨i,t,rfl,rfl⟩|⟨x,t,rfl,rfl⟩
  ·rcases br hv with⟨j,u,rfl,rfl⟩|⟨y,u,rfl,rfl⟩
   ·rw[x9]at h;exact wpAny_eqBool_int h
   ·rw[ya]at h;exact SeqAt.EqAt.int_str i t y u _ _ _ _ h
  ·rcases br hv with⟨j,u,rfl,rfl⟩|⟨y,u,rfl,rfl⟩
   ·rw[yb]at h;exact SeqAt.EqAt.str_int x t j u _ _ _ _ h
   ·rw[x_]at h;exact wpAny_eqBool_str h
 «strs»:=fun k x t v h=>by
  rcases br h with⟨i,u,rfl,e⟩|⟨y,u,rfl,e⟩
  ·exact nomatch e
  ·injection e with e1 _
   subst e1
   cases v<;>rfl
theorem mW (prog:Program)(w:World)(i:Int)(t:Tok):(aT prog w).is (.inl i) (.int i t)=true:=qK i t
theorem gc (prog:Program)(w:World)(x:Str)(t:Tok):(aT prog w).is (.inr x) (.str x t)=true:=qL x t
end L2
namespace L2
open PySem PySem.Spec PyProof.Rows
inductive V where
 |non|bl (b:Bool)|int (i:Int)|str (x:Str)|byt (b:Array UInt8)|flt (b:UInt64)|ref (a:Addr)|ty (n:String)
 deriving DecidableEq
noncomputable def RelV:V->Value->Prop
 | .non,u=>u=Value.none
 | .bl b,u=>u=Value.bool b
 | .int i,u=>∃ t,u=Value.int i t
 | .str x,u=>∃ t,u=Value.str x t
 | .byt b,u=>∃ t,u=Value.bytes b t
 | .flt b,u=>∃ t,u=Value.float b t
 | .ref a,u=>u=Value.ref a
 | .ty n,u=>u=Value.type n
noncomputable abbrev Vals:List V->List Value->Prop:=Paired RelV
theorem Vals.length {xs:List V}{us:List Value}(r:Vals xs us):xs.length=us.length:=Paired.length r
theorem Vals.get:∀{xs:List V}{us:List Value}{i:Nat}{x:V},Vals xs us->xs[i]?=some x->∃ u,us[i]?=some u/\RelV x u
 |_,_,_,_,.nil,e=>by simp at e
 |_,_,0,_,.cons r _,e=>by simp at e;subst e;exact⟨_,rfl,r⟩
 |_,_,i+1,x,.cons _ t,e=>by
  obtain⟨u,h1,h2⟩:=Vals.get (i:=i) (x:=x) t (by simpa using e)
  exact⟨u,by simpa using h1,h2⟩
theorem Vals.set {x:V}{u:Value}(r:RelV x u):∀{xs:List V}{us:List Value}(i:Nat),Vals xs us->Vals (xs.set i x) (us.set i u)
 |_,_,_,.nil=>.nil
 |_,_,0,.cons _ t=>.cons r t
 |_,_,i+1,.cons q t=>.cons q (Vals.set r i t)
theorem Vals.append:∀{xs ys:List V}{us ws:List Value},Vals xs us->Vals ys ws->Vals (xs++ys) (us++ws)
 |_,_,_,_,.nil,s=>s
 |_,_,_,_,.cons r t,s=>.cons r (Vals.append t s)
theorem Vals.take:∀{xs:List V}{us:List Value}(n:Nat),Vals xs us->Vals (xs.take n) (us.take n)
 |_,_,0,_=>.nil
 |_,_,_+1,.nil=>.nil
 |_,_,n+1,.cons r t=>.cons r (Vals.take n t)
theorem Vals.drop:∀{xs:List V}{us:List Value}(n:Nat),Vals xs us->Vals (xs.drop n) (us.drop n)
 |_,_,0,r=>r
 |_,_,_+1,.nil=>.nil
 |_,_,n+1,.cons _ t=>Vals.drop n t
noncomputable def RelO:Option V->Option Value->Prop
 |some v,some u=>RelV v u
 |none,none=>True
 |_,_=>False
noncomputable def KV {κ:Type}:List (κ×V)->List (κ×Value)->Prop:=Paired fun(p:κ×V)(q:κ×Value)=>p.1=q.1/\RelV p.2 q.2
noncomputable def kV:Key->V
 | .inl i=>.int i
 | .inr x=>.str x
inductive HO where
  
 |lst (xs:List V)
  
 |tup (xs:List V)
  
 |dK (kvs:List (Key×V))|dT (kvs:List (List Key×V))
  
 |set (S:Int->Bool) (n:Nat)
  
 |ins (C dx:Addr) (fs:List (Str×V))
  
 |own (x:Addr)
  
 |xd (fs:List (Str×V))
  
 |met (f x:Addr)
  
 |rng (lo hi:Int)
  
 |frz (o:Obj) (u:HO)
  
 |tbl (ps:Array Value)
  
 |ext (φ:Heap->Prop)
noncomputable abbrev Hp:=Addr->Option HO
noncomputable def bz (H:Hp)(a:Addr)(o:HO):Hp:=fun b=>if b=a then some o else H b
theorem aP {H:Hp}{a:Addr}{o:HO}:bz H a o a=some o:=by unfold bz;rw[if_pos rfl]
theorem ax {H:Hp}{a b:Addr}{o:HO}(h:b≠a):bz H a o b=H b:=by unfold bz;rw[if_neg h]
theorem ap {H:Hp}{a b:Addr}{o:HO}(h:H a=some o)(h':H b=none):a≠b:=by
 intro e;subst e;rw[h]at h';cases h'
section
variable (P:Program)(w:World)
noncomputable def ObjOk (H:Hp)(h:Heap)(a:Addr):HO->Prop
 | .lst xs=>xs.length<=sizeLine/\∃(its:List Value)(n:Nat),Vals xs its/\h.get? a=some { cls:=.type "list",data:=.seq its.toArray n }
 | .tup xs=>xs.length<=sizeLine/\∃ its:List Value,Vals xs its/\IsTup h a its.toArray
 | .dK kvs=>kvs.length<=sizeLine/\(a==sysModules)=false/\∃ vs,KV kvs vs/\h.DictOf (aT P w) a vs
 | .dT kvs=>kvs.length<=sizeLine/\(a==sysModules)=false/\∃ xs:List (List Key×Addr×Value),
  Paired (fun(p:List Key×V)(q:List Key×Addr×Value)=>p.1=q.1/\H q.2.1=some (.tup (p.1.map kV))/\RelV p.2 q.2.2) kvs xs/\
  ∃ o es ep,h.get? a=some o/\o.ExactDict/\o.data=.dict es ep/\es.toList=xs.map (entryOfKey (tupleKind (aT P w)))/\(xs.map (·.1)).Nodup
 | .set S n=>h.SetOf (intKind P w) a S n
 | .ins C dx fs=>H dx=some (.own a)/\fs.length<=1000/\dx≠a/\h.get? a=some (PySem.W.instObj C dx)/\
  ∃ mA,h.Ns1 dx mA/\(∀ f,RelO (fs.lookup f) (mA f))/\PySem.Within mA (fs.map (·.1))
 | .own _=>∃ o,h.get? a=some o
 | .xd fs=>∃ mA,h.Ns1 a mA/\∀ f,RelO (fs.lookup f) (mA f)
 | .rng lo hi=>∃ t u v,h.get? a=some { cls:=.type "range",data:=.fields #[.int lo t,.int hi u,.int 1 v] }
 | .frz o u=>h.get? a=some o/\ObjOk H h a u
 | .tbl ps=>h.get? a=some { cls:=.none,data:=.fields ps }
 | .met f x=>h.get? a=some (PySem.W.methodObj (.ref f) (.ref x))
 | .ext φ=>φ h/\(∃ o,h.get? a=some o)/\∀ h1 h2:Heap,φ h1->(∀ o,h1.get? a=some o->h2.get? a=some o)->φ h2
noncomputable def HOk (H:Hp)(h:Heap):Prop:=∀ a o,H a=some o->ObjOk P w H h a o
end
section
variable {P:Program}{w:World}{H H':Hp}{h h':Heap}{a:Addr}{o:HO}
theorem ObjOk.lt (x:ObjOk P w H h a o):a<h.objs.size:=by
 cases o with
 |lst xs=>obtain⟨_,_,_,_,e⟩:=x;exact Heap.lt_size e
 |tup xs=>obtain⟨_,_,_,p⟩:=x;exact p.lt
 |dK kvs=>obtain⟨_,_,_,_,o,_,_,e,_⟩:=x;exact Heap.lt_size e
 |dT kvs=>obtain⟨_,_,_,_,o,_,_,e,_⟩:=x;exact Heap.lt_size e
 |set S n=>obtain⟨o,_,_,_,e,_⟩:=x;exact Heap.lt_size e
 |ins C dx fs=>obtain⟨_,_,_,e,_⟩:=x;exact Heap.lt_size e
 |own y=>obtain⟨_,e⟩:=x;exact Heap.lt_size e
 |xd fs=>obtain⟨_,⟨_,_,_,e,_⟩,_⟩:=x;exact Heap.lt_size e
 |rng lo hi=>obtain⟨_,_,_,e⟩:=x;exact Heap.lt_size e
 |frz ob u=>obtain⟨e,_⟩:=x;exact Heap.lt_size e
 |tbl ps=>exact Heap.lt_size (show h.get? a=some _ from x)
 |met f y=>exact Heap.lt_size (show h.get? a=some _ from x)
 |ext φ=>obtain⟨_,⟨_,e⟩,_⟩:=x;exact Heap.lt_size e
theorem Paired.mapP {α β:Type}{F G:α->β->Prop}:∀{l₁:List α}{l₂:List β},Paired F l₁ l₂->(∀ a b,F a b->G a b)->Paired G l₁ l₂
 |_,_,.nil,_=>.nil
 |_,_,.cons r t,f=>.cons (f _ _ r) (Paired.mapP t f)
theorem ObjOk.stay (x:ObjOk P w H h a o)(k:∀ b u,(b=a\/H b=some (.own a))->h.get? b=some u->h'.get? b=some u)
 (ho:∀ b,H b=some (.own a)->H' b=some (.own a)) (ht:∀ b xs,H b=some (.tup xs)->H' b=some (.tup xs)):ObjOk P w H' h' a o:=by
 induction o with
 |lst xs=>obtain⟨z,its,n,r,e⟩:=x;exact⟨z,its,n,r,k _ _ (.inl rfl) e⟩
 |tup xs=>obtain⟨z,its,r,ob,e,c⟩:=x;exact⟨z,its,r,ob,k _ _ (.inl rfl) e,c⟩
 |dK kvs=>obtain⟨z,y,vs,r,ob,es,ep,e,c⟩:=x;exact⟨z,y,vs,r,ob,es,ep,k _ _ (.inl rfl) e,c⟩
 |dT kvs=>
  obtain⟨z,y,xs,r,ob,es,ep,e,c⟩:=x
  exact⟨z,y,xs,Paired.mapP r fun p q z=>⟨z.1,ht _ _ z.2.1,z.2.2⟩,ob,es,ep,k _ _ (.inl rfl) e,c⟩
 |set S n=>obtain⟨ob,es,ep,t,e,c⟩:=x;exact⟨ob,es,ep,t,k _ _ (.inl rfl) e,c⟩
 |ins C dx fs=>
  obtain⟨d,z,ne,e,mA,⟨od,es,ep,e2,c⟩,r⟩:=x
  exact⟨ho _ d,z,ne,k _ _ (.inl rfl) e,mA,⟨od,es,ep,k _ _ (.inr d) e2,c⟩,r⟩
 |own y=>obtain⟨ob,e⟩:=x;exact⟨ob,k _ _ (.inl rfl) e⟩
 |xd fs=>obtain⟨mA,⟨od,es,ep,e,c⟩,r⟩:=x;exact⟨mA,⟨od,es,ep,k _ _ (.inl rfl) e,c⟩,r⟩
 |rng lo hi=>obtain⟨t,u,v,e⟩:=x;exact⟨t,u,v,k _ _ (.inl rfl) e⟩
 |frz ob u ih=>obtain⟨e,q⟩:=x;exact⟨k _ _ (.inl rfl) e,ih q⟩
 |tbl ps=>
  have e:h.get? a=some { cls:=.none,data:=.fields ps }:=x
  show h'.get? a=some { cls:=.none,data:=.fields ps }
  exact k a _ (.inl rfl) e
 |met f y=>
  have e:h.get? a=some (PySem.W.methodObj (.ref f) (.ref y)):=x
  show h'.get? a=some (PySem.W.methodObj (.ref f) (.ref y))
  exact k a _ (.inl rfl) e
 |ext φ=>obtain⟨p,⟨o,e⟩,st⟩:=x;exact⟨st _ _ p fun o q=>k _ _ (.inl rfl) q,⟨o,k _ _ (.inl rfl) e⟩,st⟩
theorem HOk.lt (x:HOk P w H h)(e:H a=some o):a<h.objs.size:=(x a o e).lt
theorem HOk.fresh (x:HOk P w H h)(e:h.objs.size<=a):H a=none:=by
 cases q:H a with
 |none=>rfl
 |some u=>exact absurd (Nat.lt_of_lt_of_le (x.lt q) e) (Nat.lt_irrefl _)
theorem HOk.kept (x:HOk P w H h)(k:∀ b u,h.get? b=some u->h'.get? b=some u):HOk P w H h':=fun a o e=>
 (x a o e).stay (fun b u _ q=>k b u q) (fun _ q=>q) fun _ _ q=>q
theorem HOk.laid (x:HOk P w H h)(k:∀ b u,h.get? b=some u->h'.get? b=some u)(hp:h.objs.size<=a)(new:ObjOk P w (bz H a o) h' a o):HOk P w (bz H a o) h':=fun b u e=>by
 have hn:=x.fresh hp
 by_cases hb:b=a
 ·subst hb;rw[aP]at e;cases e;exact new
 ·rw[ax hb]at e
  exact(x b u e).stay (fun c v _ q=>k c v q) (fun c q=>by rw[ax (ap q hn)];exact q) fun c xs q=>by rw[ax (ap q hn)];exact q
end
noncomputable def Rd (H:Hp)(a:Addr)(u:HO):Prop:=H a=some u\/∃ o,H a=some (.frz o u)
theorem Rd.ok {P:Program}{w:World}{H:Hp}{h:Heap}{a:Addr}{u:HO}(r:Rd H a u)(x:HOk P w H h):ObjOk P w H h a u:=by
 rcases r with r|⟨o,r⟩
 ·exact x a u r
 ·obtain⟨_,q⟩:=x a _ r
  exact q
noncomputable def Cv:Option HO->Prop
 |some (.lst _)=>True
 |some (.dK _)=>True
 |some (.dT _)=>True
 |some (.set _ _)=>True
 |some (.ins _ _ _)=>True
 |some (.ext _)=>True
 |_=>False
section
variable {P:Program}{w:World}{H:Hp}{h h':Heap}{x e:Addr}{o':HO}
theorem HOk.write (ok:HOk P w H h)(mu:Cv (H x))(he:e=x\/H e=some (.own x))(k:∀ b u,b≠e->h.get? b=some u->h'.get? b=some u)(heo:∃ u,h'.get? e=some u)
 (new:ObjOk P w (bz H x o') h' x o'):HOk P w (bz H x o') h':=fun b u q=>by
 have nown:∀ c y,H c=some (.own y)->c≠x:=fun c y r z=>by subst z;rw[r]at mu;exact mu
 have ntup:∀ c xs,H c=some (.tup xs)->c≠x:=fun c xs r z=>by subst z;rw[r]at mu;exact mu
 by_cases hb:b=x
 ·subst hb;rw[aP]at q;cases q;exact new
 ·rw[ax hb]at q
  by_cases hbe:b=e
  ·have q':H b=some (.own x):=by
    rcases he with z|z
    ·exact absurd (hbe.trans z) hb
    ·rw[hbe];exact z
   rw[q]at q';cases q'
   obtain⟨v,hv⟩:=heo
   exact⟨v,by rw[hbe];exact hv⟩
  ·refine(ok b u q).stay (fun c v hc r=>k c v ?_ r) (fun c r=>by rw[ax (nown c b r)];exact r) fun c xs r=>by rw[ax (ntup c xs r)];exact r
   rcases hc with rfl|hc
   ·exact hbe
   ·rintro rfl
    rcases he with z|z
    ·exact nown c b hc z
    ·rw[hc]at z;cases z;exact hb rfl
end
noncomputable def Qt (H:Hp)(b:Addr):Prop:=H b=none\/∃ xs,H b=some (.tup xs)
structure Un (fs ex:List Addr) (H H':Hp) (h h':Heap):Prop where
 keep:∀ b o,h.get? b=some o->Qt H b->b∉fs->b∉ex->h'.get? b=some o
 slot:∀ b o,h.get? b=some o->H b=none->b∈fs->b∉ex->∃ sl,h'.get? b=some { o with slots:=sl }
 free:∀ b o,h.get? b=some o->H b=none->b∉ex->H' b=none
 there:∀ b o,h.get? b=some o->b∉ex->∃ o',h'.get? b=some o'
 tups:∀ b xs,H b=some (.tup xs)->H' b=some (.tup xs)
 frzs:∀ b o u,H b=some (.frz o u)->H' b=some (.frz o u)
 tbls:∀ b ps,H b=some (.tbl ps)->∃ more,H' b=some (.tbl (ps++more))
section
variable {fs fs' ex ex':List Addr}{H H1 H2:Hp}{h h1 h2 h':Heap}{a x e:Addr}{o:HO}
theorem Un.any (u:Un fs ex H H1 h h1){b:Addr}{ob:Obj}(q:h.get? b=some ob)(n:H b=none)(hx:b∉ex):∃ sl,h1.get? b=some { ob with slots:=sl }:=by
 by_cases hb:b∈fs
 ·exact u.slot b ob q n hb hx
 ·exact⟨ob.slots,u.keep b ob q (.inl n) hb hx⟩
theorem Un.trans (a:Un fs ex H H1 h h1)(b:Un fs ex H1 H2 h1 h2):Un fs ex H H2 h h2 where
 keep:=fun c ob q n hc hx=>b.keep c ob (a.keep c ob q n hc hx) (n.imp (fun n=>a.free c ob q n hx) fun⟨xs,e⟩=>⟨xs,a.tups c xs e⟩) hc hx
 slot:=fun c ob q n hc hx=>by
  obtain⟨sl,e1⟩:=a.slot c ob q n hc hx
  obtain⟨sl',e2⟩:=b.slot c _ e1 (a.free c ob q n hx) hc hx
  exact⟨sl',e2⟩
 free:=fun c ob q n hx=>by
  obtain⟨o',e1⟩:=a.there c ob q hx
  exact b.free c o' e1 (a.free c ob q n hx) hx
 there:=fun c ob q hx=>by
  obtain⟨o',e1⟩:=a.there c ob q hx
  exact b.there c o' e1 hx
 tups:=fun c xs q=>b.tups c xs (a.tups c xs q)
 frzs:=fun c ob xs q=>b.frzs c ob xs (a.frzs c ob xs q)
 tbls:=fun c ps q=>by
  obtain⟨m1,e1⟩:=a.tbls c ps q
  obtain⟨m2,e2⟩:=b.tbls c _ e1
  exact⟨m1++m2,by rw[e2,Array.append_assoc]⟩
theorem Un.kept (k:∀ b u,h.get? b=some u->h'.get? b=some u):Un fs ex H H h h':=
 ⟨fun b ob q _ _ _=>k b ob q,fun b ob q _ _ _=>⟨ob.slots,k b ob q⟩,fun _ _ _ n _=>n,fun b ob q _=>⟨ob,k b ob q⟩,fun _ _ q=>q,fun _ _ _ q=>q,fun _ ps q=>⟨#[],by rw[q];simp⟩⟩
theorem Un.refl:Un fs ex H H h h:=Un.kept fun _ _ q=>q
theorem Un.laid (k:∀ b u,h.get? b=some u->h'.get? b=some u)(hp:h.objs.size<=a)(hn:H a=none):Un fs ex H (bz H a o) h h' where
 keep:=fun b u q _ _ _=>k b u q
 slot:=fun b u q _ _ _=>⟨u.slots,k b u q⟩
 free:=fun b u q n _=>by rw[ax (Nat.ne_of_lt (Nat.lt_of_lt_of_le (Heap.lt_size q) hp))];exact n
 there:=fun b u q _=>⟨u,k b u q⟩
 tups:=fun b xs q=>by rw[ax (ap q hn)];exact q
 frzs:=fun b u xs q=>by rw[ax (ap q hn)];exact q
 tbls:=fun b ps q=>⟨#[],by rw[ax (ap q hn),q];simp⟩
theorem Un.write (mu:Cv (H x))(he:e=x\/H e=some (.own x))(k:∀ b u,b≠e->h.get? b=some u->h'.get? b=some u)(heo:∃ u,h'.get? e=some u):Un fs ex H (bz H x o) h h':=by
 have hx:∀ b,H b=none->b≠x:=fun b n z=>by subst z;rw[n]at mu;exact mu
 have hb:∀ b,H b=none->b≠e:=fun b n z=>by
  subst z
  rcases he with r|r
  ·exact hx b n r
  ·rw[n]at r;cases r
 have hm:∀ b u,H b=some u->¬ Cv (some u)->b≠x:=fun b u q nm z=>by subst z;rw[q]at mu;exact nm mu
 refine⟨fun b u q n _ _=>k b u (n.elim (hb b) fun⟨xs,ee⟩ z=>by rcases he with r|r;(·rw[<- r,<- z,ee]at mu;exact mu);(·rw[<- z,ee]at r;cases r)) q,fun b u q n _ _=>⟨u.slots,k b u (hb b n) q⟩,fun b u q n _=>by rw[ax (hx b n)];exact n,fun b u q _=>?_,
  fun b xs q=>by rw[ax (hm b _ q fun z=>z)];exact q,fun b u xs q=>by rw[ax (hm b _ q fun z=>z)];exact q,fun b ps q=>⟨#[],by rw[ax (hm b _ q fun z=>z),q];simp⟩⟩
 by_cases hbe:b=e
 ·subst hbe;exact heo
 ·exact⟨u,k b u hbe q⟩
end
noncomputable def sB (h:Heap)(H:Hp):List Addr:=(List.range h.objs.size).filter fun a=>(H a).isSome
noncomputable def mX (h:Heap)(H:Hp):Heap:=PySem.W.hideAll h (sB h H)
theorem qM (h:Heap)(H:Hp):(mX h H).objs.size=h.objs.size:=PySem.W.hideAll_size _ _
theorem mY {h:Heap}{H:Hp}{b:Addr}{o:Obj}(e:h.get? b=some o)(n:H b=none):(mX h H).get? b=some o:=
 PySem.W.hideAll_get _ e fun hm=>by
  have q:(H b).isSome=true:=(List.mem_filter.mp hm).2
  rw[n]at q;simp at q
theorem vq {h:Heap}{H:Hp}{b:Addr}{o:Obj}(e:(mX h H).get? b=some o):h.get? b=some o/\H b=none:=by
 have e':h.get? b=some o:=PySem.W.of_hideAll (sB h H) e
 refine⟨e',?_⟩
 cases q:H b with
 |none=>rfl
 |some x=>
  have hm:b∈sB h H:=List.mem_filter.mpr ⟨List.mem_range.mpr (Heap.lt_size e'),by simp[q]⟩
  have z:(mX h H).get? b=none:=PySem.W.hideAll_none (sB h H) hm
  rw[z]at e;cases e
noncomputable def vt (g h:Heap)(L:Addr):List (Addr×Obj):=(List.range h.objs.size).filterMap fun a=>if a=L\/(g.get? a).isSome=true then none else (h.get? a).map fun o=>(a,o)
noncomputable def bg (g h:Heap)(L d:Addr):List (Addr×Obj):=(vt g h L).filter fun p=>decide (p.1≠d)
end L2
namespace L2
open PySem PySem.Spec PyProof.Rows
noncomputable def D6:Value->V
 | .str x _=>.str x
 | .ref a=>.ref a
 |_=>.non
noncomputable def yc (o:Obj):Option (Addr×List V):=match o.cls with
 | .type n=>if n=="kt" then (match o.data with
  | .seq its _=>(match its.toList with
   | .ref a::r=>some (a,r.map D6)
   |_=>none)
  |_=>none) else none
 |_=>none
noncomputable def WrT (K:PySem.W.Frag)(H:Hp):Prop:=∀ p∈K,∀ a xs,yc p.2=some (a,xs)->H a=some (.tup xs)
structure Mod (K:PySem.W.Frag) (mg:Str->Option Value) (base:Heap):Prop where
 kin:K.In base
 glob:base.Ns mainGlobals mg
 blt:∃ mb,base.Ns builtinsNs mb/\∀ x:Str,x≠"__name__"->mb x=bootBuiltins x
 nolimit:base.NoLimit
structure Cx where
 prog:Program
 w:World
 K:PySem.W.Frag
 mg:Str->Option Value
 base:Heap
 A:Around
 N:List Str
 s₀:Shared
 H₀:Hp
 env:Env
 outer:List Env
 stack:List Env
 ex:List Addr
 fn:Str->Bool
 calm:Bool
 pn:List (Addr×Obj)
 xe:Value->Shared->Prop
noncomputable def frs (l:List Env):List Addr:=l.filterMap (·.frame)
noncomputable abbrev Cx.fs (X:Cx):List Addr:=frs X.outer
noncomputable def Vis (sc:Scope)(x:Str):Prop:=sc.names.lookup x=some .local\/sc.names.lookup x=some .cell\/sc.names.lookup x=some .free
noncomputable def yd (sc:Scope)(x:Str):Prop:=sc.names.lookup x=some .local\/sc.names.lookup x=some .cell
noncomputable def Look (env:Env)(h:Heap)(m:Str->Option Value)(x:Str)(u:Value):Prop:=
 (env.kindOf x=some .local/\m x=some u)\/((env.kindOf x=some .cell\/env.kindOf x=some .free)/\∃ c,env.cells.lookup x=some c/\h.IsCell c (some u))
structure Cx.Ok (X:Cx):Prop where
 mod:Mod X.K X.mg X.base
 kind:X.env.scope.kind=.function
 glob:X.env.globals=mainGlobals
 blt:X.env.builtins=builtinsNs
 above:X.s₀.heap.objs.size<=X.env.locals
 inj:∀ x y c,X.env.cells.lookup x=some c->X.env.cells.lookup y=some c->x=y
 has:∀ x,(X.env.kindOf x=some .cell\/X.env.kindOf x=some .free)->∃ c,X.env.cells.lookup x=some c
 cab:∀ x c,X.fn x=true->X.env.cells.lookup x=some c->X.s₀.heap.objs.size<=c
 hd:X.calm=true->X.A.handled=none
 frames:X.A.frames=some X.stack
 stk:X.stack=X.outer\/(X.stack=X.env::X.outer/\X.env.frame=some X.env.locals)
 exf:∀ b∈X.ex,b≠X.env.locals/\∀ x c,X.env.cells.lookup x=some c->c≠b
 bs:∀ b o,X.base.get? b=some o->X.s₀.heap.get? b=some o/\X.H₀ b=none
 bsz:X.base.objs.size<=X.s₀.heap.objs.size
 noex:∀ b o,X.base.get? b=some o->b∉X.ex
 exfs:∀ b∈X.ex,b∉X.fs
 funs:X.s₀.heap.FunFrames X.base X.outer
 frf:∀ b∈X.fs,X.H₀ b=none
 kt:WrT X.K X.H₀
structure Inv (X:Cx) (pins:List (Addr×Obj)) (σ:List (Option V)) (H:Hp) (s:Shared):Prop where
 ok:X.Ok
 os:s.os=X.s₀.os
 bare:AllBare s.gens
 base:Un X.fs X.ex X.H₀ H X.s₀.heap s.heap
 loc:∃ m,s.heap.Ns X.env.locals m/\∀(i:Nat)(x:Str)(v:V),X.N[i]?=some x->σ[i]?=some (some v)->Vis X.env.scope x->∃ u,RelV v u/\Look X.env s.heap m x u
 cell:∀ x c,X.env.cells.lookup x=some c->∃ v,s.heap.IsCell c v
 free:H X.env.locals=none
 freeC:∀ x c,X.env.cells.lookup x=some c->H c=none
 pin:∀ p∈X.pn++pins,s.heap.get? p.1=some p.2/\H p.1=none/\p.1≠X.env.locals/\p.1∉X.fs/\∀ v,p.2.data≠.cell v
 hok:HOk X.prog X.w H s.heap
 len:σ.length=X.N.length
section
variable {X:Cx}{pins:List (Addr×Obj)}{σ:List (Option V)}{H H':Hp}{s:Shared}{h':Heap}
theorem Cx.Ok.nofr (ok:X.Ok){b:Addr}{o:Obj}(e:X.base.get? b=some o):b∉X.fs:=fun hb=>by
 have:=(ok.funs.mem hb).1
 rw[e]at this;cases this
theorem Inv.bs (I:Inv X pins σ H s):∀ b o,X.base.get? b=some o->s.heap.get? b=some o/\H b=none:=fun b o e=>
 ⟨I.base.keep b o (I.ok.bs b o e).1 (.inl (I.ok.bs b o e).2) (I.ok.nofr e) (I.ok.noex b o e),I.base.free b o (I.ok.bs b o e).1 (I.ok.bs b o e).2 (I.ok.noex b o e)⟩
theorem Inv.kt (I:Inv X pins σ H s):WrT X.K H:=fun p hp a xs e=>I.base.tups a xs (I.ok.kt p hp a xs e)
theorem Inv.bk (I:Inv X pins σ H s):∀ b o,X.base.get? b=some o->s.heap.get? b=some o:=fun b o e=>(I.bs b o e).1
theorem Inv.mod (I:Inv X pins σ H s):Mod X.K X.mg X.base:=I.ok.mod
theorem Inv.kIn (I:Inv X pins σ H s):X.K.In s.heap:=I.ok.mod.kin.keeps I.bk
theorem Inv.fr (I:Inv X pins σ H s):∃ m,Fr X.base X.env.locals s.heap m:=
 let ⟨m,hn,_⟩:=I.loc
 ⟨m,hn,I.bk,Nat.le_trans I.ok.bsz I.ok.above⟩
theorem Inv.lt (I:Inv X pins σ H s):X.env.locals<s.heap.objs.size:=let ⟨_,hn,_⟩:=I.loc;hn.lt
theorem Inv.sz (I:Inv X pins σ H s):X.s₀.heap.objs.size<=s.heap.objs.size:=Nat.le_trans I.ok.above (Nat.le_of_lt I.lt)
theorem Inv.nofs (I:Inv X pins σ H s){a:Addr}(h:s.heap.objs.size<=a):a∉X.fs:=fun hb=>by
 obtain⟨_,o,ho,_⟩:=I.ok.funs.mem hb
 exact absurd (Nat.lt_of_lt_of_le (Heap.lt_size ho) (Nat.le_trans I.sz h)) (Nat.lt_irrefl _)
theorem Inv.cne (I:Inv X pins σ H s):∀ x c,X.env.cells.lookup x=some c->c≠X.env.locals:=fun x c e z=>by
 obtain⟨v,o,ho,hd⟩:=I.cell x c e
 obtain⟨m,⟨o',es,ep,ho',hd',_⟩,_⟩:=I.loc
 rw[z,ho']at ho;cases ho;rw[hd']at hd;cases hd
theorem Inv.funs (I:Inv X pins σ H s):s.heap.FunFrames X.base X.outer:=by
 have all:∀(l:List Env),(∀ b∈frs l,b∈X.fs)->X.s₀.heap.FunFrames X.base l->s.heap.FunFrames X.base l:=by
  intro l
  induction l with
  |nil=>intro _ _;trivial
  |cons env r ih=>
   intro hs hl
   obtain⟨hk,⟨L,o,hf,hn,ho,hd⟩,hr⟩:=hl
   have hL:L∈X.fs:=hs L (by unfold frs;rw[List.filterMap_cons,hf];exact List.mem_cons_self)
   obtain⟨sl,e⟩:=I.base.slot L o ho (I.ok.frf L hL) hL fun z=>I.ok.exfs L z hL
   exact⟨hk,⟨L,_,hf,hn,e,hd⟩,ih (fun b hb=>hs b (by unfold frs;rw[List.filterMap_cons,hf];exact List.mem_cons_of_mem _ hb)) hr⟩
 exact all X.outer (fun _ hb=>hb) I.ok.funs
theorem Inv.stack (I:Inv X pins σ H s):s.heap.FunFrames X.base X.stack:=by
 rcases I.ok.stk with e|⟨e,hf⟩
 ·rw[e];exact I.funs
 ·rw[e]
  obtain⟨m,hn,_⟩:=I.loc
  refine .cons (by rw[I.ok.kind];decide) hf hn ?_ I.funs
  exact Heap.get?_none_of_le (Nat.le_trans I.ok.bsz I.ok.above)
theorem Inv.stkSub (I:Inv X pins σ H s):∀ b∈frs X.stack,b∈X.env.locals::X.fs:=fun b hb=>by
 rcases I.ok.stk with e|⟨e,hf⟩
 ·rw[e]at hb;exact List.mem_cons_of_mem _ hb
 ·rw[e]at hb
  unfold frs at hb
  rw[List.filterMap_cons,hf]at hb
  exact hb
theorem Inv.stkFree (I:Inv X pins σ H s):∀ b∈frs X.stack,H b=none:=fun b hb=>by
 rcases List.mem_cons.mp (I.stkSub b hb) with e|hb
 ·rw[e];exact I.free
 ·obtain⟨_,o,ho,_⟩:=I.ok.funs.mem hb
  exact I.base.free b o ho (I.ok.frf b hb) fun z=>I.ok.exfs b z hb
theorem Inv.step {g':Array GenState}{t':Nat}{d':Drawn}{ch:List Addr}(I:Inv X pins σ H s)
 (hch:∀ b∈ch,(b∈X.ex\/X.s₀.heap.objs.size<=b)/\b≠X.env.locals/\(∀ x c,X.env.cells.lookup x=some c->c≠b)/\∀ p∈X.pn++pins,p.1≠b)
 (keep:∀ b o,b≠X.env.locals->b∉X.fs->b∉ch->s.heap.get? b=some o->Qt H b->h'.get? b=some o)
 (slot:∀ b o,b≠X.env.locals->b∈X.fs->b∉ch->s.heap.get? b=some o->H b=none->∃ sl,h'.get? b=some { o with slots:=sl }) (free:∀ b o,b∉ch->s.heap.get? b=some o->H b=none->H' b=none)
 (there:∀ b o,b∉ch->s.heap.get? b=some o->∃ o',h'.get? b=some o')
 (tups:∀ b xs,H b=some (.tup xs)->H' b=some (.tup xs)) (frzs:∀ b o u,H b=some (.frz o u)->H' b=some (.frz o u)) (tbls:∀ b ps,H b=some (.tbl ps)->∃ more,H' b=some (.tbl (ps++more)))
 (ns:∀ m,s.heap.Ns X.env.locals m->h'.Ns X.env.locals m) (hok:HOk X.prog X.w H' h') (hg:AllBare g') :
 Inv X pins σ H' { s with heap:=h',gens:=g',drawn:=d',toks:=t' }:=by
 have neL:∀ b o,X.s₀.heap.get? b=some o->b≠X.env.locals:=fun b o e=>Nat.ne_of_lt (Nat.lt_of_lt_of_le (Heap.lt_size e) I.ok.above)
 have neC:∀ b o,X.s₀.heap.get? b=some o->b∉X.ex->b∉ch:=fun b o e hx hb=>by
  rcases (hch b hb).1 with z|z
  ·exact hx z
  ·exact absurd (Nat.lt_of_lt_of_le (Heap.lt_size e) z) (Nat.lt_irrefl _)
 have cellK:∀ x c,X.env.cells.lookup x=some c->∀ v,s.heap.IsCell c v->h'.IsCell c v:=fun x c e v ⟨o,ho,hd⟩=>by
  have nch:c∉ch:=fun z=>(hch c z).2.2.1 x c e rfl
  by_cases hc:c∈X.fs
  ·obtain⟨sl,q⟩:=slot c o (I.cne x c e) hc nch ho (I.freeC x c e)
   exact⟨_,q,hd⟩
  ·exact⟨o,keep c o (I.cne x c e) hc nch ho (.inl (I.freeC x c e)),hd⟩
 refine⟨I.ok,I.os,hg,⟨fun b o e n hb hx=>?_,fun b o e n hb hx=>?_,fun b o e n hx=>?_,fun b o e hx=>?_,fun b xs e=>tups b xs (I.base.tups b xs e),fun b o xs e=>frzs b o xs (I.base.frzs b o xs e),fun b ps e=>?_⟩,?_,fun x c e=>?_,?_,fun x c e=>?_,fun p hp=>?_,hok,I.len⟩
 ·exact keep b o (neL b o e) hb (neC b o e hx) (I.base.keep b o e n hb hx) (n.imp (fun n=>I.base.free b o e n hx) fun⟨xs,q⟩=>⟨xs,I.base.tups b xs q⟩)
 ·obtain⟨sl,e1⟩:=I.base.slot b o e n hb hx
  obtain⟨sl',e2⟩:=slot b _ (neL b o e) hb (neC b o e hx) e1 (I.base.free b o e n hx)
  exact⟨sl',e2⟩
 ·obtain⟨o',e1⟩:=I.base.there b o e hx
  exact free b o' (neC b o e hx) e1 (I.base.free b o e n hx)
 ·obtain⟨o',e1⟩:=I.base.there b o e hx
  exact there b o' (neC b o e hx) e1
 ·obtain⟨m1,e1⟩:=I.base.tbls b ps e
  obtain⟨m2,e2⟩:=tbls b _ e1
  exact⟨m1++m2,by rw[e2,Array.append_assoc]⟩
 ·obtain⟨m,hn,hl⟩:=I.loc
  refine⟨m,ns m hn,fun i x v e1 e2 e3=>?_⟩
  obtain⟨u,r,l⟩:=hl i x v e1 e2 e3
  refine⟨u,r,?_⟩
  rcases l with l|⟨k,c,e,z⟩
  ·exact .inl l
  ·exact .inr ⟨k,c,e,cellK x c e _ z⟩
 ·obtain⟨v,z⟩:=I.cell x c e
  exact⟨v,cellK x c e v z⟩
 ·obtain⟨m,⟨o,_,_,ho,_⟩,_⟩:=I.loc
  exact free _ o (fun z=>(hch _ z).2.1 rfl) ho I.free
 ·obtain⟨v,o,ho,hd⟩:=I.cell x c e
  exact free c o (fun z=>(hch c z).2.2.1 x c e rfl) ho (I.freeC x c e)
 ·obtain⟨e,n,ne,nf,d⟩:=I.pin p hp
  have nch:p.1∉ch:=fun z=>(hch p.1 z).2.2.2 p hp rfl
  exact⟨keep p.1 p.2 ne nf nch e (.inl n),free p.1 p.2 nch e n,ne,nf,d⟩
theorem Inv.un {t':Nat}(I:Inv X pins σ H s)(u:Un X.fs [] H H' s.heap h')(hok:HOk X.prog X.w H' h'):Inv X pins σ H' { s with heap:=h',toks:=t' }:=by
 obtain⟨m,⟨o,es,ep,ho,r⟩,_⟩:=id I.loc
 obtain⟨sl,hL⟩:=u.any ho I.free (by simp)
 exact I.step (g':=s.gens) (d':=s.drawn) (ch:=[]) (fun _ z=>nomatch z) (fun b o _ hb _ e n=>u.keep b o e n hb (by simp)) (fun b o _ hb _ e n=>u.slot b o e n hb (by simp)) (fun b o _ e n=>u.free b o e n (by simp)) (fun b o _ e=>u.there b o e (by simp)) u.tups u.frzs u.tbls (fun m' hm=>by
  obtain⟨o',es',ep',ho',r'⟩:=hm
  rw[ho]at ho';cases ho'
  exact⟨_,es',ep',hL,r'⟩) hok I.bare
theorem Inv.call {g':Array GenState}{t':Nat}{d':Drawn}{ch:List Addr}(I:Inv X pins σ H s)(u:Un (frs X.stack) ch H H' s.heap h')(hok:HOk X.prog X.w H' h')(hg:AllBare g')
 (hch:∀ b∈ch,(b∈X.ex\/X.s₀.heap.objs.size<=b)/\b≠X.env.locals/\(∀ x c,X.env.cells.lookup x=some c->c≠b)/\∀ p∈X.pn++pins,p.1≠b) :
 Inv X pins σ H' { s with heap:=h',gens:=g',drawn:=d',toks:=t' }:=by
 obtain⟨m,⟨o,es,ep,ho,r⟩,_⟩:=id I.loc
 obtain⟨sl,hL⟩:=u.any ho I.free fun z=>(hch _ z).2.1 rfl
 exact I.step (ch:=ch) hch (fun b o hL hb hc e n=>u.keep b o e n (fun z=>(List.mem_cons.mp (I.stkSub b z)).elim hL hb) hc) (fun b o _ _ hc e n=>u.any e n hc) (fun b o hc e n=>u.free b o e n hc) (fun b o hc e=>u.there b o e hc) u.tups u.frzs u.tbls (fun m' hm=>by
  obtain⟨o',es',ep',ho',r'⟩:=hm
  rw[ho]at ho';cases ho'
  exact⟨_,es',ep',hL,r'⟩) hok hg
theorem Inv.turned {t':Nat}{it:Addr}(I:Inv X pins σ H s)(k:∀ b o,b≠it->s.heap.get? b=some o->h'.get? b=some o)(hn:H it=none)(hL:it≠X.env.locals)
 (h1:it∈X.ex\/X.s₀.heap.objs.size<=it) (h2:∀ x c,X.env.cells.lookup x=some c->c≠it) (h3:∀ p∈X.pn++pins,p.1≠it):Inv X pins σ H { s with heap:=h',toks:=t' }:=by
 have nit:∀ b u,H b=some u->b≠it:=fun b u e z=>by rw[z,hn]at e;cases e
 refine I.step (g':=s.gens) (d':=s.drawn) (ch:=[it]) (fun b hb=>?_) (fun b o _ _ hc e _=>k b o (fun z=>hc (by simp[z])) e) (fun b o _ _ hc e _=>⟨o.slots,k b o (fun z=>hc (by simp[z])) e⟩) (fun _ _ _ _ n=>n)
  (fun b o hc e=>⟨o,k b o (fun z=>hc (by simp[z])) e⟩) (fun _ _ e=>e) (fun _ _ _ e=>e) (fun b ps e=>⟨#[],by rw[e];simp⟩) (fun m hm=>?_) (fun b u e=>?_) I.bare
 ·have e:b=it:=by simpa using hb
  subst e
  exact⟨h1,hL,h2,h3⟩
 ·obtain⟨o,es,ep,ho,r⟩:=hm
  exact⟨o,es,ep,k _ o (Ne.symm hL) ho,r⟩
 ·refine(I.hok b u e).stay (fun c v hc q=>k c v ?_ q) (fun _ q=>q) fun _ _ q=>q
  rcases hc with z|z
  ·rw[z];exact nit b u e
  ·exact nit c _ z
theorem Inv.tok (I:Inv X pins σ H s)(t:Nat):Inv X pins σ H { s with toks:=t }:=I.un (h':=s.heap) (t':=t) Un.refl I.hok
theorem Inv.kept {t':Nat}(I:Inv X pins σ H s)(k:∀ b u,s.heap.get? b=some u->h'.get? b=some u):Inv X pins σ H { s with heap:=h',toks:=t' }:=I.un (Un.kept k) (I.hok.kept k)
theorem Inv.laid {a:Addr}{o:HO}{t':Nat}(I:Inv X pins σ H s)(k:∀ b u,s.heap.get? b=some u->h'.get? b=some u)(hp:s.heap.objs.size<=a)(new:ObjOk X.prog X.w (bz H a o) h' a o) :
 Inv X pins σ (bz H a o) { s with heap:=h',toks:=t' }:=I.un (Un.laid k hp (I.hok.fresh hp)) (I.hok.laid k hp new)
theorem Inv.write {x e:Addr}{o:HO}{t':Nat}(I:Inv X pins σ H s)(mu:Cv (H x))(he:e=x\/H e=some (.own x))(k:∀ b u,b≠e->s.heap.get? b=some u->h'.get? b=some u)(heo:∃ u,h'.get? e=some u)
 (new:ObjOk X.prog X.w (bz H x o) h' x o):Inv X pins σ (bz H x o) { s with heap:=h',toks:=t' }:=I.un (Un.write mu he k heo) (I.hok.write mu he k heo new)
theorem Inv.pins_of {pins':List (Addr×Obj)}(I:Inv X pins σ H s)(h:∀ p∈pins',s.heap.get? p.1=some p.2/\H p.1=none/\p.1≠X.env.locals/\p.1∉X.fs/\∀ v,p.2.data≠.cell v):Inv X pins' σ H s:=
 ⟨I.ok,I.os,I.bare,I.base,I.loc,I.cell,I.free,I.freeC,fun p hp=>(List.mem_append.mp hp).elim (fun z=>I.pin p (List.mem_append_left _ z)) (h p),I.hok,I.len⟩
theorem jS {N:List Str}(hN:N.Nodup){i j:Nat}{x:Str}(a:N[i]?=some x)(b:N[j]?=some x):i=j:=by
 obtain⟨h1,e1⟩:=List.getElem?_eq_some_iff.mp a
 obtain⟨h2,e2⟩:=List.getElem?_eq_some_iff.mp b
 exact(List.getElem_inj hN).mp (e1.trans e2.symm)
theorem lq {M:Model}{A:Around}{E:Value->Shared->Prop}{i:Nat}{x:Str}{v:V}{u:Value}{Q:Unit->Shared->Prop}(I:Inv X pins σ H s)(hN:X.N.Nodup)(hi:X.N[i]?=some x)(hx:yd X.env.scope x)(r:RelV v u)
 (h:∀ s',Inv X pins (σ.set i (some v)) H s'->(∃ a,Heap.SameBut a s.heap s'.heap/\(a=X.env.locals\/X.env.cells.lookup x=some a))->Q () s') (hf:X.fn x=true\/X.env.scope.names.lookup x=some .local:=by first|exact .inl rfl|exact .inr rfl|assumption):wpAny M A (storeName X.env x u) Q E s:=by
 obtain⟨m,hn,hl⟩:=id I.loc
 have hcls:(X.env.scope.kind==.class || (X.env.scope.kind==.module&&X.env.locals != X.env.globals))=false:=by rw[I.ok.kind];rfl
 have hiσ:i<σ.length:=by rw[I.len];exact(List.getElem?_eq_some_iff.mp hi).1
 have cne:=I.cne
 have tracked:∀{a:Addr}{h':Heap},(∃ o,s.heap.get? a=some o/\H a=none)->Heap.SameBut a s.heap h'->HOk X.prog X.w H h':=fun{a h'} ha hs b ob e=>by
  obtain⟨_,_,hfree⟩:=ha
  refine(I.hok b ob e).stay (fun c w' hc q=>(hs.2 c ?_).trans q) (fun _ q=>q) fun _ _ q=>q
  rintro rfl
  rcases hc with rfl|hc
  ·rw[hfree]at e;cases e
  ·rw[hfree]at hc;cases hc
 rcases hx with hk|hk
 ·refine wpAny_storeName_local hk hn (fun h' hn' hs=>?_) hcls
  obtain⟨oL,_,_,hoL,_⟩:=id hn
  refine h _ ⟨I.ok,I.os,I.bare,⟨fun b o e n hb hx=>?_,fun b o e n hb hx=>?_,I.base.free,fun b o e hx=>?_,I.base.tups,I.base.frzs,I.base.tbls⟩,⟨_,hn',fun j y v' e1 e2 e3=>?_⟩,fun y c e=>?_,I.free,I.freeC,fun p hp=>?_,tracked ⟨oL,hoL,I.free⟩ hs,by simpa using I.len⟩ ⟨_,hs,.inl rfl⟩
  ·exact(hs.2 b (Nat.ne_of_lt (Nat.lt_of_lt_of_le (Heap.lt_size e) I.ok.above))).trans (I.base.keep b o e n hb hx)
  ·obtain⟨sl,e1⟩:=I.base.slot b o e n hb hx
   exact⟨sl,(hs.2 b (Nat.ne_of_lt (Nat.lt_of_lt_of_le (Heap.lt_size e) I.ok.above))).trans e1⟩
  ·obtain⟨o',e1⟩:=I.base.there b o e hx
   exact⟨o',(hs.2 b (Nat.ne_of_lt (Nat.lt_of_lt_of_le (Heap.lt_size e) I.ok.above))).trans e1⟩
  ·by_cases hj:j=i
   ·subst hj
    rw[hi]at e1;cases e1
    rw[List.getElem?_set_self hiσ]at e2
    cases e2
    exact⟨u,r,.inl ⟨hk,by simp⟩⟩
   ·rw[List.getElem?_set_ne (Ne.symm hj)]at e2
    obtain⟨u',r',q⟩:=hl j y v' e1 e2 e3
    refine⟨u',r',?_⟩
    rcases q with⟨k,e⟩|⟨k,c,e,z⟩
    ·refine .inl ⟨k,?_⟩
     have:y≠x:=fun e=>hj (jS hN e1 (e▸hi))
     simp[this,e]
    ·exact .inr ⟨k,c,e,z.sameBut hs (cne y c e)⟩
  ·obtain⟨w',z⟩:=I.cell y c e
   exact⟨w',z.sameBut hs (cne y c e)⟩
  ·obtain⟨e,n,ne,nf,d⟩:=I.pin p hp
   exact⟨(hs.2 p.1 ne).trans e,n,ne,nf,d⟩
 ·have hfn:X.fn x=true:=by
   rcases hf with z|z
   ·exact z
   ·rw[z]at hk;cases hk
  obtain⟨c,hc⟩:=I.ok.has x (.inl hk)
  obtain⟨w',z⟩:=I.cell x c hc
  refine wpAny_storeName_cell I.ok.kind hk hc z (fun h' hc' hs=>?_)
  obtain⟨oc,hoc,hocd⟩:=id z
  refine h { s with heap:=h' } ⟨I.ok,I.os,I.bare,⟨fun b o e n hb hx=>?_,fun b o e n hb hx=>?_,I.base.free,fun b o e hx=>?_,I.base.tups,I.base.frzs,I.base.tbls⟩,⟨m,hn.sameBut hs (Ne.symm (cne x c hc)),fun j y v' e1 e2 e3=>?_⟩,fun y c' e=>?_,I.free,I.freeC,fun p hp=>?_,tracked ⟨oc,hoc,I.freeC x c hc⟩ hs,by simpa using I.len⟩ ⟨c,hs,.inr hc⟩
  ·exact(hs.2 b (Nat.ne_of_lt (Nat.lt_of_lt_of_le (Heap.lt_size e) (I.ok.cab x c hfn hc)))).trans (I.base.keep b o e n hb hx)
  ·obtain⟨sl,e1⟩:=I.base.slot b o e n hb hx
   exact⟨sl,(hs.2 b (Nat.ne_of_lt (Nat.lt_of_lt_of_le (Heap.lt_size e) (I.ok.cab x c hfn hc)))).trans e1⟩
  ·obtain⟨o',e1⟩:=I.base.there b o e hx
   exact⟨o',(hs.2 b (Nat.ne_of_lt (Nat.lt_of_lt_of_le (Heap.lt_size e) (I.ok.cab x c hfn hc)))).trans e1⟩
  ·by_cases hj:j=i
   ·subst hj
    rw[hi]at e1;cases e1
    rw[List.getElem?_set_self hiσ]at e2
    cases e2
    exact⟨u,r,.inr ⟨.inl hk,c,hc,hc'⟩⟩
   ·rw[List.getElem?_set_ne (Ne.symm hj)]at e2
    obtain⟨u',r',q⟩:=hl j y v' e1 e2 e3
    refine⟨u',r',?_⟩
    rcases q with q|⟨k,c',e,z'⟩
    ·exact .inl q
    ·refine .inr ⟨k,c',e,z'.sameBut hs ?_⟩
     rintro rfl
     exact hj (jS hN e1 (I.ok.inj _ _ _ e hc▸hi))
  ·by_cases hcc:c'=c
   ·subst hcc;exact⟨_,hc'⟩
   ·obtain⟨w2,z2⟩:=I.cell y c' e
    exact⟨w2,z2.sameBut hs hcc⟩
  ·obtain⟨e,n,ne,nf,d⟩:=I.pin p hp
   refine⟨(hs.2 p.1 ?_).trans e,n,ne,nf,d⟩
   intro q
   rw[q,hoc]at e
   have q':oc=p.2:=Option.some.inj e
   exact d w' (by rw[<- q'];exact hocd)
theorem mZ {M:Model}{A:Around}{E:Value->Shared->Prop}{i:Nat}{x:Str}{v:V}{u:Value}{Q:Unit->Shared->Prop}(I:Inv X pins σ H s)(hN:X.N.Nodup)(hi:X.N[i]?=some x)(hx:yd X.env.scope x)(r:RelV v u)
 (h:∀ s',Inv X pins (σ.set i (some v)) H s'->Q () s') (hf:X.fn x=true\/X.env.scope.names.lookup x=some .local:=by first|exact .inl rfl|exact .inr rfl|assumption):wpAny M A (storeName X.env x u) Q E s:=
 lq I hN hi hx r (fun s' I' _=>h s' I') hf
theorem Inv.call' {s':Shared}{ch:List Addr}(I:Inv X pins σ H s)(ho:s'.os=s.os)(u:Un (frs X.stack) ch H H' s.heap s'.heap)(hok:HOk X.prog X.w H' s'.heap)(hg:AllBare s'.gens)
 (hch:∀ b∈ch,(b∈X.ex\/X.s₀.heap.objs.size<=b)/\b≠X.env.locals/\(∀ x c,X.env.cells.lookup x=some c->c≠b)/\∀ p∈X.pn++pins,p.1≠b):Inv X pins σ H' s':=by
 obtain⟨h',g',d',t',o'⟩:=s'
 have e:o'=s.os:=ho
 subst e
 exact I.call (g':=g') (t':=t') (d':=d') u hok hg hch
end
noncomputable abbrev XK:=Value->Option Addr->Hp->Prop
noncomputable abbrev St:=List (Option V)
noncomputable abbrev VK:=V->Hp->Prop
noncomputable abbrev TE:=St->Hp->VK->Prop
noncomputable abbrev TT:=St->Hp->(Bool->Hp->Prop)->Prop
noncomputable abbrev TA:=St->Hp->(List V->Hp->Prop)->Prop
structure Ends where
 nx:St->Hp->Prop
 rt:VK
 bk:St->Hp->Prop:=fun _ _=>False
 ct:St->Hp->Prop:=fun _ _=>False
noncomputable abbrev TS:=Ends->St->Hp->Prop
noncomputable def EP (X:Cx)(pins:List (Addr×Obj))(σ:St)(Q:VK)(u:Value)(s':Shared):Prop:=∃ v H',Inv X pins σ H' s'/\RelV v u/\Q v H'
noncomputable def TP (X:Cx)(pins:List (Addr×Obj))(σ:St)(Q:Bool->Hp->Prop)(b:Bool)(s':Shared):Prop:=∃ H',Inv X pins σ H' s'/\Q b H'
noncomputable def AP (X:Cx)(pins:List (Addr×Obj))(σ:St)(Q:List V->Hp->Prop)(us:List Value)(s':Shared):Prop:=∃ vs H',Inv X pins σ H' s'/\Vals vs us/\Q vs H'
noncomputable def SP (X:Cx)(pins:List (Addr×Obj))(D:Ends)(f:Flow)(s':Shared):Prop:=
 match f with
 | .next=>∃ σ' H',Inv X pins σ' H' s'/\D.nx σ' H'
 | .brk=>∃ σ' H',Inv X pins σ' H' s'/\D.bk σ' H'
 | .cont=>∃ σ' H',Inv X pins σ' H' s'/\D.ct σ' H'
 | .ret u=>∃ v σ' H',Inv X pins σ' H' s'/\RelV v u/\D.rt v H'
noncomputable def PE (X:Cx)(e:Expr)(t:TE):Prop:=
 ∀(pins:List (Addr×Obj))(s:Shared)(σ:St)(H:Hp)(Q:VK),Inv X pins σ H s->t σ H Q->wpAny (model X.prog X.w) X.A (eval e X.env) (EP X pins σ Q) X.xe s
noncomputable def PT (X:Cx)(e:Expr)(t:TT):Prop:=
 ∀(pins:List (Addr×Obj))(s:Shared)(σ:St)(H:Hp)(Q:Bool->Hp->Prop),Inv X pins σ H s->t σ H Q->wpAny (model X.prog X.w) X.A (isTrue e X.env (eval e X.env)) (TP X pins σ Q) X.xe s
noncomputable def PW (X:Cx)(e:Expr)(t:TT):Prop:=
 ∀(whole:Sem Value)(pins:List (Addr×Obj))(s:Shared)(σ:St)(H:Hp)(Q:Bool->Hp->Prop),Inv X pins σ H s->t σ H Q->wpAny (model X.prog X.w) X.A (isTrue e X.env whole) (TP X pins σ Q) X.xe s
theorem PW.pt {X:Cx}{e:Expr}{t:TT}(h:PW X e t):PT X e t:=h _
noncomputable def PA (X:Cx)(es:List Expr)(t:TA):Prop:=
 ∀(pos:Pos)(pins:List (Addr×Obj))(s:Shared)(σ:St)(H:Hp)(Q:List V->Hp->Prop),Inv X pins σ H s->t σ H Q->wpAny (model X.prog X.w) X.A (spliced (backTo pos (starEach es X.env))) (AP X pins σ Q) X.xe s
noncomputable def PS (X:Cx)(st:Stmt)(t:TS):Prop:=
 ∀(pins:List (Addr×Obj))(s:Shared)(σ:St)(H:Hp)(D:Ends),Inv X pins σ H s->t D σ H->wpAny (model X.prog X.w) X.A (exec st X.env) (SP X pins D) X.xe s
noncomputable def PSs (X:Cx)(st:List Stmt)(t:TS):Prop:=
 ∀(pins:List (Addr×Obj))(s:Shared)(σ:St)(H:Hp)(D:Ends),Inv X pins σ H s->t D σ H->wpAny (model X.prog X.w) X.A (execs st X.env) (SP X pins D) X.xe s
theorem da {α:Type}{t:Sem α}{Q Q':α->Shared->Prop}{M:Model}{A:Around}{E:Value->Shared->Prop}{s:Shared}(h:wpAny M A t Q E s)(hQ:∀ a s,Q a s->Q' a s):wpAny M A t Q' E s:=wpAny_mono h hQ fun _ _ x=>x
end L2
namespace L2
open PySem PySem.Spec PyProof.Rows
section
variable {X:Cx}
noncomputable def kX (i:Nat):TE:=fun σ H Q=>∃ v,σ[i]?=some (some v)/\Q v H
noncomputable def tC (v:V):TE:=fun _ H Q=>Q v H
theorem ye {i:Nat} {x:Str} {pos:Pos} (hN:X.N[i]?=some x) (hv:Vis X.env.scope x) (hd:autoParam ((x==("__debug__" : Str))=false) autoD._auto_1) (hcd:autoParam ((x==("__classdict__" : Str))=false) autoD._auto_1):PE X (.Name x pos) (kX i):=by
 intro pins s σ H Q I h
 obtain⟨v,e,h⟩:=h
 obtain⟨m,hn,hl⟩:=I.loc
 obtain⟨u,r,l⟩:=hl i x v hN e hv
 have fin:EP X pins σ Q u s:=⟨v,H,I,r,h⟩
 rcases l with⟨hk,hm⟩|⟨hk,c,hc,hcell⟩
 ·exact wpAny_Name (wpAny_loadName_local I.ok.kind hk hn hm fin) hd
 ·rcases hk with hk|hk
  ·exact wpAny_Name (wpAny_loadName_cell I.ok.kind hk hc hcell fin) hd
  ·exact wpAny_Name (wpAny_loadName_free I.ok.kind hk hc hcell fin hcd) hd
theorem yf {i j pos}:PE X (.Constant (.int i) j pos) (tC (.int i)):=fun _ _ _ H _ I h=>wpAny_Constant_int ⟨.int i,H,I.tok _,⟨_,rfl⟩,h⟩
theorem AO {b j pos}:PE X (.Constant (.bool b) j pos) (tC (.bl b)):=fun _ _ _ H _ I h=>Constant_bool ⟨.bl b,H,I,rfl,h⟩
theorem yg {x j pos}:PE X (.Constant (.str x) j pos) (tC (.str x)):=fun _ _ _ H _ I h=>Calls.Constant_str ⟨.str x,H,I.tok _,⟨_,rfl⟩,h⟩
noncomputable def Gl (X:Cx)(x:Str):Prop:=X.env.kindOf x=some .globalImplicit
theorem l6 {E:Value->Shared->Prop}{pins:List (Addr×Obj)}{s:Shared}{σ:St}{H:Hp}{x:Str}{u:Value}{pos:Pos}{Q:Value->Shared->Prop}(I:Inv X pins σ H s)(hg:Gl X x)(hm:X.mg x=some u)(h:Q u s)
 (hd:autoParam ((x==("__debug__" : Str))=false) autoD._auto_1):wpAny (model X.prog X.w) X.A (eval (.Name x pos) X.env) Q E s:=
 Calls.Name_function_global I.ok.kind hg (Calls.loadGlobal_global (by rw[I.ok.glob];exact I.mod.glob.keeps I.bk) hm h) hd
theorem gd {E:Value->Shared->Prop}{pins:List (Addr×Obj)}{s:Shared}{σ:St}{H:Hp}{x:Str}{u:Value}{pos:Pos}{Q:Value->Shared->Prop}(I:Inv X pins σ H s)(hg:Gl X x)(hm:X.mg x=none)(hv:bootBuiltins x=some u)(h:Q u s)
 (hn:autoParam (x≠"__name__") autoD._auto_1) (hd:autoParam ((x==("__debug__" : Str))=false) autoD._auto_1):wpAny (model X.prog X.w) X.A (eval (.Name x pos) X.env) Q E s:=by
 obtain⟨mb,h1,h2⟩:=I.mod.blt
 exact Calls.Name_function_global I.ok.kind hg (Calls.loadGlobal_builtin (by rw[I.ok.glob];exact I.mod.glob.keeps I.bk) hm (by rw[I.ok.blt];exact h1.keeps I.bk) ((h2 x hn).trans hv) h) hd
theorem vv {x:Str} {v:V} {u:Value} {pos:Pos} (hg:Gl X x) (hm:X.mg x=some u) (r:RelV v u) (hd:autoParam ((x==("__debug__" : Str))=false) autoD._auto_1):PE X (.Name x pos) (tC v):=
 fun _ _ _ H _ I h=>l6 I hg hm ⟨v,H,I,r,h⟩ hd
theorem vw {x:Str} {v:V} {u:Value} {pos:Pos} (hg:Gl X x) (hm:X.mg x=none) (hv:bootBuiltins x=some u) (r:RelV v u) (hn:autoParam (x≠"__name__") autoD._auto_1) (hd:autoParam ((x==("__debug__" : Str))=false) autoD._auto_1):PE X (.Name x pos) (tC v):=
 fun _ _ _ H _ I h=>gd I hg hm hv ⟨v,H,I,r,h⟩ hn hd
variable {a b:Expr}{ta tb:TE}{pos:Pos}
variable {tA tB':TT}{bg:List Expr}
noncomputable def CM (t u:TT):TT:=fun σ H Q=>t σ H fun c H1=>if c=true then u σ H1 Q else Q false H1
noncomputable def D7 (t u:TT):TT:=fun σ H Q=>t σ H fun c H1=>if c=true then Q true H1 else u σ H1 Q
noncomputable def CN (t:TT):TT:=fun σ H Q=>t σ H fun c H1=>Q (!c) H1
theorem vx (ha:PT X a tA):PW X (.BoolOp .And [a] pos) tA:=by
 intro wh pins s σ H Q I h
 refine isTrue_and (da (ha pins s σ H Q I h) fun c s1 e=>?_)
 cases c with
 |true=>exact isTrue_and_nil e
 |false=>exact e
theorem yh (ha:PT X a tA):PW X (.BoolOp .Or [a] pos) tA:=by
 intro wh pins s σ H Q I h
 refine isTrue_or (da (ha pins s σ H Q I h) fun c s1 e=>?_)
 cases c with
 |false=>exact isTrue_or_nil e
 |true=>exact e
theorem yi (ha:PT X a tA)(hb:PW X (.BoolOp .And (b::bg) pos) tB'):PW X (.BoolOp .And (a::b::bg) pos) (CM tA tB'):=by
 intro wh pins s σ H Q I h
 refine isTrue_and (da (ha pins s σ H _ I h) fun c s1 ⟨H1,I1,q1⟩=>?_)
 cases c with
 |true=>exact hb wh pins s1 σ H1 Q I1 q1
 |false=>exact⟨H1,I1,q1⟩
theorem AQ (ha:PT X a tA)(hb:PW X (.BoolOp .Or (b::bg) pos) tB'):PW X (.BoolOp .Or (a::b::bg) pos) (D7 tA tB'):=by
 intro wh pins s σ H Q I h
 refine isTrue_or (da (ha pins s σ H _ I h) fun c s1 ⟨H1,I1,q1⟩=>?_)
 cases c with
 |true=>exact⟨H1,I1,q1⟩
 |false=>exact hb wh pins s1 σ H1 Q I1 q1
theorem yj (ha:PT X a tA):PT X (.UnaryOp .Not a pos) (CN tA):=by
 intro pins s σ H Q I h
 exact isTrue_not (ha pins s σ H (fun c H1=>Q (!c) H1) I h)
noncomputable def AR (ta tb:TE):TE:=fun σ H Q=>ta σ H fun x H1=>∃ c,x=.bl c/\if c=true then tb σ H1 Q else Q (.bl false) H1
noncomputable def AS (ta:TE):TE:=fun σ H Q=>ta σ H fun x H1=>∃ c,x=.bl c/\Q (.bl (!c)) H1
theorem yk {op}{t:TE}(h:PE X a t):PE X (.BoolOp op [a] pos) t:=fun pins s σ H Q I hw=>BoolOp_one (h pins s σ H Q I hw)
theorem ym (ha:PE X a ta)(hb:PE X (.BoolOp .And (b::bg) pos) tb):PE X (.BoolOp .And (a::b::bg) pos) (AR ta tb):=by
 intro pins s σ H Q I h
 refine BoolOp_and (da (ha pins s σ H _ I h) fun v s1 ⟨x,H1,I1,r1,q1⟩=>?_)
 obtain⟨c,rfl,q1⟩:=q1
 cases r1
 refine wpAny_truthy_bool ?_
 cases c with
 |true=>exact hb pins s1 σ H1 Q I1 q1
 |false=>exact⟨.bl false,H1,I1,rfl,q1⟩
theorem yn (ha:PE X a ta):PE X (.UnaryOp .Not a pos) (AS ta):=by
 intro pins s σ H Q I h
 refine UnaryOp_ (da (ha pins s σ H _ I h) fun v s1 ⟨x,H1,I1,r1,q1⟩=>?_)
 obtain⟨c,rfl,q1⟩:=q1
 cases r1
 exact not_of (wpAny_truthy_bool ⟨.bl (!c),H1,I1,rfl,q1⟩)
noncomputable def D8 (t:TT)(ta tb:TE):TE:=fun σ H Q=>t σ H fun c H1=>if c=true then ta σ H1 Q else tb σ H1 Q
theorem sD {c:Expr}(hc:PT X c tA)(ha:PE X a ta)(hb:PE X b tb):PE X (.IfExp c a b pos) (D8 tA ta tb):=by
 intro pins s σ H Q I h
 refine wpAny_IfExp (da (hc pins s σ H _ I h) fun d s1 ⟨H1,I1,q1⟩=>?_)
 cases d with
 |true=>exact ha pins s1 σ H1 Q I1 q1
 |false=>exact hb pins s1 σ H1 Q I1 q1
end
end L2
namespace L2
open PySem PySem.Spec PyProof.Rows
noncomputable def SqL (K:PySem.W.Frag)(H:Hp)(a:Addr)(xs:List V):Prop:=
 Rd H a (.lst xs)\/
  ∃(o:Obj)(its:Array Value)(n:Nat),K.lookup a=some o/\o.cls=.type "list"/\o.dict=none/\o.data=.seq its n/\its.size<=sizeLine/\Vals xs its.toList
noncomputable def SqT (K:PySem.W.Frag)(H:Hp)(a:Addr)(xs:List V):Prop:=
 Rd H a (.tup xs)\/
  ∃(o:Obj)(its:Array Value)(n:Nat),K.lookup a=some o/\o.cls=.type "tuple"/\o.data=.seq its n/\its.size<=sizeLine/\Vals xs its.toList
noncomputable def CO:Value->Option V
 | .none=>some .non
 | .bool b=>some (.bl b)
 | .int i _=>some (.int i)
 | .str x _=>some (.str x)
 | .bytes b _=>some (.byt b)
 | .float b _=>some (.flt b)
 | .ref a=>some (.ref a)
 | .type n=>some (.ty n)
 |_=>none
theorem RelV.abs {x:V}{u:Value}(r:RelV x u):CO u=some x:=by
 cases x with
 |non=>cases r;rfl
 |bl _=>cases r;rfl
 |int _=>obtain⟨t,rfl⟩:=r;rfl
 |str _=>obtain⟨t,rfl⟩:=r;rfl
 |byt _=>obtain⟨t,rfl⟩:=r;rfl
 |flt _=>obtain⟨t,rfl⟩:=r;rfl
 |ref _=>cases r;rfl
 |ty _=>cases r;rfl
theorem RelV.inj {x y:V}{u:Value}(r:RelV x u)(q:RelV y u):x=y:=Option.some.inj (r.abs.symm.trans q.abs)
theorem Vals.inj:∀{xs ys:List V}{us:List Value},Vals xs us->Vals ys us->xs=ys
 |_,_,_,.nil,.nil=>rfl
 |_,_,_,.cons r t,.cons r' t'=>by rw[r.inj r',Vals.inj t t']
section
variable {X:Cx}{pins:List (Addr×Obj)}{σ:St}{H:Hp}{s:Shared}{a:Addr}{xs ys:List V}
theorem SqL.of {K:PySem.W.Frag}(h:H a=some (.lst xs)):SqL K H a xs:=.inl (.inl h)
theorem SqT.of {K:PySem.W.Frag}(h:H a=some (.tup xs)):SqT K H a xs:=.inl (.inl h)
theorem Inv.list (I:Inv X pins σ H s)(h:SqL X.K H a xs):∃ its:List Value,Vals xs its/\PlainL s.heap a its.toArray/\xs.length<=sizeLine:=by
 rcases h with h|⟨o,its,n,hk,hc,hd,hs,hz,r⟩
 ·obtain⟨z,its,n,r,e⟩:=h.ok I.hok
  exact⟨its,r,⟨_,n,e,rfl,rfl,rfl⟩,z⟩
 ·refine⟨its.toList,r,⟨o,n,I.kIn a o hk,hc,hd,by simpa using hs⟩,?_⟩
  have e:=r.length
  simp only[Array.length_toList]at e
  omega
theorem Inv.tuple (I:Inv X pins σ H s)(h:SqT X.K H a xs):∃ its:List Value,Vals xs its/\IsTup s.heap a its.toArray/\xs.length<=sizeLine:=by
 rcases h with h|⟨o,its,n,hk,hc,hs,hz,r⟩
 ·obtain⟨z,its,r,p⟩:=h.ok I.hok
  exact⟨its,r,p,z⟩
 ·refine⟨its.toList,r,⟨o,I.kIn a o hk,hc,n,by simpa using hs⟩,?_⟩
  have e:=r.length
  simp only[Array.length_toList]at e
  omega
theorem Inv.list_inj (I:Inv X pins σ H s)(h:SqL X.K H a xs)(h':SqL X.K H a ys):xs=ys:=by
 obtain⟨its,r,⟨o,n,e,_,_,d⟩,_⟩:=I.list h
 obtain⟨its',r',⟨o',n',e',_,_,d'⟩,_⟩:=I.list h'
 rw[e]at e';cases e'
 rw[d]at d'
 injection d' with d1 _
 have:its=its':=by simpa using congrArg Array.toList d1
 subst this
 exact r.inj r'
theorem Inv.tuple_inj (I:Inv X pins σ H s)(h:SqT X.K H a xs)(h':SqT X.K H a ys):xs=ys:=by
 obtain⟨its,r,⟨o,e,_,n,d⟩,_⟩:=I.tuple h
 obtain⟨its',r',⟨o',e',_,n',d'⟩,_⟩:=I.tuple h'
 rw[e]at e';cases e'
 rw[d]at d'
 injection d' with d1 _
 have:its=its':=by simpa using congrArg Array.toList d1
 subst this
 exact r.inj r'
end
noncomputable abbrev Cx.wish (X:Cx)(E:Value->Shared->Prop):Cx:={ X with xe:=E }
noncomputable abbrev Cx.nox (X:Cx):Cx:=X.wish fun _ _=>False
theorem Cx.Ok.wish {X:Cx}(ok:X.Ok)(E:Value->Shared->Prop):(X.wish E).Ok:=
 ⟨ok.mod,ok.kind,ok.glob,ok.blt,ok.above,ok.inj,ok.has,ok.cab,ok.hd,ok.frames,ok.stk,ok.exf,ok.bs,ok.bsz,ok.noex,ok.exfs,ok.funs,ok.frf,ok.kt⟩
theorem Cx.Ok.unwish {X:Cx}{E:Value->Shared->Prop}(ok:(X.wish E).Ok):X.Ok:=
 ⟨ok.mod,ok.kind,ok.glob,ok.blt,ok.above,ok.inj,ok.has,ok.cab,ok.hd,ok.frames,ok.stk,ok.exf,ok.bs,ok.bsz,ok.noex,ok.exfs,ok.funs,ok.frf,ok.kt⟩
section
variable {X:Cx}{pins:List (Addr×Obj)}{σ:St}{H:Hp}{s:Shared}{E:Value->Shared->Prop}
theorem Inv.wish (I:Inv X pins σ H s)(E:Value->Shared->Prop):Inv (X.wish E) pins σ H s:=⟨I.ok.wish E,I.os,I.bare,I.base,I.loc,I.cell,I.free,I.freeC,I.pin,I.hok,I.len⟩
theorem Inv.unwish (I:Inv (X.wish E) pins σ H s):Inv X pins σ H s:=⟨I.ok.unwish,I.os,I.bare,I.base,I.loc,I.cell,I.free,I.freeC,I.pin,I.hok,I.len⟩
theorem SP.unwish {D:Ends}{f:Flow}{s':Shared}(h:SP (X.wish E) pins D f s'):SP X pins D f s':=by
 cases f with
 |next=>obtain⟨σ',H',I,q⟩:=h;exact⟨σ',H',I.unwish,q⟩
 |brk=>obtain⟨σ',H',I,q⟩:=h;exact⟨σ',H',I.unwish,q⟩
 |cont=>obtain⟨σ',H',I,q⟩:=h;exact⟨σ',H',I.unwish,q⟩
 |ret u=>obtain⟨v,σ',H',I,r,q⟩:=h;exact⟨v,σ',H',I.unwish,r,q⟩
theorem PE.nox {e:Expr}{t:TE}(h:PE X.nox e t):PE X e t:=fun pins s σ H Q I hw=>
 wpAny_mono (h pins s σ H Q (I.wish _) hw) (fun _ _ ⟨v,H',I',r,q⟩=>⟨v,H',I'.unwish,r,q⟩) fun _ _ z=>False.elim z
theorem PT.nox {e:Expr}{t:TT}(h:PT X.nox e t):PT X e t:=fun pins s σ H Q I hw=>
 wpAny_mono (h pins s σ H Q (I.wish _) hw) (fun _ _ ⟨H',I',q⟩=>⟨H',I'.unwish,q⟩) fun _ _ z=>False.elim z
theorem PSs.nox {st:List Stmt}{t:TS}(h:PSs X.nox st t):PSs X st t:=fun pins s σ H D I hw=>
 wpAny_mono (h pins s σ H D (I.wish _) hw) (fun _ _ q=>q.unwish) fun _ _ z=>False.elim z
end
section
variable {X:Cx}{st:Stmt}{bg:List Stmt}{t u:TS}{e:Expr}{te:TE}{pos:Pos}
noncomputable def AT:TS:=fun D σ H=>D.nx σ H
noncomputable def CP (t u:TS):TS:=fun D σ H=>t { D with nx:=u D } σ H
theorem vy:PSs X [] AT:=fun _ _ σ H _ I h=>wpAny_execs_nil ⟨σ,H,I,h⟩
theorem sE (h1:PS X st t)(h2:PSs X bg u):PSs X (st::bg) (CP t u):=by
 intro pins s σ H D I h
 refine wpAny_execs_cons (da (h1 pins s σ H { D with nx:=u D } I h) fun f s1 q=>?_)
 cases f with
 |next=>
  obtain⟨σ',H',I',q⟩:=q
  exact h2 pins s1 σ' H' D I' q
 |ret v=>exact q
 |brk=>exact q
 |cont=>exact q
theorem vz (h1:PS X st t):PSs X [st] t:=by
 intro pins s σ H D I h
 refine wpAny_execs_cons (da (h1 pins s σ H D I h) fun f s1 q=>?_)
 cases f with
 |next=>exact wpAny_execs_nil q
 |ret v=>exact q
 |brk=>exact q
 |cont=>exact q
theorem Inv.quiet {pins:List (Addr×Obj)}{σ:St}{H:Hp}{s:Shared}(I:Inv X pins σ H s):interactive X.env=false:=by simp[interactive,I.ok.kind]
noncomputable def AU (te:TE):TS:=fun D σ H=>te σ H fun _ H1=>D.nx σ H1
theorem jM (he:PE X e te)(hs:autoParam (swapsWith e none pos.line X.env=pure false) autoR._auto_1):PS X (.Expr e pos) (AU te):=by
 intro pins s σ H D I h
 exact wpAny_Expr_any (da (he pins s σ H _ I h) fun v s1 ⟨x,H1,I1,r1,q1⟩=>⟨σ,H1,I1,q1⟩) I.quiet hs
noncomputable def CQ (te:TE):TS:=fun D σ H=>te σ H D.rt
theorem yo (he:PE X e te):PS X (.Return (some e) pos) (CQ te):=by
 intro pins s σ H D I h
 exact wpAny_Return_some (da (he pins s σ H _ I h) fun v s1 ⟨x,H1,I1,r1,q1⟩=>⟨x,σ,H1,I1,r1,q1⟩)
noncomputable def CS (c:TT)(t u:TS):TS:=fun D σ H=>c σ H fun b H1=>if b=true then t D σ H1 else u D σ H1
theorem AV {c:Expr}{a b:List Stmt}{tc:TT}(hc:PT X c tc)(ha:PSs X a t)(hb:PSs X b u):PS X (.If c a b pos) (CS tc t u):=by
 intro pins s σ H D I h
 refine wpAny_If (da (hc pins s σ H _ I h) fun d s1 ⟨H1,I1,q1⟩=>?_)
 cases d with
 |true=>exact ha pins s1 σ H1 D I1 q1
 |false=>exact hb pins s1 σ H1 D I1 q1
end
noncomputable abbrev TG:=V->St->Hp->(St->Hp->Prop)->Prop
noncomputable abbrev xw:=List V->St->Hp->(St->Hp->Prop)->Prop
noncomputable def PG (X:Cx)(target:Expr)(t:TG):Prop:=
 ∀(pins:List (Addr×Obj))(s:Shared)(σ:St)(H:Hp)(v:V)(u:Value)(Q:St->Hp->Prop),Inv X pins σ H s->RelV v u->t v σ H Q->
  wpAny (model X.prog X.w) X.A (assign target X.env u) (fun _ s'=>∃ σ' H',Inv X pins σ' H' s'/\Q σ' H') X.xe s
noncomputable def yp (X:Cx)(ts:List Expr)(t:xw):Prop:=
 ∀(pins:List (Addr×Obj))(s:Shared)(σ:St)(H:Hp)(vs:List V)(us:List Value)(Q:St->Hp->Prop),Inv X pins σ H s->Vals vs us->t vs σ H Q->
  wpAny (model X.prog X.w) X.A (assignInOrder ((assignEach ts X.env).map (·.2)) us) (fun _ s'=>∃ σ' H',Inv X pins σ' H' s'/\Q σ' H') X.xe s
section
variable {X:Cx}{pos:Pos}
noncomputable def lr (i:Nat):TG:=fun v σ H Q=>Q (σ.set i (some v)) H
theorem ph {i:Nat}{x:Str}(hN:X.N.Nodup)(hi:X.N[i]?=some x)(hx:yd X.env.scope x)(hf:X.fn x=true\/X.env.scope.names.lookup x=some .local:=by first|exact .inl rfl|exact .inr rfl|assumption):PG X (.Name x pos) (lr i):=by
 intro pins s σ H v u Q I r h
 exact wpAny_assign_Name (mZ I hN hi hx r (fun s' I'=>⟨_,H,I',h⟩) hf)
noncomputable def CT:xw:=fun vs σ H Q=>vs=[]/\Q σ H
noncomputable def xx (t:TG)(u:xw):xw:=fun vs σ H Q=>∃ v r,vs=v::r/\t v σ H fun σ' H'=>u r σ' H' Q
theorem vA:yp X [] CT:=by
 intro pins s σ H vs us Q I r h
 obtain⟨e,h⟩:=h
 subst e
 cases r
 exact assignInOrder_nil ⟨σ,H,I,h⟩
theorem aG {e:Expr}{es:List Expr}{t:TG}{u:xw}(h1:PG X e t)(h2:yp X es u)
 (hs:autoParam ((assignEach (e::es) X.env).map (·.2)=assign e X.env::(assignEach es X.env).map (·.2)) autoR._auto_1):yp X (e::es) (xx t u):=by
 intro pins s σ H vs us Q I r h
 obtain⟨v,vr,e1,h⟩:=h
 subst e1
 cases r with
 |cons r rr=>
  rw[hs]
  refine assignInOrder_cons (da (h1 pins s σ H _ _ _ I r h) fun _ s1 ⟨σ1,H1,I1,q1⟩=>?_)
  exact h2 pins s1 σ1 H1 _ _ Q I1 rr q1
noncomputable def CU (K:PySem.W.Frag)(n:Nat)(t:xw):TG:=fun v σ H Q=>∃ a xs,v=.ref a/\SqT K H a xs/\xs.length=n/\t xs σ H Q
theorem yq {es:List Expr}{k:Nat}{t:xw}{n:Nat}(hc:X.calm=true)(h:yp X es t)
 (hn:autoParam ((assignEach es X.env).length=n) autoR._auto_1) (hst:autoParam ((assignEach es X.env).findIdx? (·.1)=none) autoR._auto_1):PG X (.Tuple es k pos) (CU X.K n t):=by
 intro pins s σ H v u Q I r hw
 obtain⟨a,xs,e1,hq,hl,hw⟩:=hw
 subst e1
 cases r
 obtain⟨its,rv,ht,hz⟩:=I.tuple hq
 refine assign_Tuple_tuple (I.ok.hd hc) ht (by simp[hn,<- hl,rv.length]) hst fun h' hx=>?_
 have I1:Inv X pins σ H { s with heap:=h' }:=I.kept (t':=s.toks) fun b o e=>hx b o (Nat.ne_of_lt (Heap.lt_size e)) e
 exact h pins _ σ H xs _ Q I1 (by simpa using rv) hw
noncomputable def AW (te:TE)(g:TG):TS:=fun D σ H=>te σ H fun x H1=>g x σ H1 D.nx
theorem sF {i:Nat}{x:Str}{e:Expr}{te:TE}{pos':Pos}(hN:X.N.Nodup)(hi:X.N[i]?=some x)(hx:yd X.env.scope x)(he:PE X e te)(hs:autoParam (swapsWith e (some (.Name x pos')) pos.line X.env=pure false) autoR._auto_1)(hf:X.fn x=true\/X.env.scope.names.lookup x=some .local:=by first|exact .inl rfl|exact .inr rfl|assumption) :
 PS X (.Assign [.Name x pos'] e pos) (AW te (lr i)):=by
 intro pins s σ H D I h
 refine wpAny_Assign_Name (da (he pins s σ H _ I h) fun v s1 ⟨y,H1,I1,r1,q1⟩=>?_) hs
 exact mZ I1 hN hi hx r1 (fun s2 I2=>⟨_,H1,I2,q1⟩) hf
end
section
variable {X:Cx}{pos:Pos}
end
structure It where
 go:Nat->Hp->Prop
 yld:Nat->Hp->V->Hp->Prop
 stop:Nat->Hp->Prop
noncomputable def FpOk (X:Cx)(pins:List (Addr×Obj))(H:Hp)(b:Addr):Prop:=
 H b=none/\b≠X.env.locals/\b∉X.fs/\(b∈X.ex\/X.s₀.heap.objs.size<=b)/\(∀ x c,X.env.cells.lookup x=some c->c≠b)/\∀ p∈X.pn++pins,p.1≠b
theorem Inv.fpOk {X:Cx}{pins:List (Addr×Obj)}{σ:St}{H H':Hp}{s:Shared}{b:Addr}(I:Inv X pins σ H s)(hb:s.heap.objs.size<=b)(hn:H' b=none):FpOk X pins H' b:=by
 refine⟨hn,Nat.ne_of_gt (Nat.lt_of_lt_of_le I.lt hb),I.nofs hb,.inr (Nat.le_trans I.sz hb),fun x c e z=>?_,fun p hp z=>?_⟩
 ·obtain⟨v,q⟩:=I.cell x c e
  exact absurd (Nat.lt_of_lt_of_le q.lt (by rw[z];exact hb)) (Nat.lt_irrefl _)
 ·exact absurd (Nat.lt_of_lt_of_le (Heap.lt_size (I.pin p hp).1) (by rw[z];exact hb)) (Nat.lt_irrefl _)
structure Turn (P:Program) (w:World) (K:PySem.W.Frag) (tg:Expr) (J:It) (fp:List Addr) (it:Addr) (tn:Nat->Heap->Prop):Prop where
 mem:it∈fp
 obj:∀ i h,tn i h->∀ b∈fp,∃ o,h.get? b=some o/\∀ v,o.data≠.cell v
 keep:∀ i h h',tn i h->(∀ b∈fp,∀ o,h.get? b=some o->h'.get? b=some o)->tn i h'
 item:∀(X:Cx),X.prog=P->X.w=w->X.K=K->X.calm=true->∀(i:Nat)(pins:List (Addr×Obj))(s:Shared)(σ:St)(H:Hp)(E:Value->Shared->Prop),Inv X pins σ H s->(∀ b∈fp,FpOk X pins H b)->tn i s.heap->J.go i H->
  wpAny (model P w) X.A (pyNext (.ref it)) (fun r s1=>∃ u,r=some u/\
   wpAny (model P w) X.A (letOwnedTupleGo tg (.ref it) u) (fun _ s2=>∃ x H',Inv X pins σ H' s2/\RelV x u/\J.yld i H x H'/\tn (i+1) s2.heap/\∀ b∈fp,H' b=none) E s1) E s
 done:∀(X:Cx),X.prog=P->X.w=w->X.K=K->X.calm=true->∀(i:Nat)(pins:List (Addr×Obj))(s:Shared)(σ:St)(H:Hp)(E:Value->Shared->Prop),Inv X pins σ H s->(∀ b∈fp,FpOk X pins H b)->tn i s.heap->J.stop i H->
  wpAny (model P w) X.A (pyNext (.ref it)) (fun r s1=>r=none/\Inv X pins σ H s1) E s
 self:∀(A:Around)(i:Nat)(s:Shared)(Q:Value->Shared->Prop)(E:Value->Shared->Prop),tn i s.heap->Q (.ref it) s->wpAny (model P w) A (pyIter (.ref it)) Q E s
noncomputable abbrev TI:=St->Hp->(It->Hp->Prop)->Prop
noncomputable def DO (X:Cx)(pins:List (Addr×Obj))(σ:St)(tg:Expr)(R:It->Hp->Prop)(itv:Value)(s2:Shared):Prop:=
 ∃(it:Addr)(fp:List Addr)(tn:Nat->Heap->Prop)(J:It)(H':Hp),itv=.ref it/\Inv X pins σ H' s2/\Turn X.prog X.w X.K tg J fp it tn/\tn 0 s2.heap/\(∀ b∈fp,FpOk X pins H' b)/\R J H'
noncomputable def PI (X:Cx)(tg iter:Expr)(wi:TI):Prop:=
 ∀(pins:List (Addr×Obj))(s:Shared)(σ:St)(H:Hp)(R:It->Hp->Prop),Inv X pins σ H s->wi σ H R->
  wpAny (model X.prog X.w) X.A (eval iter X.env) (fun v s1=>wpAny (model X.prog X.w) X.A (pyIter v) (DO X pins σ tg R) X.xe s1) X.xe s
theorem sG {M:Model}{A:Around}{E:Value->Shared->Prop}{s:Shared}{tg:Expr}{it:Addr}{u:Value}{o:Obj}{n:String}{vs:Array Value}{Q:Unit->Shared->Prop}(ho:s.heap.get? it=some o)(hc:o.cls=.type n)(hd:o.data=.fields vs)
 (hn:["enumerate", "zip", "dict_itemiterator", "dict_reverseitemiterator", "odict_iterator", "itertools.zip_longest", "itertools.pairwise"].contains n=false) (hQ:Q () s):wpAny M A (letOwnedTupleGo tg (.ref it) u) Q E s:=by
 unfold letOwnedTupleGo
 cases tg<;>first
  |exact wpAny_pure hQ
  |(cases u<;>first
     |exact wpAny_pure hQ
     |(refine wpAny_bind (wpAny_load ho ?_)
       rw[hc,hd]
       show wpAny M A (if (["enumerate", "zip", "dict_itemiterator", "dict_reverseitemiterator", "odict_iterator", "itertools.zip_longest", "itertools.pairwise"].contains n&&vs[0]?==some (rawInt _))=true then _ else _) Q E s
       rw[if_neg (by intro h;rw[hn,Bool.false_and]at h;cases h)]
       exact wpAny_pure hQ))
noncomputable def CV (K:PySem.W.Frag)(a:Addr):It:=
 ⟨fun i H=>∃ xs x,SqL K H a xs/\xs[i]?=some x,fun i H x H'=>H'=H/\∀ xs,SqL K H a xs->xs[i]?=some x,fun i H=>∃ xs,SqL K H a xs/\xs.length<=i⟩
noncomputable def CW (K:PySem.W.Frag)(a:Addr):It:=
 ⟨fun i H=>∃ xs x,SqT K H a xs/\xs[i]?=some x,fun i H x H'=>H'=H/\∀ xs,SqT K H a xs->xs[i]?=some x,fun i H=>∃ xs,SqT K H a xs/\xs.length<=i⟩
noncomputable def Cw (lo:Int)(n:Nat):It:=⟨fun i _=>i<n,fun i H x H'=>H'=H/\x=.int (lo+i),fun i _=>n<=i⟩
theorem qN {P:Program}{w:World}{K:PySem.W.Frag}{tg:Expr}(a it:Addr):Turn P w K tg (CV K a) [it] it (fun i h=>h.IsListIter it a i) where
 mem:=by simp
 obj:=fun i h st b hb=>by
  have e:b=it:=by simpa using hb
  subst e
  obtain⟨o,e,c,d⟩:=st
  exact⟨o,e,fun v z=>by rw[d]at z;cases z⟩
 keep:=fun i h h' st k=>st.at fun o e=>k it (by simp) o e
 item:=by
  intro X hP hw hK hc i pins s σ H E I hf st hg
  subst hP hw hK
  obtain⟨xs,x,hq,hx⟩:=hg
  obtain⟨its,rv,p,hz⟩:=I.list hq
  obtain⟨u,hu,ru⟩:=rv.get hx
  obtain⟨f0,f1,f2,f3,f4,f5⟩:=hf it (by simp)
  refine wpAny_pyNext_list_item st p.isList (x:=u) (by simpa using hu) fun h' st' sb=>?_
  have I1:Inv X pins σ H { s with heap:=h' }:=I.turned (t':=s.toks) (fun b o hb e=>(sb.2 b hb).trans e) f0 f1 f3 f4 f5
  obtain⟨o,e,c,d⟩:=id st'
  exact⟨u,rfl,sG (s:={ s with heap:=h' }) e c d (by decide) ⟨x,H,I1,ru,⟨rfl,fun ys hy=>by rw[I.list_inj hy hq];exact hx⟩,st',fun b hb=>(hf b hb).1⟩⟩
 done:=by
  intro X hP hw hK hc i pins s σ H E I hf st hg
  subst hP hw hK
  obtain⟨xs,hq,hx⟩:=hg
  obtain⟨its,rv,p,hz⟩:=I.list hq
  obtain⟨f0,f1,f2,f3,f4,f5⟩:=hf it (by simp)
  have hl:=rv.length
  exact wpAny_pyNext_list_end (I.ok.hd hc) st p.isList (by simp;omega) fun h' eb=>⟨rfl,I.turned (t':=s.toks) (fun b o hb e=>eb b o hb e) f0 f1 f3 f4 f5⟩
 self:=fun _ _ _ _ _ st h=>wpAny_pyIter_listiter st h
theorem oh {P:Program}{w:World}{K:PySem.W.Frag}{tg:Expr}(a it:Addr):Turn P w K tg (CW K a) [it] it (fun i h=>h.IsTupleIter it a i) where
 mem:=by simp
 obj:=fun i h st b hb=>by
  have e:b=it:=by simpa using hb
  subst e
  obtain⟨o,e,c,d⟩:=st
  exact⟨o,e,fun v z=>by rw[d]at z;cases z⟩
 keep:=fun i h h' st k=>st.at fun o e=>k it (by simp) o e
 item:=by
  intro X hP hw hK hc i pins s σ H E I hf st hg
  subst hP hw hK
  obtain⟨xs,x,hq,hx⟩:=hg
  obtain⟨its,rv,p,hz⟩:=I.tuple hq
  obtain⟨u,hu,ru⟩:=rv.get hx
  obtain⟨f0,f1,f2,f3,f4,f5⟩:=hf it (by simp)
  refine wpAny_pyNext_tuple_item st (show s.heap.IsTuple a its.toArray from p) (x:=u) (by simpa using hu) fun h' st' sb=>?_
  have I1:Inv X pins σ H { s with heap:=h' }:=I.turned (t':=s.toks) (fun b o hb e=>(sb.2 b hb).trans e) f0 f1 f3 f4 f5
  obtain⟨o,e,c,d⟩:=id st'
  exact⟨u,rfl,sG (s:={ s with heap:=h' }) e c d (by decide) ⟨x,H,I1,ru,⟨rfl,fun ys hy=>by rw[I.tuple_inj hy hq];exact hx⟩,st',fun b hb=>(hf b hb).1⟩⟩
 done:=by
  intro X hP hw hK hc i pins s σ H E I hf st hg
  subst hP hw hK
  obtain⟨xs,hq,hx⟩:=hg
  obtain⟨its,rv,p,hz⟩:=I.tuple hq
  obtain⟨f0,f1,f2,f3,f4,f5⟩:=hf it (by simp)
  have hl:=rv.length
  exact wpAny_pyNext_tuple_end (I.ok.hd hc) st (show s.heap.IsTuple a its.toArray from p) (by simp;omega) fun h' eb=>⟨rfl,I.turned (t':=s.toks) (fun b o hb e=>eb b o hb e) f0 f1 f3 f4 f5⟩
 self:=fun _ _ _ _ _ st h=>wpAny_pyIter_tupleiter st h
theorem oi {P:Program}{w:World}{K:PySem.W.Frag}{tg:Expr}(it:Addr)(lo:Int)(n:Nat):Turn P w K tg (Cw lo n) [it] it (fun i h=>IsRangeIter h it (lo+(i:Nat)*1) ((n:Int)-(i:Nat)) 1) where
 mem:=by simp
 obj:=fun i h st b hb=>by
  have e:b=it:=by simpa using hb
  subst e
  exact⟨_,st,fun v z=>by
   have z':Data.fields _=Data.cell v:=z
   cases z'⟩
 keep:=fun i h h' st k=>k it (by simp) _ st
 item:=by
  intro X hP hw hK hc i pins s σ H E I hf st hg
  subst hP hw hK
  obtain⟨f0,f1,f2,f3,f4,f5⟩:=hf it (by simp)
  have W:=Walks.range (prog:=X.prog) (w:=X.w) (I.ok.hd hc) it lo 1 n
  refine W.item i s _ _ hg st fun v h' tk hv st' kk=>?_
  obtain⟨t,rfl⟩:=hv
  have I1:Inv X pins σ H { s with heap:=h',toks:=tk }:=I.turned (fun b o hb e=>kk b o (by simpa using hb) e) f0 f1 f3 f4 f5
  refine⟨_,rfl,sG (s:={ s with heap:=h',toks:=tk }) (n:="range_iterator") st' rfl rfl (by decide) ⟨.int (lo+i),H,I1,⟨t,?_⟩,⟨rfl,rfl⟩,st',fun b hb=>(hf b hb).1⟩⟩
  rw[Int.mul_one]
 done:=by
  intro X hP hw hK hc i pins s σ H E I hf st hg
  subst hP hw hK
  obtain⟨f0,f1,f2,f3,f4,f5⟩:=hf it (by simp)
  exact wpAny_pyNext_range_end (I.ok.hd hc) st (by have:n<=i:=hg;omega) fun h' eb=>⟨rfl,I.turned (t':=s.toks) (fun b o hb e=>eb b o hb e) f0 f1 f3 f4 f5⟩
 self:=fun _ _ _ _ _ st h=>wpAny_pyIter_rangeiter st h
end L2
namespace L2
open PySem PySem.Spec PyProof.Rows
section
variable {X:Cx}{tg:Expr}
theorem sH {pins:List (Addr×Obj)}{σ:St}{H:Hp}{s:Shared}{R:It->Hp->Prop}{E:Value->Shared->Prop}{lo hi:Int}{t u v:Tok}{tk:Nat}(I:Inv X pins σ H s)(h1:-(2 ^ 62)<=lo)(h2:lo<2 ^ 62)(h3:-(2 ^ 62)<=hi)(h4:hi<2 ^ 62)
 (q:R (Cw lo (hi-lo).toNat) H):wpAny (model X.prog X.w) X.A (pyIter (.ref s.heap.objs.size)) (DO X pins σ tg R) E { s with heap:=s.heap.push { cls:=.type "range",data:=.fields #[.int lo t,.int hi u,.int 1 v] },toks:=tk }:=by
 refine wpAny_pyIter_range (IsRange.new ..) (small_one h1 h2 h3 h4) ?_
 have I1:Inv X pins σ H { s with heap:=s.heap.push { cls:=.type "range",data:=.fields #[.int lo t,.int hi u,.int 1 v] },toks:=tk }:=I.kept fun b o e=>Heap.get?_push_of_some _ e
 refine⟨(s.heap.push { cls:=.type "range",data:=.fields #[.int lo t,.int hi u,.int 1 v] }).objs.size,[(s.heap.push { cls:=.type "range",data:=.fields #[.int lo t,.int hi u,.int 1 v] }).objs.size],_,_,H,rfl,
  I1.kept (t':=tk) fun b o e=>Heap.get?_push_of_some _ e,oi _ lo (hi-lo).toNat,?_,fun b hb=>?_,q⟩
 ·have e1:lo+((0:Nat):Int)*1=lo:=by simp
  have e2:(((hi-lo).toNat:Nat):Int)-((0:Nat):Int)=Builtin.Range.rangeSize lo hi 1:=by rw[rangeSize_one];split<;>omega
  show IsRangeIter _ _ (lo+((0:Nat):Int)*1) ((((hi-lo).toNat:Nat):Int)-((0:Nat):Int)) 1
  rw[e1,e2]
  exact Heap.get?_push_size _ rfl
 ·have e:b=(s.heap.push { cls:=.type "range",data:=.fields #[.int lo t,.int hi u,.int 1 v] }).objs.size:=by simpa using hb
  subst e
  exact I1.fpOk (Nat.le_refl _) (I1.hok.fresh (Nat.le_refl _))
noncomputable def AX (ta:TA):TI:=fun σ H R=>ta σ H fun vs H1=>∃ j:Int,vs=[.int j]/\-(2 ^ 62)<=j/\j<2 ^ 62/\R (Cw 0 j.toNat) H1
theorem qO {a:Expr} {ta:TA} {p pos:Pos} (hg:Gl X "range") (hm:X.mg "range"=none) (ha:PA X [a] ta) (hs:autoParam (starEach [a] X.env=[(false,eval a X.env)]) autoR._auto_1):PI X tg (.Call (.Name "range" p) [a] [] pos) (AX ta):=by
 intro pins s σ H R I h
 refine Call_ (gd I hg hm boot_range (PyProof.Rows.callWith_type1 (da (ha pos pins s σ H _ I h) fun us s1 ⟨vs,H1,I1,r1,q1⟩=>?_) hs rfl))
 obtain⟨j,e,q1,q2,q⟩:=q1
 subst e
 cases r1 with
 |cons r rr=>
  cases rr
  obtain⟨t,rfl⟩:=r
  exact call_range_1 (sH I1 (by omega) (by omega) q1 q2 (by simpa using q))
noncomputable def CY (wi:TI)(g:TG)(tb:TS):TS:=fun D σ H=>wi σ H fun J H1=>∃ W:Nat->Nat->St->Hp->Prop,(∃ m,W 0 m σ H1)/\∀ i m σ H,W i m σ H->
 (J.stop i H/\D.nx σ H)\/(J.go i H/\∃ N:St->Hp->Prop,(∀ σ' H',N σ' H'->∃ m',m'<m/\W (i+1) m' σ' H')/\∀ x H',J.yld i H x H'->g x σ H' fun σ2 H2=>tb { D with nx:=N,ct:=N,bk:=D.nx } σ2 H2)
noncomputable def jT (fp:List Addr)(h:Heap):List (Addr×Obj):=fp.filterMap fun b=>(h.get? b).map fun o=>(b,o)
theorem fB {fp:List Addr}{h:Heap}{b:Addr}{o:Obj}(hb:b∈fp)(e:h.get? b=some o):(b,o)∈jT fp h:=List.mem_filterMap.mpr ⟨b,hb,by rw[e];rfl⟩
theorem qP {fp:List Addr}{h:Heap}{p:Addr×Obj}(hp:p∈jT fp h):p.1∈fp/\h.get? p.1=some p.2:=by
 obtain⟨b,hb,e⟩:=List.mem_filterMap.mp hp
 cases q:h.get? b with
 |none=>rw[q]at e;cases e
 |some o=>
  rw[q]at e
  have e':(b,o)=p:=Option.some.inj e
  subst e'
  exact⟨hb,q⟩
theorem Inv.pinned {pins:List (Addr×Obj)}{σ:St}{H:Hp}{s:Shared}{fp:List Addr}(I:Inv X pins σ H s)(hf:∀ b∈fp,FpOk X pins H b)(ho:∀ b∈fp,∃ o,s.heap.get? b=some o/\∀ v,o.data≠.cell v):Inv X (pins++jT fp s.heap) σ H s:=
 I.pins_of fun p hp=>(List.mem_append.mp hp).elim (fun z=>I.pin p (List.mem_append_right _ z)) fun z=>by
  obtain⟨hb,e⟩:=qP z
  obtain⟨f0,f1,f2,_⟩:=hf p.1 hb
  obtain⟨o,e',d⟩:=ho p.1 hb
  rw[e]at e';cases e'
  exact⟨e,f0,f1,f2,d⟩
theorem Inv.unpinned {pins pl:List (Addr×Obj)}{σ:St}{H:Hp}{s:Shared}(I:Inv X (pins++pl) σ H s):Inv X pins σ H s:=I.pins_of fun p hp=>I.pin p (List.mem_append_right _ (List.mem_append_left _ hp))
theorem yr {iter:Expr}{body:List Stmt}{wi:TI}{g:TG}{tb:TS}{pos:Pos}(hp:PassesOwn (model X.prog X.w) X.A X.env X.xe)(hc:X.calm=true)(hi:PI X tg iter wi)(hg:PG X tg g)(hb:PSs X body tb)
 (hs:autoParam (∀ x,foldedSetIterable iter X.env x=pure x) autoI._auto_1):PS X (.For tg iter body [] pos) (CY wi g tb):=by
 intro pins s σ H D I h
 refine wpAny_For (da (hi pins s σ H _ I h) fun v s1 h1=>da h1 fun itv s2 h2=>?_) hs
 obtain⟨it,fp,tn,J,H2,e,I2,T,st2,f2,W,⟨m0,w0⟩,turn⟩:=h2
 subst e
 have stat:∀{H':Hp},(∀ b∈fp,H' b=none)->∀ b∈fp,FpOk X pins H' b:=fun hn b hb=>⟨hn b hb,(f2 b hb).2⟩
 refine codeAny_forLoop_any (fun n s'=>∃ i σ' H',Inv X pins σ' H' s'/\tn i s'.heap/\(∀ b∈fp,H' b=none)/\W i n σ' H') ?_ m0 ⟨0,σ,H2,I2,st2,fun b hb=>(f2 b hb).1,w0⟩
 rintro n s3 ⟨i,σ3,H3,I3,st3,fr3,w3⟩
 rcases turn i n σ3 H3 w3 with⟨stop,qn⟩|⟨go,N,hN,step⟩
 ·refine wpAny_passesOwn hp (da (T.done X rfl rfl rfl hc i pins s3 σ3 H3 X.xe I3 (stat fr3) st3 stop) fun r s4 ⟨hr,I4⟩=>?_)
  subst hr
  exact wpAny_execs_nil ⟨σ3,H3,I4,qn⟩
 ·refine wpAny_passesOwn hp (da (T.item X rfl rfl rfl hc i pins s3 σ3 H3 X.xe I3 (stat fr3) st3 go) fun r s4 ⟨u,hr,h4⟩=>?_)
  subst hr
  refine wpAny_passesOwn hp (da h4 fun _ s5 ⟨x,H5,I5,r5,y5,st5,fr5⟩=>?_)
  have I5':=I5.pinned (stat fr5) (T.obj _ _ st5)
  refine wpAny_passesOwn hp (da (hg _ s5 σ3 H5 x u _ I5' r5 (step x H5 y5)) fun _ s6 ⟨σ6,H6,I6,q6⟩=>?_)
  refine wpAny_passesOwn hp (da (hb _ s6 σ6 H6 _ I6 q6) fun f s7 q7=>?_)
  have again:∀{σ7:St}{H7:Hp},Inv X (pins++jT fp s5.heap) σ7 H7 s7->N σ7 H7->∃ m,m<n/\∃ i σ' H',Inv X pins σ' H' s7/\tn i s7.heap/\(∀ b∈fp,H' b=none)/\W i m σ' H':=fun{σ7 H7} I7 n7=>by
   obtain⟨m',hm,w7⟩:=hN σ7 H7 n7
   refine⟨m',hm,i+1,σ7,H7,I7.unpinned,T.keep _ _ _ st5 fun b hb o e=>(I7.pin (b,o) (List.mem_append_right _ (List.mem_append_right _ (fB hb e)))).1,fun b hb=>?_,w7⟩
   obtain⟨o,e,d⟩:=T.obj _ _ st5 b hb
   exact(I7.pin (b,o) (List.mem_append_right _ (List.mem_append_right _ (fB hb e)))).2.1
  cases f with
  |next=>obtain⟨σ7,H7,I7,n7⟩:=q7;exact again I7 n7
  |cont=>obtain⟨σ7,H7,I7,n7⟩:=q7;exact again I7 n7
  |brk=>obtain⟨σ7,H7,I7,q7⟩:=q7;exact⟨σ7,H7,I7.unpinned,q7⟩
  |ret v=>obtain⟨x7,σ7,H7,I7,r7,q7⟩:=q7;exact⟨x7,σ7,H7,I7.unpinned,r7,q7⟩
end
end L2
namespace L2
open PySem PySem.Spec PyProof.Rows
noncomputable abbrev R2:=V->V->Hp->VK->Prop
noncomputable def OpR (X:Cx)(f:Value->Value->Sem Value)(r:R2):Prop:=
 ∀(pins:List (Addr×Obj))(s:Shared)(σ:St)(H:Hp)(x y:V)(v u:Value)(Q:VK),Inv X pins σ H s->RelV x v->RelV y u->r x y H Q->
  wpAny (model X.prog X.w) X.A (f v u) (EP X pins σ Q) X.xe s
noncomputable def CZ (X:Cx)(f:Value->Sem Value)(r:V->Hp->VK->Prop):Prop:=
 ∀(pins:List (Addr×Obj))(s:Shared)(σ:St)(H:Hp)(x:V)(v:Value)(Q:VK),Inv X pins σ H s->RelV x v->r x H Q->
  wpAny (model X.prog X.w) X.A (f v) (EP X pins σ Q) X.xe s
noncomputable def CallR (X:Cx)(f:Value)(r:List V->Hp->VK->Prop):Prop:=
 ∀(pins:List (Addr×Obj))(s:Shared)(σ:St)(H:Hp)(xs:List V)(us:List Value)(Q:VK),Inv X pins σ H s->Vals xs us->r xs H Q->
  wpAny (model X.prog X.w) X.A (call f us) (EP X pins σ Q) X.xe s
noncomputable def C0 (X:Cx)(r:V->Hp->(Bool->Hp->Prop)->Prop):Prop:=
 ∀(pins:List (Addr×Obj))(s:Shared)(σ:St)(H:Hp)(x:V)(v:Value)(Q:Bool->Hp->Prop),Inv X pins σ H s->RelV x v->r x H Q->
  wpAny (model X.prog X.w) X.A (truthy v) (TP X pins σ Q) X.xe s
noncomputable def AK (r:R2)(ta tb:TE):TE:=fun σ H Q=>ta σ H fun x H1=>tb σ H1 fun y H2=>r x y H2 Q
noncomputable def D9 (r:V->Hp->VK->Prop)(ta:TE):TE:=fun σ H Q=>ta σ H fun x H1=>r x H1 Q
noncomputable def rI (C:Int->Int->Prop)(g:Int->Int->V):R2:=fun x y H Q=>∃ i j,x=.int i/\y=.int j/\C i j/\Q (g i j) H
noncomputable def xy (g:Int->Int->V):R2:=fun x y H Q=>∃ i j,x=.int i/\y=.int j/\Q (g i j) H
noncomputable def rU (g:Int->V):V->Hp->VK->Prop:=fun x H Q=>∃ i,x=.int i/\Q (g i) H
section
variable {X:Cx}{a b c:Expr}{ta tb tc:TE}{pos:Pos}
theorem yt (ha:PE X a ta)(hb:PE X b tb){pins:List (Addr×Obj)}{s:Shared}{σ:St}{H:Hp}{R:V->V->Hp->Prop}(I:Inv X pins σ H s)
 (h:ta σ H fun x H1=>tb σ H1 fun y H2=>R x y H2) {Q:Value->Shared->Prop} {f:Value->Value->Sem Value}
 (hf:∀ v u s2 x y H2,Inv X pins σ H2 s2->RelV x v->RelV y u->R x y H2->wpAny (model X.prog X.w) X.A (f v u) Q X.xe s2) :
 wpAny (model X.prog X.w) X.A (eval a X.env) (fun v s₁=>wpAny (model X.prog X.w) X.A (eval b X.env) (fun u s₂=>wpAny (model X.prog X.w) X.A (f v u) Q X.xe s₂) X.xe s₁) X.xe s:=by
 refine da (ha pins s σ H _ I h) fun v s1 ⟨x,H1,I1,r1,q1⟩=>?_
 refine da (hb pins s1 σ H1 _ I1 q1) fun u s2 ⟨y,H2,I2,r2,q2⟩=>?_
 exact hf v u s2 x y H2 I2 r1 r2 q2
theorem AY {op:Operator}{r:R2}(ho:OpR X (binaryOp op) r)(ha:PE X a ta)(hb:PE X b tb):PE X (.BinOp a op b pos) (AK r ta tb):=by
 intro pins s σ H Q I h
 exact wpAny_BinOp (yt ha hb I h fun v u s2 x y H2 I2 rx ry q=>ho pins s2 σ H2 x y v u Q I2 rx ry q)
theorem AZ {op:UnaryOp}{r:V->Hp->VK->Prop}(ho:CZ X (unaryOp op) r)(ha:PE X a ta):PE X (.UnaryOp op a pos) (D9 r ta):=by
 intro pins s σ H Q I h
 exact UnaryOp_ (da (ha pins s σ H _ I h) fun v s1 ⟨x,H1,I1,r1,q1⟩=>ho pins s1 σ H1 x v Q I1 r1 q1)
theorem Cy {f:Value->Value->Sem Value}{C:Int->Int->Prop}{g:Int->Int->Int}
 (rule:∀(i j:Int)(t u:Tok)(s:Shared)(Q:Value->Shared->Prop)(E:Value->Shared->Prop),C i j->Q (.int (g i j) s.toks) { s with toks:=s.toks+1 }->wpAny (model X.prog X.w) X.A (f (.int i t) (.int j u)) Q E s) :
 OpR X f (rI C fun i j=>.int (g i j)):=by
 intro pins s σ H x y v u Q I rx ry h
 obtain⟨i,j,rfl,rfl,hc,q⟩:=h
 obtain⟨t,rfl⟩:=rx
 obtain⟨t',rfl⟩:=ry
 exact rule i j t t' s _ _ hc ⟨.int (g i j),H,I.tok _,⟨_,rfl⟩,q⟩
theorem A0 {f:Value->Value->Sem Value}{g:Int->Int->Int}
 (rule:∀(i j:Int)(t u:Tok)(s:Shared)(Q:Value->Shared->Prop)(E:Value->Shared->Prop),Q (.int (g i j) s.toks) { s with toks:=s.toks+1 }->wpAny (model X.prog X.w) X.A (f (.int i t) (.int j u)) Q E s) :
 OpR X f (xy fun i j=>.int (g i j)):=by
 intro pins s σ H x y v u Q I rx ry h
 obtain⟨i,j,rfl,rfl,q⟩:=h
 obtain⟨t,rfl⟩:=rx
 obtain⟨t',rfl⟩:=ry
 exact rule i j t t' s _ _ ⟨.int (g i j),H,I.tok _,⟨_,rfl⟩,q⟩
theorem yu {f:Value->Value->Sem Value}{g:Int->Int->Bool}
 (rule:∀(i j:Int)(t u:Tok)(s:Shared)(Q:Value->Shared->Prop)(E:Value->Shared->Prop),Q (.bool (g i j)) s->wpAny (model X.prog X.w) X.A (f (.int i t) (.int j u)) Q E s) :
 OpR X f (xy fun i j=>.bl (g i j)):=by
 intro pins s σ H x y v u Q I rx ry h
 obtain⟨i,j,rfl,rfl,q⟩:=h
 obtain⟨t,rfl⟩:=rx
 obtain⟨t',rfl⟩:=ry
 exact rule i j t t' s _ _ ⟨.bl (g i j),H,I,rfl,q⟩
noncomputable def C1 (i j:Int):Prop:=0<j/\j<1073741824
noncomputable def C2 (i j:Int):Prop:=0<=j/\j<=1000000/\i.natAbs<2 ^ 64
noncomputable def CMul (i j:Int):Prop:=(-(2 ^ 64)<i/\i<2 ^ 64)\/(-(2 ^ 64)<j/\j<2 ^ 64)
theorem CMul.ok {i j:Int}(h:CMul i j):IntMulOk i j:=by
 rcases h with⟨h1,h2⟩|⟨h1,h2⟩
 ·exact .of_left (intBits_le_64 h1 h2)
 ·exact .of_right (intBits_le_64 h1 h2)
theorem op_add:OpR X (binaryOp .Add) (xy fun i j=>.int (i+j)):=A0 fun _ _ _ _ _ _ _ q=>add_int q
theorem yw:OpR X (binaryOp .Sub) (xy fun i j=>.int (i-j)):=A0 fun _ _ _ _ _ _ _ q=>sub_int q
theorem yx:OpR X (binaryOp .Mult) (rI CMul fun i j=>.int (i*j)):=Cy fun _ _ _ _ _ _ _ hc q=>mul_int q hc.ok
theorem vD:OpR X (binaryOp .FloorDiv) (rI C1 fun i j=>.int (i / j)):=Cy fun i j _ _ _ _ _ hc q=>by
 have h1:(0:Int)<j:=hc.1
 have h2:j<1073741824:=hc.2
 exact floordiv_int (by omega) (by rw[Int.fdiv_eq_ediv_of_nonneg i (by omega)];exact q) (.inl (PyProof.noPylong_small (by omega)))
theorem yz:OpR X (binaryOp .Mod) (rI (fun _ j=>0<j) fun i j=>.int (i % j)):=Cy fun i j _ _ _ _ _ hc q=>by
 have h1:(0:Int)<j:=hc
 exact mod_int' (by omega) (by rw[Int.fmod_eq_emod_of_nonneg i (by omega)];exact q)
theorem yA:OpR X (binaryOp .Pow) (rI C2 fun i j=>.int (i ^ j.toNat)):=Cy fun _ _ _ _ _ _ _ hc q=>pow_int_small hc.1 hc.2.1 hc.2.2 q
theorem D_ {f:Value->Sem Value}{g:Int->Int}
 (rule:∀(i:Int)(t:Tok)(s:Shared)(Q:Value->Shared->Prop)(E:Value->Shared->Prop),Q (.int (g i) s.toks) { s with toks:=s.toks+1 }->wpAny (model X.prog X.w) X.A (f (.int i t)) Q E s) :
 CZ X f (rU fun i=>.int (g i)):=by
 intro pins s σ H x v Q I rx h
 obtain⟨i,rfl,q⟩:=h
 obtain⟨t,rfl⟩:=rx
 exact rule i t s _ _ ⟨.int (g i),H,I.tok _,⟨_,rfl⟩,q⟩
theorem yB:CZ X (unaryOp .USub) (rU fun i=>.int (-i)):=D_ fun _ _ _ _ _ q=>neg_int q
end
section
variable {X:Cx}{a b c:Expr}{ta tb tc:TE}{pos:Pos}
theorem A1:OpR X (compareOp .Lt) (xy fun i j=>.bl (decide (i<j))):=yu fun _ _ _ _ _ _ _ q=>lt_int q
theorem A2:OpR X (compareOp .LtE) (xy fun i j=>.bl (decide (i<=j))):=yu fun _ _ _ _ _ _ _ q=>le_int q
theorem A3:OpR X (compareOp .GtE) (xy fun i j=>.bl (decide (j<=i))):=yu fun _ _ _ _ _ _ _ q=>ge_int q
theorem OpR.or {f:Value->Value->Sem Value}{r r':R2}(h:OpR X f r)(h':OpR X f r'):OpR X f (fun x y H Q=>r x y H Q\/r' x y H Q):=by
 intro pins s σ H x y v u Q I rx ry q
 rcases q with q|q
 ·exact h pins s σ H x y v u Q I rx ry q
 ·exact h' pins s σ H x y v u Q I rx ry q
theorem aA (b:Expr){op:CmpOp}(h:autoParam (op≠.In) autoD._auto_1)(h2:autoParam (op≠.NotIn) autoD._auto_1):behindInMarks op b=false:=by
 have e1:(op==CmpOp.In)=false:=by cases op<;>first|rfl|exact absurd rfl h
 have e2:(op==CmpOp.NotIn)=false:=by cases op<;>first|rfl|exact absurd rfl h2
 cases b<;>simp[behindInMarks,e1,e2]
theorem vE {op:CmpOp}{r:R2}(ho:OpR X (compareOp op) r)(ha:PE X a ta)(hb:PE X b tb)(hm:behindInMarks op b=false):PE X (.Compare a [op] [b] pos) (AK r ta tb):=by
 intro pins s σ H Q I h
 exact wpAny_Compare1 (yt ha hb I h fun v u s2 x y H2 I2 rx ry q=>ho pins s2 σ H2 x y v u Q I2 rx ry q) hm
noncomputable def A4 (t:TE):TT:=fun σ H Q=>t σ H fun x H'=>∃ k,x=.bl k/\Q k H'
theorem vF {op:CmpOp}{r:R2}(ho:OpR X (compareOp op) r)(ha:PE X a ta)(hb:PE X b tb)(hm:behindInMarks op b=false):PT X (.Compare a [op] [b] pos) (A4 (AK r ta tb)):=by
 intro pins s σ H Q I h
 refine wpAny_isTrue_Compare1 (da (ha pins s σ H _ I h) fun v s1 ⟨x,H1,I1,r1,q1⟩=>da (hb pins s1 σ H1 _ I1 q1) fun u s2 ⟨y,H2,I2,r2,q2⟩=>
  da (ho pins s2 σ H2 x y v u _ I2 r1 r2 q2) fun c s3 ⟨z,H3,I3,r3,k,e,q3⟩=>?_) hm
 subst e
 cases r3
 exact wpAny_truthy_bool ⟨H3,I3,q3⟩
noncomputable def yC (K:PySem.W.Frag)(x:V)(H:Hp)(k:Bool):Prop:=
 match x with
 | .non=>k=false
 | .bl b=>k=b
 | .int i=>k=(i != 0)
 | .str y=>y.length<=sizeLine/\k=((y.length:Int) != 0)
 | .byt y=>y.size<=sizeLine/\k=((y.size:Int) != 0)
 | .ref p=>(∃ xs,SqL K H p xs/\k=!xs.isEmpty)\/(∃ xs,SqT K H p xs/\k=!xs.isEmpty)\/∃ kvs,H p=some (.dK kvs)/\k=!kvs.isEmpty
 |_=>False
theorem oj {κ:Type}{kvs:List (κ×V)}{vs:List (κ×Value)}(r:KV kvs vs):(!vs.isEmpty)=!kvs.isEmpty:=by
 cases r<;>rfl
theorem jU {xs:List V}{its:List Value}(r:Vals xs its):(!its.toArray.isEmpty)=!xs.isEmpty:=by
 cases r<;>simp
theorem iT:(sizeLine:Nat)<2 ^ 63:=by rw[sizeLine_eq];decide
theorem yD:C0 X (fun x H Q=>∃ k,yC X.K x H k/\Q k H):=by
 intro pins s σ H x v Q I rx h
 obtain⟨k,e,q⟩:=h
 have hl:=iT
 have hs:sizeLine=16777216:=sizeLine_eq
 cases x with
 |non=>
  cases rx
  have e':k=false:=e
  subst e'
  exact truthy_none ⟨H,I,q⟩
 |bl b=>
  cases rx
  have e':k=b:=e
  subst e'
  exact wpAny_truthy_bool ⟨H,I,q⟩
 |int i=>
  obtain⟨t,rfl⟩:=rx
  have e':k=(i != 0):=e
  subst e'
  exact PySem.P.truthy_int ⟨H,I,q⟩
 |str y=>
  obtain⟨t,rfl⟩:=rx
  obtain⟨hy,e'⟩ : y.length<=sizeLine/\k=((y.length:Int) != 0):=e
  subst e'
  exact PySem.P.truthy_str (by omega) ⟨H,I.tok _,q⟩
 |byt y=>
  obtain⟨t,rfl⟩:=rx
  obtain⟨hy,e'⟩ : y.size<=sizeLine/\k=((y.size:Int) != 0):=e
  subst e'
  exact PySem.W.truthy_bytes (by omega) ⟨H,I.tok _,q⟩
 |ref p=>
  cases rx
  have e':(∃ xs,SqL X.K H p xs/\k=!xs.isEmpty)\/(∃ xs,SqT X.K H p xs/\k=!xs.isEmpty)\/∃ kvs,H p=some (.dK kvs)/\k=!kvs.isEmpty:=e
  rcases e' with⟨xs,hx,e'⟩|⟨xs,hx,e'⟩|⟨kvs,hx,e'⟩
  ·subst e'
   obtain⟨its,r,pl,hz⟩:=I.list hx
   have bX:=r.length
   exact wpAny_truthy_list pl.isList (by simp only[List.size_toArray];omega) ⟨H,I.tok _,by rw[jU r];exact q⟩
  ·subst e'
   obtain⟨its,r,pl,hz⟩:=I.tuple hx
   have bX:=r.length
   exact truthy_tuple pl (by simp only[List.size_toArray];omega) ⟨H,I.tok _,by rw[jU r];exact q⟩
  ·subst e'
   obtain⟨hz,hS,vs,r,m⟩ : kvs.length<=sizeLine/\(p==sysModules)=false/\∃ vs,KV kvs vs/\s.heap.DictOf (aT X.prog X.w) p vs:=I.hok p _ hx
   have bX:kvs.length=vs.length:=Paired.length r
   exact wpAny_truthy_dict hS m (by omega) ⟨H,I.tok _,by rw[oj r];exact q⟩
 |_=>exact(show False from e).elim
theorem sI (ha:PE X a ta)(he:∀ whole,isTrue a X.env whole=(do let v <- whole;standAt a.pos;holding [v] (truthy v))) :
 PT X a (fun σ H Q=>ta σ H fun x H'=>∃ k,yC X.K x H' k/\Q k H'):=by
 intro pins s σ H Q I h
 exact isTrue_plain (da (ha pins s σ H _ I h) fun v s1 ⟨x,H1,I1,r1,q1⟩=>yD pins s1 σ H1 x v Q I1 r1 q1) (he _)
theorem om:OpR X (binaryOp .Add) (fun x y H Q=>∃ i j,x=.str i/\y=.str j/\i.length+j.length<=sizeLine/\Q (.str (i++j)) H):=by
 intro pins s σ H x y v u Q I rx ry h
 obtain⟨i,j,rfl,rfl,hz,q⟩:=h
 obtain⟨t,rfl⟩:=rx
 obtain⟨t',rfl⟩:=ry
 exact add_str (fun t' tk=>⟨.str (i++j),H,I.tok _,⟨_,rfl⟩,q⟩) hz
theorem jj {x:V}{us:List Value}(r:Vals [x] us):∃ u,us=[u]/\RelV x u:=by
 cases r with
 |cons r1 r2=>cases r2;exact⟨_,rfl,r1⟩
theorem m5 {x y:V}{us:List Value}(r:Vals [x,y] us):∃ u w',us=[u,w']/\RelV x u/\RelV y w':=by
 cases r with
 |cons r1 r2=>
  cases r2 with
  |cons r3 r4=>cases r4;exact⟨_,_,rfl,r1,r3⟩
theorem qQ (hc:X.calm=true):CallR X (.builtin "max") (fun xs H Q=>∃ i j,xs=[.int i,.int j]/\Q (.int (if j>i then j else i)) H):=by
 intro pins s σ H xs us Q I r h
 obtain⟨i,j,rfl,q⟩:=h
 obtain⟨u,w',rfl,⟨t,rfl⟩,⟨t',rfl⟩⟩:=m5 r
 refine max_two_ints (I.ok.hd hc) fun h' tk k=>⟨_,H,I.kept k,?_,q⟩
 by_cases hj:j>i
 ·rw[if_pos hj,if_pos hj];exact⟨_,rfl⟩
 ·rw[if_neg hj,if_neg hj];exact⟨_,rfl⟩
theorem qR:CallR X (.type "int") (fun xs H Q=>(∃ i,xs=[.int i]/\Q (.int i) H)\/∃ k,xs=[.bl k]/\Q (.int (if k then 1 else 0)) H):=by
 intro pins s σ H xs us Q I r h
 rcases h with⟨i,rfl,q⟩|⟨k,rfl,q⟩
 ·obtain⟨u,rfl,t,rfl⟩:=jj r
  exact call_int_int ⟨.int i,H,I,⟨_,rfl⟩,q⟩
 ·obtain⟨u,rfl,r1⟩:=jj r
  cases r1
  exact call_int_bool ⟨.int (if k then 1 else 0),H,I.tok _,⟨_,rfl⟩,q⟩
end
end L2
namespace L2
open PySem PySem.Spec PyProof.Rows
structure ObjM (h:Heap) (x dx C:Addr) (mA:Str->Option Value):Prop where
 obj:h.get? x=some (PySem.W.instObj C dx)
 ns:h.Ns1 dx mA
 ne:dx≠x
theorem qS {h:Heap}{dx:Addr}{mA:Str->Option Value}(n:h.Ns1 dx mA):∃ od,h.get? dx=some od/\∀ name,PySem.W.lookIn name od=some (mA name):=by
 obtain⟨o,es,ep,ho,hd,hk,_,hm⟩:=n
 refine⟨o,ho,fun name=>?_⟩
 have e:=hm name
 unfold nsFind findBy at e
 rw[<- Array.find?_toList]at e
 unfold PySem.W.lookIn
 rw[hd]
 dsimp only
 split
 ·rename_i y q
  rw[q]at e
  exact congrArg some e
 ·rename_i q
  rw[q]at e
  have a:es.toList.any (·.refKey)=false:=by
   rw[List.any_eq_false]
   intro y hy
   obtain⟨z,t,sA⟩:=hk y (Array.mem_toList_iff.mp hy)
   simp[DictEntry.refKey,sA]
  have a':¬ es.toList.any (·.refKey)=true:=by rw[a];exact Bool.false_ne_true
  rw[if_neg a']
  exact congrArg some e
theorem ObjM.look {h:Heap}{x dx C:Addr}{mA:Str->Option Value}(I:ObjM h x dx C mA):∃ od,PySem.W.InstAt h x (PySem.W.instObj C dx) C (some od)/\∀ name,PySem.W.lookIn name od=some (mA name):=
 let ⟨od,ho,hl⟩:=qS I.ns
 ⟨od,⟨I.obj,rfl,rfl,ho⟩,hl⟩
section
variable {prog:Program}{w:World}{A:Around}{E:Value->Shared->Prop}{s:Shared}{K:PySem.W.Frag}{x dx C f:Addr}{mA:Str->Option Value}{name:Str}{v:Value}
end
theorem RelO.some_of {v:V}{o:Option Value}(r:RelO (some v) o):∃ u,o=some u/\RelV v u:=by
 cases o with
 |none=>exact(show False from r).elim
 |some u=>exact⟨u,rfl,r⟩
section
variable {P:Program}{w:World}{H H':Hp}{h h':Heap}{a C dx:Addr}{fs fs':List (Str×V)}
theorem vG (hok:HOk P w H h)(e:H a=some (.ins C dx fs)):∃ mA,ObjM h a dx C mA/\(∀ f,RelO (fs.lookup f) (mA f))/\PySem.Within mA (fs.map (·.1))/\fs.length<=1000/\H dx=some (.own a):=by
 obtain⟨d,z,ne,ob,mA,n,r,q⟩:=(show ObjOk P w H h a (.ins C dx fs) from hok a _ e)
 exact⟨mA,⟨ob,n,ne⟩,r,q,z,d⟩
end
structure Cls (K:PySem.W.Frag) (C:Addr):Prop where
 pg:PySem.W.plainGet K C Str.empty=true
 hd:PySem.W.hasDictIn K C=true
 po:PySem.W.plainOver K C=true
 sa:PySem.W.findIn K (.ref C) "__setattr__"=some (some (.builtin "object.__setattr__"))
theorem Cls.get {K:PySem.W.Frag}{C:Addr}(c:Cls K C)(f:Str):PySem.W.plainGet K C f=true:=c.pg
section
variable {X:Cx}{pins:List (Addr×Obj)}{σ:St}{H:Hp}{s:Shared}{a C dx:Addr}{fs:List (Str×V)}{f:Str}{v:V}{A:Around}{E:Value->Shared->Prop}
end
section
variable {X:Cx}{o e value:Expr}{f:Str}{pos pos' mS:Pos}{ta tv:TE}
end
section
variable {X:Cx}{pins:List (Addr×Obj)}{σ:St}{H:Hp}{s:Shared}{A:Around}{E:Value->Shared->Prop}{Q:Value->Shared->Prop}{c:Value}{b:Bool}
inductive TyOf (K:PySem.W.Frag) (H:Hp):V->Value->Prop where
 |non:TyOf K H .non (.type "NoneType")
 |bl (x:Bool):TyOf K H (.bl x) (.type "bool")
 |int (i:Int):TyOf K H (.int i) (.type "int")
 |str (x:Str):TyOf K H (.str x) (.type "str")
 |flt (x:UInt64):TyOf K H (.flt x) (.type "float")
 |lst {a:Addr} {xs:List V} (e:H a=some (.lst xs)):TyOf K H (.ref a) (.type "list")
 |frz {a:Addr} {o:Obj} {xs:List V} (e:H a=some (.frz o (.lst xs))):TyOf K H (.ref a) (.type "list")
 |tup {a:Addr} {xs:List V} (e:H a=some (.tup xs)):TyOf K H (.ref a) (.type "tuple")
 |dK {a:Addr} {kvs:List (Key×V)} (e:H a=some (.dK kvs)):TyOf K H (.ref a) (.type "dict")
 |dT {a:Addr} {kvs:List (List Key×V)} (e:H a=some (.dT kvs)):TyOf K H (.ref a) (.type "dict")
 |ins {a C dx:Addr} {fs:List (Str×V)} (e:H a=some (.ins C dx fs)) (cl:Cls K C) (ha:PySem.W.findIn K (.ref C) "__class__"=some (some (.builtin "object.__class__")))
  (hn:PySem.W.specialIn K (.builtin "object.__class__") "__get__"=some (some (.builtin "getset_descriptor.__get__"))) (htk:PySem.W.takesIn K (.builtin "object.__class__")=some true)
  (hm:PySem.W.mroIn K C (.type "object")=some true):TyOf K H (.ref a) (.ref C)
theorem qT {x:V}{u t:Value}(I:Inv X pins σ H s)(rx:RelV x u)(ty:TyOf X.K H x t)(e:PySem.W.kitOne X.K t c=some b)(h:∀ tk,Q (.bool b) { s with toks:=tk }) :
 wpAny (model X.prog X.w) A (call (.builtin "isinstance") [u,c]) Q E s:=by
 cases ty with
 |non=>cases (show u=Value.none from rx);exact PySem.W.kia_one PySem.W.kitx_none I.kIn True.intro e (fun z=>nomatch z) h
 |bl y=>cases (show u=Value.bool y from rx);exact PySem.W.kia_one PySem.W.kitx_bool I.kIn True.intro e (fun z=>nomatch z) h
 |int i=>obtain⟨t,q⟩:=(show ∃ t,u=Value.int i t from rx);cases q;exact PySem.W.kia_one PySem.W.kitx_int I.kIn True.intro e (fun z=>nomatch z) h
 |str y=>obtain⟨t,q⟩:=(show ∃ t,u=Value.str y t from rx);cases q;exact PySem.W.kia_one PySem.W.kitx_str I.kIn True.intro e (fun z=>nomatch z) h
 |flt y=>obtain⟨t,q⟩:=(show ∃ t,u=Value.float y t from rx);cases q;exact PySem.W.kia_one PySem.W.kitx_float I.kIn True.intro e (fun z=>nomatch z) h
 | @lst a xs ea=>
  cases (show u=Value.ref a from rx)
  obtain⟨_,_,n,_,h1⟩:=(show ObjOk X.prog X.w H s.heap a (.lst xs) from I.hok a _ ea)
  exact PySem.W.kia_one PySem.W.kitx_list I.kIn ⟨_,h1,rfl⟩ e (fun z=>nomatch z) h
 | @frz a ob xs ea=>
  cases (show u=Value.ref a from rx)
  obtain⟨_,_,_,n,_,h1⟩:=(show ObjOk X.prog X.w H s.heap a (.frz ob (.lst xs)) from I.hok a _ ea)
  exact PySem.W.kia_one PySem.W.kitx_list I.kIn ⟨_,h1,rfl⟩ e (fun z=>nomatch z) h
 | @tup a xs ea=>
  cases (show u=Value.ref a from rx)
  obtain⟨_,_,_,p⟩:=(show ObjOk X.prog X.w H s.heap a (.tup xs) from I.hok a _ ea)
  obtain⟨o,h1,h2,_⟩:=p
  exact PySem.W.kia_one PySem.W.kitx_tuple I.kIn ⟨o,h1,h2⟩ e (fun z=>nomatch z) h
 | @dK a kvs ea=>
  cases (show u=Value.ref a from rx)
  obtain⟨_,_,vs,_,p⟩:=(show ObjOk X.prog X.w H s.heap a (.dK kvs) from I.hok a _ ea)
  obtain⟨o,es,ep,h1,h2,_⟩:=p
  exact PySem.W.kia_one PySem.W.kitx_dict I.kIn ⟨o,h1,h2.1⟩ e (fun z=>nomatch z) h
 | @dT a kvs ea=>
  cases (show u=Value.ref a from rx)
  obtain⟨_,_,xs,_,o,es,ep,h1,h2,_⟩:=(show ObjOk X.prog X.w H s.heap a (.dT kvs) from I.hok a _ ea)
  exact PySem.W.kia_one PySem.W.kitx_dict I.kIn ⟨o,h1,h2.1⟩ e (fun z=>nomatch z) h
 | @ins a C dx fs ea cl ha hn htk hm=>
  cases (show u=Value.ref a from rx)
  obtain⟨mA,O,_⟩:=vG I.hok ea
  obtain⟨od,J,_⟩:=O.look
  exact PySem.W.kia_one (PySem.W.kitx_own (cl.get _) cl.hd ha hn htk hm) I.kIn J e (fun z=>nomatch z) h
end
end L2
namespace L2
open PySem PySem.Spec PyProof.Rows
structure Room (k:Nat) (A:Around):Prop where
 hd:A.handled=none
 dp:A.depth+3*k+5<recursionLimit
 un:A.units+16*k+200<cLine
theorem Room.mono {j k:Nat}{A:Around}(r:Room k A)(h:j<=k):Room j A:=⟨r.hd,by have:=r.dp;omega,by have:=r.un;omega⟩
theorem Room.deeper {k:Nat}{A:Around}(r:Room (k+1) A)(env:Env):Room k (A.deeper env):=
 ⟨r.hd,by have:=r.dp;show A.depth+1+3*k+5<_;omega,by have:=r.un;show A.units+3+16*k+200<_;omega⟩
theorem Room.in1 {k:Nat}{A:Around}(r:Room (k+1) A):Room k A.in1:=
 ⟨r.hd,by have:=r.dp;show A.depth+3*k+5<_;omega,by have:=r.un;show A.units+1+16*k+200<_;omega⟩
theorem Room.depth {k:Nat}{A:Around}(r:Room k A):A.depth<recursionLimit:=by have:=r.dp;omega
theorem Room.units {k:Nat}{A:Around}(r:Room k A):A.units+64<cLine:=by have:=r.un;omega
noncomputable def A5:TA:=fun _ H Q=>Q [] H
noncomputable def A6 (ta:TE)(tr:TA):TA:=fun σ H Q=>ta σ H fun x H1=>tr σ H1 fun xs H2=>Q (x::xs) H2
section
variable {X:Cx}{e:Expr}{es:List Expr}{te:TE}{t:TA}{pos:Pos}
theorem ge:PA X [] A5:=fun _ _ _ _ H Q I h=>Calls.spliced_nil ⟨[],H,I,.nil,h⟩
theorem d9 (ha:PE X e te)(hr:PA X es t)(hs:autoParam (starEach (e::es) X.env=(false,eval e X.env)::starEach es X.env) autoR._auto_1):PA X (e::es) (A6 te t):=by
 intro pos pins s σ H Q I h
 rw[hs]
 show wpAny _ _ (spliced ((false,eval e X.env)::backTo pos (starEach es X.env))) _ _ s
 refine Calls.spliced_cons (da (ha pins s σ H _ I h) fun u s1 ⟨x,H1,I1,r1,q1⟩=>?_)
 exact da (hr pos pins s1 σ H1 _ I1 q1) fun us s2 ⟨xs,H2,I2,r2,q2⟩=>⟨x::xs,H2,I2,.cons r1 r2,q2⟩
noncomputable def C3 (t:TA):TE:=fun σ H Q=>t σ H fun xs H1=>xs.length<=sizeLine/\∀ p,H1 p=none->Q (.ref p) (bz H1 p (.tup xs))
noncomputable def A7 (t:TA):TE:=fun σ H Q=>t σ H fun xs H1=>xs.length<=sizeLine/\∀ p,H1 p=none->Q (.ref p) (bz H1 p (.lst xs))
theorem yE {x1}(h:PA X es t):PE X (.Tuple es x1 pos) (C3 t):=by
 intro pins s σ H Q I hq
 refine wpAny_Tuple_spliced (da (h pos pins s σ H _ I hq) fun us s1 ⟨xs,H1,I1,r,z,q⟩=>⟨by rw[<- r.length];exact z,?_⟩)
 have hf:H1 s1.heap.objs.size=none:=I1.hok.fresh (Nat.le_refl _)
 refine⟨.ref s1.heap.objs.size,bz H1 s1.heap.objs.size (.tup xs),I1.laid (t':=s1.toks) (fun b u e=>Heap.get?_push_of_some _ e) (Nat.le_refl _) ?_,rfl,q _ hf⟩
 exact⟨z,us,r,⟨_,Heap.get?_push_size _ rfl,rfl,_,rfl⟩⟩
theorem sJ (h:PA X es t):PE X (.List es pos) (A7 t):=by
 intro pins s σ H Q I hq
 refine wpAny_List_spliced (da (h pos pins s σ H _ I hq) fun us s1 ⟨xs,H1,I1,r,z,q⟩=>⟨by rw[<- r.length];exact z,?_⟩)
 have hf:H1 s1.heap.objs.size=none:=I1.hok.fresh (Nat.le_refl _)
 refine⟨.ref s1.heap.objs.size,bz H1 s1.heap.objs.size (.lst xs),I1.laid (t':=s1.toks) (fun b u e=>Heap.get?_push_of_some _ e) (Nat.le_refl _) ?_,rfl,q _ hf⟩
 exact⟨z,us,0,r,Heap.get?_push_size _ rfl⟩
end
noncomputable abbrev Sp:=List V->Hp->VK->XK->Prop
noncomputable abbrev CXT:=List Env->Hp->Shared->XK->Value->Shared->Prop
structure Env0 (P:Program) (w:World) (K:PySem.W.Frag) (mg:Str->Option Value) (base:Heap) (A:Around) (outer:List Env) (s:Shared) (H:Hp):Prop where
 frames:A.frames=some outer
 mod:Mod K mg base
 bs:∀ b o,base.get? b=some o->s.heap.get? b=some o/\H b=none
 bsz:base.objs.size<=s.heap.objs.size
 funs:s.heap.FunFrames base outer
 frf:∀ b∈frs outer,H b=none
 hok:HOk P w H s.heap
 bare:AllBare s.gens
 kt:WrT K H
noncomputable def CE (outer:List Env)(P:Program)(w:World)(H:Hp)(s:Shared)(Q:VK)(u:Value)(s':Shared):Prop:=
 ∃ v H',s'.os=s.os/\AllBare s'.gens/\Un (frs outer) [] H H' s.heap s'.heap/\HOk P w H' s'.heap/\RelV v u/\Q v H'
noncomputable def CR (CX:CXT)(outer:List Env)(P:Program)(w:World)(H:Hp)(s:Shared)(Q:VK)(E:XK)(r:Result)(s':Shared):Prop:=
 match r with
 | .ok (.ret u)=>CE outer P w H s Q u s'
 | .ok _=>False
 | .error e=>CX outer H s E e s'
structure FnOk (P:Program) (w:World) (K:PySem.W.Frag) (mg:Str->Option Value) (base:Heap) (CX:CXT) (k:Nat) (f:Addr) (fd:FuncData) (ps:List Str) (sp:Sp):Prop where
 len:∀ vs H Q E,sp vs H Q E->vs.length=ps.length
 run:∀(A:Around)(outer:List Env)(s:Shared)(H:Hp)(args:Args)(us:List Value)(vs:List V)(Q:VK)(E:XK),Room k A->Env0 P w K mg base A outer s H->BindsTo s fd args (ps.zip us)->Vals vs us->sp vs H Q E->
  codeAny (model P w) A (.call (.ref f) args) (CR CX outer P w H s Q E) s
theorem FnOk.imp {P:Program}{w:World}{K:PySem.W.Frag}{mg:Str->Option Value}{base:Heap}{CX:CXT}{k:Nat}{f:Addr}{fd:FuncData}{ps:List Str}{sp sp':Sp}(F:FnOk P w K mg base CX k f fd ps sp)
 (h:∀ vs H Q E,sp' vs H Q E->sp vs H Q E):FnOk P w K mg base CX k f fd ps sp':=
 ⟨fun vs H Q E q=>F.len vs H Q E (h _ _ _ _ q),fun A outer s H args us vs Q E hr he hb hv hs=>F.run A outer s H args us vs Q E hr he hb hv (h _ _ _ _ hs)⟩
theorem Env0.in1 {P:Program}{w:World}{K:PySem.W.Frag}{mg:Str->Option Value}{base:Heap}{A:Around}{outer:List Env}{s:Shared}{H:Hp}(e:Env0 P w K mg base A outer s H) :
 Env0 P w K mg base A.in1 outer s H:=⟨e.frames,e.mod,e.bs,e.bsz,e.funs,e.frf,e.hok,e.bare,e.kt⟩
section
variable {X:Cx}{pins:List (Addr×Obj)}{σ:St}{H:Hp}{s s':Shared}
theorem Inv.env0 (I:Inv X pins σ H s):Env0 X.prog X.w X.K X.mg X.base X.A X.stack s H:=
 ⟨I.ok.frames,I.ok.mod,I.bs,Nat.le_trans I.ok.bsz I.sz,I.stack,I.stkFree,I.hok,I.bare,I.kt⟩
theorem Inv.after {Q:VK}{u:Value}(I:Inv X pins σ H s)(h:CE X.stack X.prog X.w H s Q u s'):EP X pins σ Q u s':=by
 obtain⟨v,H',os,bare,un,hok,r,q⟩:=h
 obtain⟨hh,g,d,t,os'⟩:=s'
 obtain rfl:os'=s.os:=os
 exact⟨v,H',I.call (h':=hh) (g':=g) (d':=d) (t':=t) (ch:=[]) un hok bare (fun b z=>absurd z (by simp)),r,q⟩
end
noncomputable def xz (sp:Sp)(dvs:List V)(E:XK)(t:TA):TE:=fun σ H Q=>t σ H fun vs H1=>sp (vs++dvs) H1 Q E
noncomputable def Binds (K:PySem.W.Frag)(fd:FuncData)(ps:List Str)(ds:List Value):Prop:=
 ∀(s:Shared)(us:List Value),K.In s.heap->(us++ds).length=ps.length->BindsTo s fd ⟨us,[]⟩ (ps.zip (us++ds))
theorem Binds.all {K:PySem.W.Frag}{fd:FuncData}{ps:List Str}(h:∀ us:List Value,us.length=ps.length->bindArgs fd ⟨us,[]⟩=pure (ps.zip us)):Binds K fd ps []:=fun s us _ hl=>by
 rw[List.append_nil]at hl ⊢
 exact .of_eq (h us hl)
noncomputable def jV (CX:CXT)(X:Cx)(E:XK):Prop:=∀(pins:List (Addr×Obj))(σ:St)(H:Hp)(s:Shared)(e:Value)(s':Shared),Inv X pins σ H s->CX X.stack H s E e s'->X.xe e s'
section
variable {X:Cx}{CX:CXT}{k:Nat}{f C:Addr}{fd:FuncData}{ps:List Str}{sp:Sp}{dvs:List V}{ds:List Value}{E:XK}{x m:Str}{p pos apos:Pos}{e o:Expr}{es:List Expr}{ta:TE}{t:TA}
theorem yF {pins:List (Addr×Obj)}{σ:St}{H:Hp}{s:Shared}{Q:VK}{us:List Value}{vs:List V}(F:FnOk X.prog X.w X.K X.mg X.base CX k f fd ps sp)(hr:Room k X.A)(hb:Binds X.K fd ps ds)(hd:Vals dvs ds)(hx:jV CX X E)
 (I:Inv X pins σ H s) (r:Vals vs us) (h:sp (vs++dvs) H Q E):wpAny (model X.prog X.w) X.A (call (.ref f) us) (EP X pins σ Q) X.xe s:=by
 have r2:Vals (vs++dvs) (us++ds):=r.append hd
 have hl:(us++ds).length=ps.length:=by rw[<- r2.length];exact F.len _ _ _ _ h
 refine wpAny_call (codeAny_mono (F.run X.A X.stack s H ⟨us,[]⟩ (us++ds) (vs++dvs) Q E hr I.env0 (hb s us I.kIn hl) r2 h) fun r s' hq=>?_)
 cases r with
 |error e=>exact hx pins σ H s e s' I hq
 |ok fl=>
  cases fl with
  |ret u=>exact I.after hq
  |next=>exact False.elim hq
  |brk=>exact False.elim hq
  |cont=>exact False.elim hq
theorem vH (F:FnOk X.prog X.w X.K X.mg X.base CX k f fd ps sp)(hr:Room k X.A)(hg:Gl X x)(hm:X.mg x=some (.ref f))(hk:PySem.W.keepIn X.K (.ref f)=true)(hb:Binds X.K fd ps ds)(hd:Vals dvs ds)(hx:jV CX X E)
 (ha:PA X (e::es) t) (hdb:autoParam ((x==("__debug__" : Str))=false) autoD._auto_1) (he:autoParam (starEach (e::es) X.env=(false,eval e X.env)::starEach es X.env) autoR._auto_1) (hpl:autoParam ((backTo pos (starEach es X.env)).any (·.1)=false) autoR._auto_1) :
 PE X (.Call (.Name x p) (e::es) [] pos) (xz sp dvs E t):=by
 intro pins s σ H Q I h
 refine wpAny_Call_Name_kw (l6 I hg hm ?_ hdb)
 refine PySem.W.callWith_K (h₀:=X.base) I.ok.mod.kin hk (da (ha pos pins s σ H _ I h) fun us s1 ⟨vs,H1,I1,r,q⟩=>⟨I1.kIn,?_⟩) he hpl
 exact yF F hr hb hd hx I1 r q
end
section
variable {X:Cx}{CX:CXT}{k:Nat}{f C:Addr}{fd:FuncData}{ps ks:List Str}{sp:Sp}{E:XK}{x m:Str}{p pos apos kpos:Pos}{e o:Expr}{es:List Expr}{kws:List Keyword}{te ta:TE}{t tk:TA}{nm:Option Str}
variable {g:List Value->List Value->List Value}{gV:List V->List V->List V}
end
structure FnScope (N P:List Str) (sc:Scope):Prop where
 kind:sc.kind=.function
 co:sc.isCoroutine=false
 gen:sc.isGenerator=false
 nd:N.Nodup
 pre:N.take P.length=P
 par:∀ x∈P,sc.names.lookup x=some .local\/sc.names.lookup x=some .cell
 nofree:∀ y∈sc.names,y.2≠.free
theorem lu {kindOf:Str->Option NameKind}{x:Str}:∀{binds:List (Str×Value)}{m:Str->Option Value},(∀ v,(x,v)∉binds)->bindL kindOf binds m x=m x
 | [],_,_=>rfl
 |(n,v)::r,m,h=>by
  unfold bindL
  rw[lu fun w hw=>h w (List.mem_cons_of_mem _ hw)]
  split
  ·have:x≠n:=by rintro rfl;exact h v List.mem_cons_self
   simp[this]
  ·rfl
theorem lv {kindOf:Str->Option NameKind}{x:Str}:∀{binds:List (Str×Value)}{m:Str->Option Value},(∀ v,(x,v)∉binds)->bindC kindOf binds m x=m x
 | [],_,_=>rfl
 |(n,v)::r,m,h=>by
  unfold bindC
  rw[lv fun w hw=>h w (List.mem_cons_of_mem _ hw)]
  split
  ·rfl
  ·have:x≠n:=by rintro rfl;exact h v List.mem_cons_self
   simp[this]
theorem lw {kindOf:Str->Option NameKind}{x:Str}{v:Value}:∀{P:List Str}{vs:List Value}{i:Nat}{m:Str->Option Value},P.Nodup->P[i]?=some x->vs[i]?=some v->kindOf x=some .local->
 bindL kindOf (P.zip vs) m x=some v
 | [],_,_,_,_,h,_,_=>by simp at h
 |_::_,[],_,_,_,_,h,_=>by simp at h
 |p::P,w::vs,0,m,nd,h1,h2,hk=>by
  simp at h1 h2;subst h1;subst h2
  show bindL kindOf ((p,w)::P.zip vs) m p=_
  unfold bindL
  rw[lu fun v hv=>(List.nodup_cons.mp nd).1 (List.of_mem_zip hv).1,if_pos hk]
  simp
 |p::P,w::vs,i+1,m,nd,h1,h2,hk=>by
  show bindL kindOf ((p,w)::P.zip vs) m x=_
  unfold bindL
  exact lw (i:=i) (List.nodup_cons.mp nd).2 (by simpa using h1) (by simpa using h2) hk
theorem lx {kindOf:Str->Option NameKind}{x:Str}{v:Value}:∀{P:List Str}{vs:List Value}{i:Nat}{m:Str->Option Value},P.Nodup->P[i]?=some x->vs[i]?=some v->kindOf x≠some .local->
 bindC kindOf (P.zip vs) m x=some v
 | [],_,_,_,_,h,_,_=>by simp at h
 |_::_,[],_,_,_,_,h,_=>by simp at h
 |p::P,w::vs,0,m,nd,h1,h2,hk=>by
  simp at h1 h2;subst h1;subst h2
  show bindC kindOf ((p,w)::P.zip vs) m p=_
  unfold bindC
  rw[lv fun v hv=>(List.nodup_cons.mp nd).1 (List.of_mem_zip hv).1,if_neg hk]
  simp
 |p::P,w::vs,i+1,m,nd,h1,h2,hk=>by
  show bindC kindOf ((p,w)::P.zip vs) m x=_
  unfold bindC
  exact lx (i:=i) (List.nodup_cons.mp nd).2 (by simpa using h1) (by simpa using h2) hk
noncomputable def fW (N:List Str)(vs:List V):St:=vs.map some++List.replicate (N.length-vs.length) none
noncomputable def oo (CX:CXT)(P:Program)(w:World)(K:PySem.W.Frag)(mg:Str->Option Value)(base:Heap)(N:List Str)(qual:Str)(scope:Scope)(f:Addr)(cd:Value)(A:Around)(outer:List Env)(s:Shared)(H:Hp)(E:XK):Cx where
 prog:=P
 w:=w
 K:=K
 mg:=mg
 base:=base
 A:=A.deeper (envOfC qual scope s.heap.objs.size f cd)
 N:=N
 s₀:=s
 H₀:=H
 env:=envOfC qual scope s.heap.objs.size f cd
 outer:=outer
 stack:=envOfC qual scope s.heap.objs.size f cd::outer
 ex:=[]
 calm:=true
 fn:=fun _=>true
 pn:=[]
 xe:=fun e s'=>wpAny (model P w) (A.deeper (envOfC qual scope s.heap.objs.size f cd)) (leaving (envOfC qual scope s.heap.objs.size f cd) e) (fun _ s''=>CX outer H s E e s'') (fun e' s''=>CX outer H s E e' s'') s'
theorem m6 {sc:Scope}{n:Nat}{x:Str}(h:sc.names.lookup x=some .cell):∃ c,(cellsFrom n sc.names []).lookup x=some c:=by
 have q:=PySem.W.cellsFrom_some sc.names n [] (.inl h)
 exact Option.isSome_iff_exists.mp q
theorem qU {CX:CXT}{P:Program}{w:World}{K:PySem.W.Frag}{mg:Str->Option Value}{base:Heap}{N ps:List Str}{qual:Str}{scope:Scope}{f:Addr}{cd:Value}{A:Around}{outer:List Env}{s s1:Shared}{H:Hp}{E:XK}{us:List Value}{vs:List V}
 (S:FnScope N ps scope) (hd:A.handled=none) (e0:Env0 P w K mg base A outer s H) (hl:vs.length=ps.length) (r:Vals vs us)
 (x:InCallC s s.heap.objs.size (bindL (envOfC qual scope s.heap.objs.size f cd).kindOf (ps.zip us) fun _=>none) (cellsFrom (s.heap.objs.size+1) scope.names []) (bindC (envOfC qual scope s.heap.objs.size f cd).kindOf (ps.zip us) fun _=>none) s1) :
 Inv (oo CX P w K mg base N qual scope f cd A outer s H E) [] (fW N vs) H s1:=by
 have hpl:ps.length<=N.length:=by have:=congrArg List.length S.pre;rw[List.length_take]at this;omega
 obtain⟨h1,tk,rfl,hk⟩:=x.done
 have noA:∀ b:Addr,b∉(oo CX P w K mg base N qual scope f cd A outer s H E).ex:=fun b z=>absurd (show b∈([]:List Addr) from z) (by simp)
 refine⟨⟨e0.mod,S.kind,rfl,rfl,Nat.le_refl _,fun y z c h1 h2=>?_,fun y hy=>?_,fun y c _ h=>?_,fun _=>hd,Around.frames_deeper e0.frames,.inr ⟨rfl,rfl⟩,fun b z=>absurd z (noA b),e0.bs,e0.bsz,fun b _ _=>noA b,fun b z=>absurd z (noA b),e0.funs,e0.frf,e0.kt⟩,
  rfl,e0.bare,Un.kept hk,⟨_,x.toInCall.ns,fun i y v h1 h2 h3=>?_⟩,fun y c h=>⟨_,x.cell y c h⟩,e0.hok.fresh (Nat.le_refl _),fun y c h=>?_,fun p hp=>absurd (show p∈([]:List (Addr×Obj)) from hp) (by simp),e0.hok.kept hk,?_⟩
 ·exact name_of_addr x.apart (PySem.mem_of_lookup h1) (PySem.mem_of_lookup h2)
 ·have hy:scope.names.lookup y=some .cell\/scope.names.lookup y=some .free:=hy
  rcases hy with hy|hy
  ·exact m6 hy
  ·exact absurd rfl (S.nofree _ (PySem.mem_of_lookup hy))
 ·exact Nat.le_of_lt (x.above y c (PySem.mem_of_lookup h))
 ·have hi:i<vs.length:=by
   unfold fW at h2
   by_cases hi:i<vs.length
   ·exact hi
   ·rw[List.getElem?_append_right (by simpa using hi)]at h2
    rw[List.getElem?_replicate]at h2
    split at h2<;>cases h2
  have ha:vs[i]?=some v:=by
   unfold fW at h2
   rw[List.getElem?_append_left (by simpa using hi),List.getElem?_map]at h2
   cases e:vs[i]? with
   |none=>rw[e]at h2;cases h2
   |some a=>rw[e]at h2;cases h2;rfl
  obtain⟨u,hu,rv⟩:=r.get ha
  have hp:ps[i]?=some y:=by
   rw[<- S.pre,List.getElem?_take_of_lt (by omega)];exact h1
  have ndP:ps.Nodup:=by rw[<- S.pre];exact S.nd.sublist (List.take_sublist _ _)
  refine⟨u,rv,?_⟩
  rcases S.par y (List.mem_of_getElem? hp) with k|k
  ·exact .inl ⟨k,lw ndP hp hu k⟩
  ·obtain⟨c,e⟩:=m6 (n:=s.heap.objs.size+1) k
   refine .inr ⟨.inl k,c,e,?_⟩
   have q:=x.cell y c e
   rw[lx ndP hp hu (by show scope.names.lookup y≠_;rw[k];decide)]at q
   exact q
 ·exact e0.hok.fresh (Nat.le_of_lt (x.above y c (PySem.mem_of_lookup h)))
 ·unfold fW
  show _=N.length
  rw[List.length_append,List.length_map,List.length_replicate]
  omega
theorem xA {CX:CXT}{P:Program}{w:World}{K:PySem.W.Frag}{mg:Str->Option Value}{base:Heap}{k:Nat}{f:Addr}{name qual:Str}{params:Arguments}{body:List Stmt}{scope:Scope}{dV kV doc pm cdv ct oc:Value}{an od:Option Addr}
 {osl:Array (Option Value)} {N ps:List Str} {sp:Sp} (lk:K.lookup f=some ⟨oc,od,.func (PySem.W.fnOf name qual params body scope dV kV doc pm an cdv ct),osl⟩) (hcd:PySem.W.codeIn K cdv qual=true) (S:FnScope N ps scope)
 (len:∀ vs H Q E,sp vs H Q E->vs.length=ps.length)
 (hbody:∀(A:Around)(outer:List Env)(s:Shared)(H:Hp)(vs:List V)(Q:VK)(E:XK),Room k (A.deeper (envOfC qual scope s.heap.objs.size f cdv))->sp vs H Q E->
   ∃ t,PSs (oo CX P w K mg base N qual scope f cdv A outer s H E) body t/\t { nx:=fun _ H'=>Q .non H',rt:=Q } (fW N vs) H) :
 FnOk P w K mg base CX (k+1) f (PySem.W.fnOf name qual params body scope dV kV doc pm an cdv ct) ps sp:=by
 refine⟨len,fun A outer s H args us vs Q E hr e0 hb r hsp=>?_⟩
 have hl:=len _ _ _ _ hsp
 have KX:K.In s.heap:=e0.mod.kin.keeps fun b o e=>(e0.bs b o e).1
 have lim:s.heap.NoLimit:=e0.mod.nolimit.keeps fun b o e=>(e0.bs b o e).1
 have hkind:∀ y∈ps.zip us,scope.names.lookup y.1=some .local\/(scope.names.lookup y.1=some .cell/\((cellsFrom (s.heap.objs.size+1) scope.names []).lookup y.1).isSome=true):=fun⟨n,v⟩ hy=>by
  rcases S.par n (List.of_mem_zip hy).1 with q|q
  ·exact .inl q
  ·exact .inr ⟨q,PySem.W.cellsFrom_some _ _ _ (.inl q)⟩
 refine codeAny_call_function hr.depth (KX _ _ lk) rfl S.co S.gen rfl (PySem.W.codeRec_of KX hcd) (hb _ _ _ _ ?_)
 refine wpAny_newFunctionEnv_cells S.kind hkind fun env he s1 x=>?_
 subst he
 refine⟨lim.keeps x.toInCall.keep,codeAny_func ?_⟩
 obtain⟨t,ht,hq⟩:=hbody A outer s H vs Q E (hr.deeper _) hsp
 have I:Inv (oo CX P w K mg base N qual scope f cdv A outer s H E) [] (fW N vs) H s1:=qU S hr.hd e0 hl r x
 refine wpAny_mono (ht [] s1 (fW N vs) H _ I hq) (fun fl s' hs=>?_) fun e s' hs=>hs
 have fin:∀{σ':St}{H':Hp}{v:V}{u:Value},Inv (oo CX P w K mg base N qual scope f cdv A outer s H E) [] σ' H' s'->RelV v u->Q v H'->CE outer P w H s Q u s':=
  fun{σ' H' v u} J rv q=>⟨v,H',J.os,J.bare,J.base,J.hok,rv,q⟩
 cases fl with
 |ret u=>
  obtain⟨v,σ',H',J,rv,q⟩:=hs
  exact fin J rv q
 |next=>
  obtain⟨σ',H',J,q⟩:=hs
  exact fin (v:=V.non) (u:=Value.none) J rfl q
 |brk=>
  obtain⟨_,_,_,q⟩:=hs
  exact False.elim q
 |cont=>
  obtain⟨_,_,_,q⟩:=hs
  exact False.elim q
end L2
namespace L2
open PySem PySem.Spec PyProof.Rows
section
variable {X:Cx}{x:Str}{p pos:Pos}{e:Expr}{es:List Expr}{t:TA}{id T:String}{r:List V->Hp->VK->Prop}
noncomputable def DP (r:List V->Hp->VK->Prop)(t:TA):TE:=fun σ H Q=>t σ H fun vs H1=>r vs H1 Q
theorem m7 (hc:CallR X (.builtin id) r) (hg:Gl X x) (hm:X.mg x=none) (hv:bootBuiltins x=some (.builtin id)) (ha:PA X (e::es) t) (hn:autoParam (x≠"__name__") autoD._auto_1) (hdb:autoParam ((x==("__debug__" : Str))=false) autoD._auto_1)
 (he:autoParam (starEach (e::es) X.env=(false,eval e X.env)::starEach es X.env) autoR._auto_1) (hpl:autoParam ((backTo pos (starEach es X.env)).any (·.1)=false) autoR._auto_1):PE X (.Call (.Name x p) (e::es) [] pos) (DP r t):=by
 intro pins s σ H Q I h
 refine wpAny_Call_Name_kw (gd I hg hm hv ?_ hn hdb)
 exact PyProof.Rows.callWith_builtin1 (da (ha pos pins s σ H _ I h) fun us s1 ⟨vs,H1,I1,r1,q1⟩=>hc pins s1 σ H1 vs us Q I1 r1 q1) he hpl
theorem qV (hc:CallR X (.type T) r) (hg:Gl X x) (hm:X.mg x=none) (hv:bootBuiltins x=some (.type T)) (ha:PA X (e::es) t) (hn:autoParam (x≠"__name__") autoD._auto_1) (hdb:autoParam ((x==("__debug__" : Str))=false) autoD._auto_1)
 (he:autoParam (starEach (e::es) X.env=(false,eval e X.env)::starEach es X.env) autoR._auto_1) (hpl:autoParam ((backTo pos (starEach es X.env)).any (·.1)=false) autoR._auto_1):PE X (.Call (.Name x p) (e::es) [] pos) (DP r t):=by
 intro pins s σ H Q I h
 refine wpAny_Call_Name_kw (gd I hg hm hv ?_ hn hdb)
 exact PyProof.Rows.callWith_type1 (da (ha pos pins s σ H _ I h) fun us s1 ⟨vs,H1,I1,r1,q1⟩=>hc pins s1 σ H1 vs us Q I1 r1 q1) he hpl
end
end L2
namespace HT
open PySem PyProof.Rows
section
open PySem.SeqAt
open PySem.AutoSeq1 (wpAny_loadPart')
open PySem.MeetsSeq PySem.MeetsSeq2 PySem.MeetsSeq3
end
section
variable {prog:Program}{w:World}{A:Around}{E:Value->Shared->Prop}{s:Shared}
theorem cat_tup {t b:Addr}{vs ws:List Value}{Q:Value->Shared->Prop}(ht:IsTup s.heap t vs.toArray)(hb:IsTup s.heap b ws.toArray)(hv:vs≠[])
 (h1:ws=[]->Q (.ref t) s) (h2:ws≠[]->Q (.ref s.heap.objs.size) { s with heap:=s.heap.push { cls:=.type "tuple",data:=.seq (vs++ws).toArray } })
 (hsz:vs.length+ws.length<=sizeLine):wpAny (model prog w) A (binaryOp .Add (.ref t) (.ref b)) Q E s:=by
 obtain⟨⟨cls,dd,data,sl⟩,ho,hc,n,hd⟩:=id ht
 obtain⟨⟨cls2,dd2,data2,sl2⟩,ho2,hc2,n2,hd2⟩:=id hb
 simp only at hc hd hc2 hd2
 subst hc hd hc2 hd2
 have e:vs.toArray++ws.toArray=(vs++ws).toArray:=by simp
 by_cases hw:ws=[]
 ·exact concat_meets ⟨_,ho,rfl⟩ ⟨_,ho2,rfl⟩ noFill_tuple_add seq_tuple_add PySem.F.slot_tuple_add PySem.F.entry_tuple_add (PySem.F.args_tuple_add_2 _ _)
   (tuple_addW1 t b vs.toArray ws.toArray n n2 dd dd2 sl sl2 (by simpa using hv) (by simp[hw])) ⟨ho,ho2,h1 hw⟩
 ·refine concat_meets ⟨_,ho,rfl⟩ ⟨_,ho2,rfl⟩ noFill_tuple_add seq_tuple_add PySem.F.slot_tuple_add PySem.F.entry_tuple_add (PySem.F.args_tuple_add_2 _ _)
   (tuple_addW2 t b vs.toArray ws.toArray n n2 dd dd2 sl sl2 (by simpa using hv) (by simpa using hw) (by rw[List.size_toArray,List.size_toArray];exact hsz)) ⟨ho,ho2,?_⟩
  rw[e]
  exact h2 hw
noncomputable def sIx (n d:Nat):Option Int->Nat
 |none=>d
 |some v=>if v<0 then (v+(n:Int)).toNat else min v.toNat n
theorem sIx_nat (n d k:Nat):sIx n d (some (k:Int))=min k n:=by
 show(if (k:Int)<0 then ((k:Int)+(n:Int)).toNat else min (k:Int).toNat n)=min k n
 rw[if_neg (by omega),Int.toNat_natCast]
theorem yG (n d:Nat)(hd:d<=n)(o:Option Int):sIx n d o<=n:=by
 cases o with
 |none=>exact hd
 |some v=>
  show(if v<0 then (v+(n:Int)).toNat else min v.toNat n)<=n
  by_cases hv:v<0
  ·rw[if_pos hv];omega
  ·rw[if_neg hv];exact Nat.min_le_right _ _
theorem pj (v:Int)(n d:Nat):(if v<0 then max (v+(n:Int)) 0 else min v (n:Int))=((sIx n d (some v):Nat):Int):=by
 show(if v<0 then max (v+(n:Int)) 0 else min v (n:Int))=(((if v<0 then (v+(n:Int)).toNat else min v.toNat n):Nat):Int)
 by_cases hv:v<0
 ·simp only[if_pos hv];omega
 ·simp only[if_neg hv];omega
theorem oq (lo hi:Option Int)(n:Nat):Builtin.Slice.sliceAdjust lo hi 1 (n:Int)=(((sIx n 0 lo:Nat):Int),((sIx n n hi:Nat):Int)):=by
 have h1:¬ ((1:Int)<0):=by omega
 unfold Builtin.Slice.sliceAdjust
 simp only[h1,if_false]
 refine Prod.ext ?_ ?_
 ·cases lo with
  |none=>rfl
  |some v=>exact pj v n 0
 ·cases hi with
  |none=>rfl
  |some v=>exact pj v n n
theorem ou (i j:Nat):Builtin.Slice.slicePlaces (i:Int) (j:Int) 1=j-i:=by
 unfold Builtin.Slice.slicePlaces
 have h1:(1:Int)>0:=by omega
 simp only[h1,if_true,Int.ediv_one]
 split<;>omega
theorem jW {v:Value}{o:Option Int}{Q:Option Int->Shared->Prop}(p:IsPart v o)(h:Q o s):wpAny (model prog w) A (Builtin.Slice.slicePartIndex v) Q E s:=by
 cases p with
 |none=>exact slicePart_none h
 |int i t=>exact slicePart_int h
theorem sliceApplied_gen {sl:Addr}{vl vu:Value}{lo hi:Option Int}{n:Nat}{Q:Int×Int×Nat->Shared->Prop}(hs:s.heap.IsSliceOf sl vl vu .none)(pl:IsPart vl lo)(pu:IsPart vu hi)
 (h:Q (((sIx n 0 lo:Nat):Int),1,sIx n n hi-sIx n 0 lo) s):wpAny (model prog w) A (Builtin.Slice.sliceApplied (.ref sl) (pure (n:Int))) Q E s:=by
 obtain⟨os,hos,hcs,hds⟩:=id hs
 unfold Builtin.Slice.sliceApplied Builtin.Slice.sliceFields
 refine wpAny_bind (wpAny_bind (wpAny_field hos hds (x:=vl) rfl (wpAny_bind (wpAny_field hos hds (x:=vu) rfl (wpAny_bind (wpAny_field hos hds (x:=.none) rfl (wpAny_pure ?_)))))))
 refine wpAny_bind (slicePart_none ?_)
 show wpAny _ _ (if ((1:Int)==0)=true then _ else _) _ _ s
 rw[if_neg (by decide)]
 refine wpAny_bind (jW pl (wpAny_bind (jW pu (wpAny_bind (wpAny_pure ?_)))))
 show wpAny _ _ (match Builtin.Slice.sliceAdjust lo hi 1 (n:Int) with|(lo,hi)=>pure (lo,(1:Int),Builtin.Slice.slicePlaces lo hi 1)) _ _ s
 rw[oq lo hi n]
 show wpAny _ _ (pure (((sIx n 0 lo:Nat):Int),(1:Int),Builtin.Slice.slicePlaces ((sIx n 0 lo:Nat):Int) ((sIx n n hi:Nat):Int) 1)) _ _ s
 rw[ou]
 exact wpAny_pure h
theorem sK (xs:Array Value)(i k:Nat):((List.range k).filterMap fun(m:Nat)=>xs[((i:Int)+(m:Int)*1).toNat]?).toArray=((xs.toList.drop i).take k).toArray:=by
 have e:(fun(m:Nat)=>xs[((i:Int)+(m:Int)*1).toNat]?)=fun m=>xs[i+m]?:=by
  funext m
  have:((i:Int)+(m:Int)*1).toNat=i+m:=by omega
  rw[this]
 rw[e]
 have:=pick_run xs i k
 rw[List.filterMap_map]at this
 have e2:((fun x=>xs[x]?) ∘ fun x=>i+x)=fun m=>xs[i+m]?:=rfl
 rw[e2]at this
 rw[this]
theorem getItem_tuple_cut {t sl:Addr}{items:Array Value}{vl vu:Value}{lo hi:Option Int}{Q:Value->Shared->Prop}(ht:IsTup s.heap t items)(hs:s.heap.IsSliceOf sl vl vu .none)(pl:IsPart vl lo)(pu:IsPart vu hi)
 (hw:¬ (sIx items.size 0 lo=0/\sIx items.size items.size hi=items.size))
 (h:Q (.ref s.heap.objs.size) { s with heap:=s.heap.push { cls:=.type "tuple",data:=.seq ((items.toList.drop (sIx items.size 0 lo)).take (sIx items.size items.size hi-sIx items.size 0 lo)).toArray } })
 (hsz:items.size<=sizeLine):wpAny (model prog w) A (getItem (.ref t) (.ref sl)) Q E s:=by
 have htake:sizeOk (.seq ((items.toList.drop (sIx items.size 0 lo)).take (sIx items.size items.size hi-sIx items.size 0 lo)).toArray):=by
  show((items.toList.drop (sIx items.size 0 lo)).take (sIx items.size items.size hi-sIx items.size 0 lo)).toArray.size<=sizeLine
  rw[List.size_toArray,List.length_take,List.length_drop,Array.length_toList]
  omega
 have hj:sIx items.size items.size hi<=items.size:=yG _ _ (Nat.le_refl _) hi
 obtain⟨os,hos,hcs,hds⟩:=id hs
 have hTs:s.TypeIs (.ref sl) "slice":=⟨os,hos,hcs⟩
 unfold getItem
 try with_reducible refine wpAny_holding ?_
 first|refine wpAny_bind (wpAny_pure ?_)|skip
 refine wpAny_bind (wpAny_sequenceKey ht.typeIs (by decide) ?_)
 refine wpAny_bind (wpAny_callSpecial?_slot (name:=Str.ofString "__getitem__") ht.typeIs PyProof.Rows.slot_tuple_getitem
  (wpAny_call_entry PyProof.Rows.slot_tuple_getitem ht.typeIs entry_tuple_getitem ?_ (args_tuple_getitem _ _)))
 show wpAny _ _ (Builtin.Tuple.tupleItemsOf (.ref t) >>= _) _ _ s
 refine wpAny_bind (tupleItemsOf_ ht ?_)
 refine wpAny_bind (wpAny_typeOf hTs ?_)
 rw[if_pos (by decide)]
 refine wpAny_bind (sliceApplied_gen hs pl pu ?_)
 have hno:¬ ((((sIx items.size 0 lo:Nat):Int)==0&&(1:Int)==1&&(sIx items.size items.size hi-sIx items.size 0 lo)==items.size)=true):=by
  intro q
  rw[Bool.and_eq_true,Bool.and_eq_true]at q
  have q1:((sIx items.size 0 lo:Nat):Int)=0:=eq_of_beq q.1.1
  have q2:sIx items.size items.size hi-sIx items.size 0 lo=items.size:=eq_of_beq q.2
  exact hw ⟨by omega,by omega⟩
 show wpAny _ _ (if (((sIx items.size 0 lo:Nat):Int)==0&&(1:Int)==1&&(sIx items.size items.size hi-sIx items.size 0 lo)==items.size)=true then _ else _) _ _ s
 rw[if_neg hno,sK]
 first
  |exact wpAny_bind (m:=Builtin.Tuple.tupleExact _) (wpAny_newObj_type (wpAny_pure ⟨_,rfl,wpAny_pure h⟩) htake)
  |exact wpAny_bind (m:=Builtin.Tuple.tupleExact _) (wpAny_newObj_type (wpAny_bind (wpAny_pure (wpAny_pure ⟨_,rfl,wpAny_pure h⟩))) htake)
  |exact wpAny_bind (wpAny_bind (m:=Builtin.Tuple.tupleExact _) (wpAny_newObj_type (wpAny_pure (wpAny_pure ⟨_,rfl,wpAny_pure h⟩)) htake))
  |exact wpAny_bind (wpAny_bind (m:=Builtin.Tuple.tupleExact _) (wpAny_newObj_type (wpAny_pure ⟨_,rfl,wpAny_pure h⟩) htake))
end
end HT
namespace L2
open PySem PySem.Spec PyProof.Rows
noncomputable abbrev TO:=St->Hp->(Option Int->Hp->Prop)->Prop
noncomputable def PO (X:Cx)(e:Option Expr)(t:TO):Prop:=
 ∀(pins:List (Addr×Obj))(s:Shared)(σ:St)(H:Hp)(Q:Option Int->Hp->Prop),Inv X pins σ H s->t σ H Q->
  wpAny (model X.prog X.w) X.A (evalPart e X.env) (fun u s'=>∃ o H',Inv X pins σ H' s'/\IsPart u o/\Q o H') X.xe s
noncomputable def vI:TO:=fun _ H Q=>Q none H
noncomputable def A8 (t:TE):TO:=fun σ H Q=>t σ H fun x H1=>∃ i,x=.int i/\Q (some i) H1
section
variable {X:Cx}{e:Expr}{te:TE}{lo hi:Option Expr}{tl th:TO}{pos p2:Pos}
theorem vJ:PO X none vI:=by
 intro pins s σ H Q I h
 rw[evalPart_none]
 exact wpAny_pure ⟨none,H,I,.none,h⟩
theorem vK (h:PE X e te):PO X (some e) (A8 te):=by
 intro pins s σ H Q I hw
 rw[evalPart_some]
 refine da (h pins s σ H _ I hw) fun u s1 ⟨x,H1,I1,r1,q1⟩=>?_
 obtain⟨i,rfl,q⟩:=q1
 obtain⟨t,rfl⟩:=r1
 exact⟨some i,H1,I1,.int i t,q⟩
noncomputable def SlR (X:Cx)(r:V->Option Int->Option Int->Hp->VK->Prop):Prop:=
 ∀(pins:List (Addr×Obj))(s:Shared)(σ:St)(H:Hp)(x:V)(v vl vu:Value)(lo hi:Option Int)(sl:Addr)(Q:VK),Inv X pins σ H s->RelV x v->s.heap.IsSliceOf sl vl vu .none->IsPart vl lo->IsPart vu hi->r x lo hi H Q->
  ∃ T id,typeLookup (.type T) "__getitem__"=pure (some (.builtin id))/\s.TypeIs v T/\wpAny (model X.prog X.w) X.A (getItem v (.ref sl)) (EP X pins σ Q) X.xe s
theorem SlR.or {r r':V->Option Int->Option Int->Hp->VK->Prop}(h:SlR X r)(h':SlR X r'):SlR X (fun x lo hi H Q=>r x lo hi H Q\/r' x lo hi H Q):=by
 intro pins s σ H x v vl vu lo hi sl Q I rx hs pl pu q
 rcases q with q|q
 ·exact h pins s σ H x v vl vu lo hi sl Q I rx hs pl pu q
 ·exact h' pins s σ H x v vl vu lo hi sl Q I rx hs pl pu q
noncomputable def Ea (r:V->Option Int->Option Int->Hp->VK->Prop)(te:TE)(tl th:TO):TE:=fun σ H Q=>te σ H fun x H1=>tl σ H1 fun l H2=>th σ H2 fun u H3=>r x l u H3 Q
theorem sL {r:V->Option Int->Option Int->Hp->VK->Prop}(hr:SlR X r)(he:PE X e te)(hl:PO X lo tl)(hu:PO X hi th):PE X (.Subscript e (.Slice lo hi none p2) pos) (Ea r te tl th):=by
 intro pins s σ H Q I h
 refine Subscript_ (da (he pins s σ H _ I h) fun v s1 ⟨x,H1,I1,r1,q1⟩=>?_)
 refine wpAny_Slice (da (hl pins s1 σ H1 _ I1 q1) fun vl s2 ⟨l,H2,I2,pl,q2⟩=>da (hu pins s2 σ H2 _ I2 q2) fun vu s3 ⟨u,H3,I3,pu,q3⟩=>?_)
 rw[evalPart_none]
 refine wpAny_pure ?_
 have I4:Inv X pins σ H3 { s3 with heap:=s3.heap.push { cls:=.type "slice",data:=.fields #[vl,vu,.none] } }:=I3.kept (t':=s3.toks) fun b ob q=>Heap.get?_push_of_some _ q
 obtain⟨T,id,hT,ht,hg⟩:=hr pins { s3 with heap:=s3.heap.push { cls:=.type "slice",data:=.fields #[vl,vu,.none] } } σ H3 x v vl vu l u s3.heap.objs.size Q I4 r1 (Heap.IsSliceOf.new ..) pl pu q3
 show wpAny (model X.prog X.w) X.A (subscriptTail e (.Slice lo hi none p2) v (.ref s3.heap.objs.size)) (EP X pins σ Q) X.xe { s3 with heap:=s3.heap.push { cls:=.type "slice",data:=.fields #[vl,vu,.none] } }
 exact tail_any (ops:=[.ref s3.heap.objs.size,v]) ht hT hg (by with_unfolding_all rfl)
noncomputable def m8 (xs:List V)(lo hi:Option Int):List V:=(xs.drop (HT.sIx xs.length 0 lo)).take (HT.sIx xs.length xs.length hi-HT.sIx xs.length 0 lo)
theorem jk (xs:List V)(lo hi:Option Int):(m8 xs lo hi).length<=xs.length:=by
 unfold m8
 rw[List.length_take,List.length_drop]
 omega
noncomputable def C4 (K:PySem.W.Frag):V->Option Int->Option Int->Hp->VK->Prop:=fun x lo hi H Q=>∃ a xs,x=.ref a/\SqT K H a xs/\
 ¬ (HT.sIx xs.length 0 lo=0/\HT.sIx xs.length xs.length hi=xs.length)/\∀ p,H p=none->Q (.ref p) (bz H p (.tup (m8 xs lo hi)))
theorem sl_tup:SlR X (C4 X.K):=by
 intro pins s σ H x v vl vu lo hi sl Q I rx hs pl pu h
 obtain⟨a,xs,rfl,hx,hw,q⟩:=h
 cases rx
 obtain⟨its,r,ht,hz⟩:=I.tuple hx
 have bX:its.toArray.size=xs.length:=by rw[List.size_toArray];exact r.length.symm
 refine⟨"tuple",_,PyProof.Rows.slot_tuple_getitem.lookup,ht.typeIs,?_⟩
 refine HT.getItem_tuple_cut ht hs pl pu (by rw[bX];exact hw) ?_ (by rw[bX];exact hz)
 rw[bX]
 refine⟨.ref s.heap.objs.size,_,I.laid (t':=s.toks) (o:=.tup (m8 xs lo hi)) (fun b ob q=>Heap.get?_push_of_some _ q) (Nat.le_refl _) ?_,rfl,q _ (I.hok.fresh (Nat.le_refl _))⟩
 exact⟨Nat.le_trans (jk xs lo hi) hz,_,(r.drop (HT.sIx xs.length 0 lo)).take (HT.sIx xs.length xs.length hi-HT.sIx xs.length 0 lo),IsTup.new _ _⟩
noncomputable def A9 (K:PySem.W.Frag):R2:=fun x y H Q=>∃ a b xs ys,x=.ref a/\y=.ref b/\SqT K H a xs/\SqT K H b ys/\xs≠[]/\xs.length+ys.length<=sizeLine/\
 (ys=[]->Q (.ref a) H)/\(ys≠[]->∀ p,H p=none->Q (.ref p) (bz H p (.tup (xs++ys))))
theorem Vals.nil_iff {xs:List V}{us:List Value}(r:Vals xs us):us=[]↔xs=[]:=by
 cases r with
 |nil=>simp
 |cons _ _=>simp
theorem op_catT:OpR X (binaryOp .Add) (A9 X.K):=by
 intro pins s σ H x y v u Q I rx ry h
 obtain⟨a,b,xs,ys,rfl,rfl,ha,hb,hx,hz,q1,q2⟩:=h
 cases rx
 cases ry
 obtain⟨its,r1,p1,_⟩:=I.tuple ha
 obtain⟨its2,r2,p2,_⟩:=I.tuple hb
 refine HT.cat_tup p1 p2 (fun z=>hx (r1.nil_iff.mp z)) (fun z=>⟨.ref a,H,I,rfl,q1 (r2.nil_iff.mp z)⟩) (fun z=>?_) (by rw[<- r1.length,<- r2.length];exact hz)
 refine⟨.ref s.heap.objs.size,_,I.laid (t':=s.toks) (o:=.tup (xs++ys)) (fun b ob q=>Heap.get?_push_of_some _ q) (Nat.le_refl _) ?_,rfl,q2 (fun w=>z (r2.nil_iff.mpr w)) _ (I.hok.fresh (Nat.le_refl _))⟩
 exact⟨by rw[List.length_append];exact hz,_,r1.append r2,IsTup.new _ _⟩
end
end L2
namespace L2
open PySem PySem.Spec PyProof.Rows
noncomputable def mT (n:Nat)(i:Int):Option Nat:=if 0<=i then (if i<n then some i.toNat else none) else if -(n:Int)<=i then some (i+n).toNat else none
noncomputable def atI {α:Type}(xs:List α)(i:Int):Option α:=(mT xs.length i).bind fun j=>xs[j]?
theorem vL {n:Nat}{i:Int}{j:Nat}(h:mT n i=some j):seqIndex? i n=some j/\j<n/\-(n:Int)<=i/\i<n:=by
 unfold mT at h
 by_cases h0:0<=i
 ·rw[if_pos h0]at h
  by_cases h1:i<n
  ·rw[if_pos h1]at h
   have e:i.toNat=j:=Option.some.inj h
   exact⟨by rw[seqIndex_of h0 h1,e],by omega,by omega,h1⟩
  ·rw[if_neg h1]at h;cases h
 ·rw[if_neg h0]at h
  by_cases h1:-(n:Int)<=i
  ·rw[if_pos h1]at h
   have e:(i+n).toNat=j:=Option.some.inj h
   exact⟨by rw[seqIndex_neg (by omega) h1,e],by omega,h1,by omega⟩
  ·rw[if_neg h1]at h;cases h
theorem l7 {α:Type}{xs:List α}{i:Int}{v:α}(h:atI xs i=some v):∃ j,seqIndex? i xs.length=some j/\xs[j]?=some v/\j<xs.length/\-(xs.length:Int)<=i/\i<xs.length:=by
 unfold atI at h
 cases e:mT xs.length i with
 |none=>rw[e]at h;cases h
 |some j=>
  rw[e]at h
  obtain⟨h1,h2,h3,h4⟩:=vL e
  exact⟨j,h1,h,h2,h3,h4⟩
noncomputable def jN (b:Expr):Prop:=∀ o i,subscripted b false o i=operate [o,i] (getItem o i)
noncomputable def IxR (X:Cx)(r:R2):Prop:=
 ∀(value slice:Expr)(pins:List (Addr×Obj))(s:Shared)(σ:St)(H:Hp)(x y:V)(v u:Value)(Q:VK),Inv X pins σ H s->RelV x v->RelV y u->r x y H Q->
  subscripted slice false v u=operate [v,u] (getItem v u)->wpAny (model X.prog X.w) X.A (subscriptTail value slice v u) (EP X pins σ Q) X.xe s
noncomputable def DQ (X:Cx)(id:String)(r:V->List V->Hp->VK->Prop):Prop:=
 ∀(pins:List (Addr×Obj))(s:Shared)(σ:St)(H:Hp)(x:V)(xs:List V)(v:Value)(us:List Value)(Q:VK),Inv X pins σ H s->RelV x v->Vals xs us->r x xs H Q->
  wpAny (model X.prog X.w) X.A (call (.builtin id) (v::us)) (EP X pins σ Q) X.xe s
section
variable {X:Cx}{a b:Expr}{ta tb:TE}{pos:Pos}
theorem IxR.or {r r':R2}(h:IxR X r)(h':IxR X r'):IxR X (fun x y H Q=>r x y H Q\/r' x y H Q):=by
 intro value slice pins s σ H x y v u Q I rx ry q hs
 rcases q with q|q
 ·exact h value slice pins s σ H x y v u Q I rx ry q hs
 ·exact h' value slice pins s σ H x y v u Q I rx ry q hs
theorem sM {r:R2}(hr:IxR X r)(ha:PE X a ta)(hb:PE X b tb)(hs:jN b):PE X (.Subscript a b pos) (AK r ta tb):=by
 intro pins s σ H Q I h
 exact Subscript_ (yt ha hb I h fun v u s2 x y H2 I2 rx ry q=>hr a b pins s2 σ H2 x y v u Q I2 rx ry q (hs _ _))
noncomputable def yH (K:PySem.W.Frag):R2:=fun x y H Q=>∃ p xs i v,x=.ref p/\y=.int i/\SqL K H p xs/\atI xs i=some v/\Q v H
noncomputable def A_ (K:PySem.W.Frag):R2:=fun x y H Q=>∃ p xs i v,x=.ref p/\y=.int i/\SqT K H p xs/\atI xs i=some v/\Q v H
noncomputable def Ba:R2:=fun x y H Q=>∃ z i c,x=.str z/\y=.int i/\z.length<=sizeLine/\atI z.cps.toList i=some c/\Q (.str ⟨#[c]⟩) H
theorem ix_list:IxR X (yH X.K):=by
 intro value slice pins s σ H x y v u Q I rx ry h hs
 obtain⟨p,xs,i,z,rfl,rfl,hq,he,q⟩:=h
 cases rx
 obtain⟨t,rfl⟩:=ry
 obtain⟨its,r,pl,hz⟩:=I.list hq
 obtain⟨j,h1,h2,h3,h4,h5⟩:=l7 he
 obtain⟨w,ew,rw'⟩:=r.get h2
 have hl:=r.length
 have hn:=iT
 have fin:EP X pins σ Q w s:=⟨z,H,I,rw',q⟩
 by_cases h0:0<=i
 ·have hj:i.toNat=j:=by
   rw[seqIndex_of h0 h5]at h1
   exact Option.some.inj h1
  exact item_listR pl.isList h0 (by omega) (by rw[hj];simpa using ew) fin hs
 ·have hj:(i+(its.toArray.size:Int)).toNat=j:=by
   rw[seqIndex_neg (by omega) h4]at h1
   rw[List.size_toArray,<- hl]
   exact Option.some.inj h1
  exact subscriptTail_builtinR (x:=w) pl.isList.typeIs slot_list_getitem.lookup
   (wpAny_getItem_list_neg (Q:=fun r s'=>r=w/\EP X pins σ Q r s') pl.isList (by omega) (by rw[List.size_toArray]<;>omega) (by omega) (by rw[hj];simpa using ew) ⟨rfl,fin⟩) hs
theorem ix_tup:IxR X (A_ X.K):=by
 intro value slice pins s σ H x y v u Q I rx ry h hs
 obtain⟨p,xs,i,z,rfl,rfl,hq,he,q⟩:=h
 cases rx
 obtain⟨t,rfl⟩:=ry
 obtain⟨its,r,pl,hz⟩:=I.tuple hq
 obtain⟨j,h1,h2,h3,h4,h5⟩:=l7 he
 obtain⟨w,ew,rw'⟩:=r.get h2
 have hl:=r.length
 have hn:=iT
 have fin:EP X pins σ Q w s:=⟨z,H,I,rw',q⟩
 exact subscriptTail_builtinR (x:=w) pl.typeIs slot_tuple_getitem.lookup
  (getItem_tuple (j:=j) (Q:=fun r s'=>r=w/\EP X pins σ Q r s') pl (by omega) (by omega) (by rw[List.size_toArray,<- hl];exact h1) (by simpa using ew) ⟨rfl,fin⟩) hs
theorem yI:IxR X Ba:=by
 intro value slice pins s σ H x y v u Q I rx ry h hs
 obtain⟨z,i,c,rfl,rfl,hz,he,q⟩:=h
 obtain⟨t,rfl⟩:=rx
 obtain⟨t',rfl⟩:=ry
 obtain⟨j,h1,h2,h3,h4,h5⟩:=l7 he
 have hl:z.cps.toList.length=z.length:=by simp[Str.length]
 rw[hl]at h1 h4 h5
 have hn:=iT
 exact tail_any (typeIs_str s z t) slot_str_getitem.lookup (getItem_str (c:=c) (by
  have e1:decide (i < -(2 ^ 63:Int))=false:=decide_eq_false (by omega)
  have e2:decide (i>=2 ^ 63)=false:=decide_eq_false (by omega)
  rw[e1,e2,Bool.or_false]) (by rw[h1];simpa using h2) ⟨.str ⟨#[c]⟩,H,I.tok _,⟨_,rfl⟩,q⟩) hs
noncomputable def Eb (K:PySem.W.Frag):R2:=fun x y H Q=>yH K x y H Q\/A_ K x y H Q\/Ba x y H Q
theorem yJ:IxR X (Eb X.K):=ix_list.or (ix_tup.or yI)
theorem Inv.lst {pins:List (Addr×Obj)}{σ:St}{H:Hp}{s:Shared}{p:Addr}{xs:List V}(I:Inv X pins σ H s)(h:H p=some (.lst xs)) :
 ∃(its:List Value)(n:Nat),Vals xs its/\s.heap.get? p=some { cls:=.type "list",data:=.seq its.toArray n }/\xs.length<=sizeLine:=by
 obtain⟨z,its,n,r,e⟩:=I.hok p _ h
 exact⟨its,n,r,e,z⟩
theorem l9 (lo hi:Option Int)(n:Nat):(sliceBounds lo hi none n).1=((HT.sIx n 0 lo:Nat):Int)/\(sliceBounds lo hi none n).2.1=((HT.sIx n n hi:Nat):Int)/\(sliceBounds lo hi none n).2.2=1:=by
 refine⟨?_,?_,rfl⟩
 ·cases lo with
  |none=>simp[sliceBounds,HT.sIx]
  |some i=>
   simp only[sliceBounds,HT.sIx,Option.getD_none,show(1:Int)>0 by decide,if_true]
   by_cases h:i<0
   ·simp only[h,if_true]<;>omega
   ·simp only[h,if_false]<;>omega
 ·cases hi with
  |none=>simp[sliceBounds,HT.sIx]
  |some i=>
   simp only[sliceBounds,HT.sIx,Option.getD_none,show(1:Int)>0 by decide,if_true]
   by_cases h:i<0
   ·simp only[h,if_true]<;>omega
   ·simp only[h,if_false]<;>omega
theorem kY (its:List Value)(lo hi:Option Int):slicePick its.toArray lo hi none=((its.drop (HT.sIx its.length 0 lo)).take (HT.sIx its.length its.length hi-HT.sIx its.length 0 lo)).toArray:=by
 obtain⟨h1,h2,h3⟩:=l9 lo hi its.toArray.size
 unfold slicePick
 rw[h1,h2,h3]
 simp only[sliceRange_one,pick_run,List.size_toArray]<;>rfl
noncomputable def C5 (K:PySem.W.Frag):V->Option Int->Option Int->Hp->VK->Prop:=fun x lo hi H Q=>∃ a xs,x=.ref a/\SqL K H a xs/\∀ p,H p=none->Q (.ref p) (bz H p (.lst (m8 xs lo hi)))
theorem sl_list:SlR X (C5 X.K):=by
 intro pins s σ H x v vl vu lo hi sl Q I rx hs pl pu h
 obtain⟨a,xs,rfl,hx,q⟩:=h
 cases rx
 obtain⟨its,r,ht,hz⟩:=I.list hx
 have bX:=r.length
 refine⟨"list",_,slot_list_getitem.lookup,ht.isList.typeIs,?_⟩
 refine wpAny_getItem_list_slice ht.isList hs pl pu .none (by simp) ?_ (by rw[List.size_toArray]<;>omega)
 rw[kY,<- bX]
 refine⟨.ref s.heap.objs.size,_,I.laid (t':=s.toks) (o:=.lst (m8 xs lo hi)) (fun b ob q=>Heap.get?_push_of_some _ q) (Nat.le_refl _) ?_,rfl,q _ (I.hok.fresh (Nat.le_refl _))⟩
 exact⟨Nat.le_trans (jk xs lo hi) hz,_,0,(r.drop (HT.sIx xs.length 0 lo)).take (HT.sIx xs.length xs.length hi-HT.sIx xs.length 0 lo),Heap.get?_push_size _ rfl⟩
theorem call_len_seq:CallR X (.builtin "len") (fun xs H Q=>∃ p ys,xs=[.ref p]/\(SqL X.K H p ys\/SqT X.K H p ys)/\Q (.int ys.length) H):=by
 intro pins s σ H xs us Q I r h
 obtain⟨p,ys,rfl,hq,q⟩:=h
 obtain⟨u,rfl,rx⟩:=jj r
 cases rx
 have hn:=iT
 rcases hq with hq|hq
 ·obtain⟨its,r',pl,hz⟩:=I.list hq
  have bX:=r'.length
  exact Calls.call_len_list pl.isList (by simp only[List.size_toArray]<;>omega) ⟨.int ys.length,H,I.tok _,⟨s.toks+1,by rw[List.size_toArray,bX]⟩,q⟩
 ·obtain⟨its,r',pl,hz⟩:=I.tuple hq
  have bX:=r'.length
  exact len_tuple pl (by simp only[List.size_toArray]<;>omega) ⟨.int ys.length,H,I.tok _,⟨s.toks+1,by rw[List.size_toArray,bX]⟩,q⟩
theorem l_:CallR X (.builtin "len") (fun xs H Q=>∃ z,xs=[.str z]/\z.length<=sizeLine/\Q (.int z.length) H):=by
 intro pins s σ H xs us Q I r h
 obtain⟨z,rfl,hz,q⟩:=h
 obtain⟨u,rfl,t,rfl⟩:=jj r
 have hn:=iT
 exact len_str (by omega) ⟨.int z.length,H,I.tok _,⟨_,rfl⟩,q⟩
theorem CallR.or {f:Value}{r r':List V->Hp->VK->Prop}(h:CallR X f r)(h':CallR X f r'):CallR X f (fun xs H Q=>r xs H Q\/r' xs H Q):=by
 intro pins s σ H xs us Q I rs q
 rcases q with q|q
 ·exact h pins s σ H xs us Q I rs q
 ·exact h' pins s σ H xs us Q I rs q
noncomputable def DR (K:PySem.W.Frag)(T:String)(x:V)(H:Hp):Prop:=match x with
 | .str _=>T="str"
 | .int _=>T="int"
 | .ref p=>(T="list"/\∃ xs,SqL K H p xs)\/(T="tuple"/\∃ o,K.lookup p=some o/\o.cls=.type "tuple"/\o.dict=none)\/
  (T="dict"/\((∃ kvs,H p=some (.dK kvs))\/∃ kvs,H p=some (.dT kvs)))\/(T="set"/\∃ S n,H p=some (.set S n))
 |_=>False
theorem yK {pins:List (Addr×Obj)}{σ:St}{H:Hp}{s:Shared}{T:String}{x:V}{v:Value}(I:Inv X pins σ H s)(r:RelV x v)(ty:DR X.K T x H) :
 s.TypeIs v T/\∀ a,v=.ref a->∃ ob,s.heap.get? a=some ob/\ob.dict=none:=by
 cases x with
 |str z=>
  obtain⟨t,rfl⟩:=r
  cases (show T="str" from ty)
  exact⟨typeIs_str s z t,fun _ e=>nomatch e⟩
 |int i=>
  obtain⟨t,rfl⟩:=r
  cases (show T="int" from ty)
  exact⟨typeIs_int s i t,fun _ e=>nomatch e⟩
 |ref p=>
  cases r
  rcases ty with⟨rfl,xs,hq⟩|⟨rfl,o,hk,hc,hd⟩|⟨rfl,hk⟩|⟨rfl,S,n,hk⟩
  ·obtain⟨its,_,pl,_⟩:=I.list hq
   refine⟨pl.isList.typeIs,fun a e=>?_⟩
   cases e
   obtain⟨o,n,e,c,hd,_⟩:=pl
   exact⟨o,e,hd⟩
  ·refine⟨⟨o,I.kIn p o hk,hc⟩,fun a e=>?_⟩
   cases e
   exact⟨o,I.kIn _ o hk,hd⟩
  ·have z:∃ o,s.heap.get? p=some o/\o.ExactDict:=by
    rcases hk with⟨kvs,hk⟩|⟨kvs,hk⟩
    ·obtain⟨_,_,_,_,o,_,_,e,ex,_⟩:=I.hok p _ hk
     exact⟨o,e,ex⟩
    ·obtain⟨_,_,_,_,o,_,_,e,ex,_⟩:=I.hok p _ hk
     exact⟨o,e,ex⟩
   obtain⟨o,e,ex⟩:=z
   refine⟨⟨o,e,ex.1⟩,fun a e2=>?_⟩
   cases e2
   exact⟨o,e,ex.2.1⟩
  ·obtain⟨o,_,_,_,e,ex,_⟩:=I.hok p _ hk
   refine⟨⟨o,e,ex.1⟩,fun a e2=>?_⟩
   cases e2
   exact⟨o,e,ex.2.1⟩
 |_=>exact False.elim ty
noncomputable def Ec (K:PySem.W.Frag)(T:String)(r:V->List V->Hp->VK->Prop)(to:TE)(t:TA):TE:=fun σ H Q=>to σ H fun x H1=>DR K T x H1/\t σ H1 fun xs H2=>r x xs H2 Q
variable {o e:Expr}{es:List Expr}{to:TE}{t:TA}{name:Str}{apos cpos:Pos}{T id:String}{r:V->List V->Hp->VK->Prop}
theorem m9 (pa:PlainAttrs T) (slot:Slot T name id) (hty:typeOf (.builtin id)=pure (.type "method_descriptor")) (hm:DQ X id r) (ho:PE X o to) (ha:PA X (e::es) t)
 (hbase:autoParam (attributeBase o name X.env (eval o X.env)=eval o X.env) autoR._auto_1)
 (hfew:autoParam (((backTo cpos (starEach (e::es) X.env)).all (fun x=>!x.1)&&(backToKw cpos (keywordEach [] X.env)).all (fun x=>x.1.isSome)
   && decide ((e::es).length+([]:List Keyword).length+(if ([]:List Keyword).isEmpty then 0 else 1)<30))=true) autoR._auto_1)
 (hline:autoParam ((apos.endLine==cpos.line)=true) autoR._auto_1) (hs:autoParam (starEach (e::es) X.env=(false,eval e X.env)::starEach es X.env) autoR._auto_1) (hplain:autoParam ((backTo cpos (starEach es X.env)).any (·.1)=false) autoR._auto_1) :
 PE X (.Call (.Attribute o name apos) (e::es) [] cpos) (Ec X.K T r to t):=by
 intro pins s σ H Q I h
 refine wpAny_Call_method_late hbase hfew hline rfl (da (ho pins s σ H _ I h) fun v s1 ⟨x,H1,I1,r1,ty,q1⟩=>?_)
 obtain⟨h1,h2⟩:=yK I1 r1 ty
 refine⟨T,id,pa,slot,hty,h1,h2,?_⟩
 have hA:=ha cpos pins s1 σ H1 _ I1 q1
 rw[hs]at hA ⊢
 refine Calls.callWith_builtin (by show(false || (backTo cpos (starEach es X.env)).any (·.1))=false;rw[hplain]<;>rfl) (Calls.evalArgs_plain ?_)
 exact da hA fun us s2 ⟨vs,H2,I2,r2,q2⟩=>hm pins s2 σ H2 x vs v us Q I2 r1 r2 q2
end
end L2
namespace L2
open PySem PySem.Spec PyProof.Rows
noncomputable def DS (X:Cx)(id:String)(r:V->List V->Hp->VK->Prop):Prop:=
 ∀(pins:List (Addr×Obj))(s:Shared)(σ:St)(H:Hp)(x:V)(xs:List V)(v:Value)(us:List Value)(Q:VK),Inv X pins σ H s->RelV x v->Vals xs us->r x xs H Q->
  wpAny (model X.prog X.w) X.A (call (.builtin id) (v::us)) (EP X pins σ Q) X.xe s
theorem Vals.one:∀{x:V}{us:List Value},Vals [x] us->∃ u,us=[u]/\RelV x u
 |_,_,.cons r .nil=>⟨_,rfl,r⟩
theorem Vals.zero:∀{us:List Value},Vals [] us->us=[]
 |_,.nil=>rfl
theorem Vals.rep {xs:List V}{us:List Value}(h:Vals xs us):∀ k:Nat,Vals (List.replicate k xs).flatten (List.replicate k us).flatten
 |0=>.nil
 |k+1=>by
  rw[List.replicate_succ,List.replicate_succ,List.flatten_cons,List.flatten_cons]
  exact Vals.append h (Vals.rep h k)
section
variable {X:Cx}{pins:List (Addr×Obj)}{σ:St}{H:Hp}{s:Shared}{l b:Addr}{xs ys zs:List V}
theorem Inv.lset {its its':List Value}{n:Nat}{f:Array Value->Array Value}{t':Nat}(I:Inv X pins σ H s)(hH:H l=some (.lst xs))
 (e:s.heap.get? l=some { cls:=.type "list",data:=.seq its.toArray n }) (hf:f its.toArray=its'.toArray) (hv:Vals ys its') (hz:ys.length<=sizeLine) :
 Inv X pins σ (bz H l (.lst ys)) { s with heap:=s.heap.update l (Obj.mapSeq f),toks:=t' }:=by
 have q:=PySem.IsL.update e f
 rw[hf]at q
 refine I.write (x:=l) (e:=l) (by rw[hH];exact trivial) (.inl rfl) (fun b' u hb hu=>(Heap.get?_update_other s.heap (Obj.mapSeq f) (Ne.symm hb)).trans hu) ⟨_,q⟩ ?_
 exact⟨hz,its',_,hv,q⟩
theorem Inv.lnew {its:List Value}{t':Nat}(I:Inv X pins σ H s)(hv:Vals ys its)(hz:ys.length<=sizeLine) :
 Inv X pins σ (bz H s.heap.objs.size (.lst ys)) { s with heap:=s.heap.push { cls:=.type "list",data:=.seq its.toArray },toks:=t' }:=
 I.laid (fun _ _ q=>Heap.get?_push_of_some _ q) (Nat.le_refl _) ⟨hz,its,0,hv,Heap.get?_push_size _ rfl⟩
theorem Inv.fresh (I:Inv X pins σ H s):H s.heap.objs.size=none:=I.hok.fresh (Nat.le_refl _)
theorem Inv.lstM (I:Inv X pins σ H s) (hH:H l=some (.lst xs)):xs.length<=sizeLine/\∃(its:List Value)(n:Nat),Vals xs its/\xs.length=its.length/\s.heap.get? l=some { cls:=.type "list",data:=.seq its.toArray n }:=by
 obtain⟨z,its,n,r,e⟩:=I.hok l _ hH
 exact⟨z,its,n,r,r.length,e⟩
theorem sN {n:Nat}(h:n<=sizeLine):Builtin.List.listTooLong n=false:=by
 unfold Builtin.List.listTooLong
 exact decide_eq_false (by omega)
end
section
variable {X:Cx}
noncomputable def vM:V->List V->Hp->VK->Prop:=fun x vs H Q=>∃ l xs y,x=.ref l/\vs=[y]/\H l=some (.lst xs)/\xs.length<sizeLine/\Q .non (bz H l (.lst (xs++[y])))
theorem iU:DS X "list.append" vM:=by
 intro pins s σ H x vs v us Q I rx rv h
 obtain⟨l,xs,y,rfl,rfl,hH,hz,q⟩:=h
 cases rx
 obtain⟨u,rfl,ru⟩:=rv.one
 obtain⟨z,its,n,r,hl,e⟩:=I.lstM hH
 refine call_meets F.slot_list_append ⟨_,e,rfl⟩ F.entry_list_append (F.args_list_append_2 _ _) (PySem.list_append l its.toArray n u (by rw[List.size_toArray];omega)) ⟨e,?_⟩
 refine⟨.non,_,I.lset (its':=its++[u]) hH e (by simp) (r.append (.cons ru .nil)) ?_,rfl,q⟩
 rw[List.length_append,List.length_singleton]
 omega
noncomputable def pp:V->List V->Hp->VK->Prop:=fun x vs H Q=>∃ l b xs zs,x=.ref l/\vs=[.ref b]/\H l=some (.lst xs)/\H b=some (.lst zs)/\xs.length+zs.length<=sizeLine/\Q .non (bz H l (.lst (xs++zs)))
theorem ly:DS X "list.extend" pp:=by
 intro pins s σ H x vs v us Q I rx rv h
 obtain⟨l,b,xs,zs,rfl,rfl,hH,hB,hz,q⟩:=h
 cases rx
 obtain⟨u,rfl,ru⟩:=rv.one
 cases ru
 obtain⟨z,its,n,r,hl,e⟩:=I.lstM hH
 obtain⟨z2,its2,n2,r2,hl2,e2⟩:=I.lstM hB
 have hsz:its.toArray.size+its2.toArray.size<=sizeLine:=by rw[List.size_toArray,List.size_toArray];omega
 have hlong:¬ (!its.toArray.isEmpty&&Builtin.List.listTooLong (its.toArray.size+its2.toArray.size))=true:=by
  rw[sN hsz,Bool.and_false]
  exact Bool.false_ne_true
 refine call_meets F.slot_list_extend ⟨_,e,rfl⟩ F.entry_list_extend (F.args_list_extend_2 _ _)
  (AutoSeq1.list_extend_list_list_0 l its.toArray n b its2.toArray n2 hlong (by rw[List.size_toArray];omega) (by omega)) ⟨e,e2,?_⟩
 refine⟨.non,_,I.lset (its':=its++its2) hH e (by simp) (r.append r2) ?_,rfl,q⟩
 rw[List.length_append]
 omega
end
section
variable {prog:Program}{w:World}{A:Around}{E:Value->Shared->Prop}{s:Shared}
end
section
variable {X:Cx}
end
end L2
namespace L2
open PySem PySem.Spec PyProof.Rows
section
variable {κ:Type}[DecidableEq κ]
noncomputable def ii (kvs:List (κ×V))(k:κ):Option V:=(kvs.find? fun kv=>decide (kv.1=k)).map (·.2)
noncomputable def eI (kvs:List (κ×V))(k:κ)(v:V):List (κ×V):=
 if (kvs.any fun kv=>decide (kv.1=k))=true then kvs.map (fun kv=>if kv.1=k then (kv.1,v) else kv) else kvs++[(k,v)]
theorem gf {p:κ×V}{r:List (κ×V)}{k:κ}(e:p.1=k):ii (p::r) k=some p.2:=by simp[ii,List.find?_cons,e]
theorem gg {p:κ×V}{r:List (κ×V)}{k:κ}(e:¬ p.1=k):ii (p::r) k=ii r k:=by simp[ii,List.find?_cons,e]
theorem m_ (k:κ):∀ kvs:List (κ×V),(kvs.any fun kv=>decide (kv.1=k))=(ii kvs k).isSome
 | []=>rfl
 |p::r=>by
  rw[List.any_cons]
  by_cases e:p.1=k
  ·simp only[gf e,decide_eq_true e,Bool.true_or,Option.isSome_some]
  ·rw[gg e,decide_eq_false e,Bool.false_or];exact m_ k r
theorem jl (kvs:List (κ×V))(k:κ)(v:V):(eI kvs k v).length<=kvs.length+1:=by
 unfold eI
 split
 ·rw[List.length_map];omega
 ·rw[List.length_append,List.length_cons,List.length_nil];omega
theorem RelO.isSome_eq {o:Option V}{u:Option Value}(r:RelO o u):o.isSome=u.isSome:=by
 cases o with
 |none=>cases u with
  |none=>rfl
  |some _=>exact(show False from r).elim
 |some _=>cases u with
  |none=>exact(show False from r).elim
  |some _=>rfl
theorem RelO.getD {o:Option V}{u:Option Value}{d:V}{d':Value}(r:RelO o u)(rd:RelV d d'):RelV (o.getD d) (u.getD d'):=by
 cases o with
 |none=>cases u with
  |none=>exact rd
  |some _=>exact(show False from r).elim
 |some _=>cases u with
  |none=>exact(show False from r).elim
  |some _=>exact r
theorem KV.val {kvs:List (κ×V)}{vs:List (κ×Value)}(r:KV kvs vs)(k:κ):RelO (ii kvs k) (valueAt vs k):=by
 unfold KV at r
 induction r with
 |nil=>exact True.intro
 | @cons p q ps qs h t ih=>
  obtain⟨h1,h2⟩:=h
  by_cases e:p.1=k
  ·have e':q.1=k:=h1.symm.trans e
   have b:valueAt (q::qs) k=some q.2:=by simp[valueAt,List.find?_cons,e']
   rw[gf e,b];exact h2
  ·have e':¬ q.1=k:=fun z=>e (h1.trans z)
   have b:valueAt (q::qs) k=valueAt qs k:=by simp[valueAt,List.find?_cons,e']
   rw[gg e,b];exact ih
theorem KV.any {kvs:List (κ×V)}{vs:List (κ×Value)}(r:KV kvs vs)(k:κ):(kvs.any fun kv=>decide (kv.1=k))=vs.any fun kv=>decide (kv.1=k):=by
 unfold KV at r
 induction r with
 |nil=>rfl
 |cons h t ih=>rw[List.any_cons,List.any_cons,ih,h.1]
theorem KV.repl {kvs:List (κ×V)}{vs:List (κ×Value)}(r:KV kvs vs)(k:κ){y:V}{u:Value}(ry:RelV y u) :
 KV (kvs.map fun kv=>if kv.1=k then (kv.1,y) else kv) (vs.map fun kv=>if kv.1=k then (kv.1,u) else kv):=by
 unfold KV at r ⊢
 induction r with
 |nil=>exact .nil
 | @cons p q ps qs h t ih=>
  rw[List.map_cons,List.map_cons]
  refine .cons ?_ ih
  obtain⟨h1,h2⟩:=h
  by_cases e:p.1=k
  ·rw[if_pos e,if_pos (h1.symm.trans e)];exact⟨h1,ry⟩
  ·rw[if_neg e,if_neg (fun z=>e (h1.trans z))];exact⟨h1,h2⟩
theorem KV.put {kvs:List (κ×V)}{vs:List (κ×Value)}(r:KV kvs vs)(k:κ){y:V}{u:Value}(ry:RelV y u):KV (eI kvs k y) (stored vs k u):=by
 unfold eI stored
 rw[r.any k]
 by_cases e:(vs.any fun kv=>decide (kv.1=k))=true
 ·rw[if_pos e,if_pos e];exact r.repl k ry
 ·rw[if_neg e,if_neg e];exact Paired.snoc r ⟨rfl,ry⟩
theorem KV.keys {kvs:List (κ×V)}{vs:List (κ×Value)}(r:KV kvs vs):kvs.map (·.1)=vs.map (·.1):=by
 unfold KV at r
 induction r with
 |nil=>rfl
 |cons h t ih=>rw[List.map_cons,List.map_cons,ih,h.1]
theorem KV.length {kvs:List (κ×V)}{vs:List (κ×Value)}(r:KV kvs vs):kvs.length=vs.length:=Paired.length r
end
theorem jm {P:Program}{w:World}{k:Key}{u:Value}(r:RelV (kV k) u):(aT P w).is k u=true:=by
 cases k with
 |inl i=>obtain⟨t,e⟩:=(show ∃ t,u=Value.int i t from r);subst e;exact mW P w i t
 |inr x=>obtain⟨t,e⟩:=(show ∃ t,u=Value.str x t from r);subst e;exact gc P w x t
theorem lz {P:Program}{w:World}:∀{ks:List Key}{us:List Value},Vals (ks.map kV) us->ItemsAre (aT P w) ks us
 | [],_,r=>by rw[List.map_nil]at r;cases r;exact .nil
 |k::ks,_,r=>by
  rw[List.map_cons]at r
  cases r with
  |cons h t=>exact .cons (jm h) (lz t)
noncomputable abbrev KT (H:Hp):List (List Key×V)->List (List Key×Addr×Value)->Prop:=Paired fun p q=>p.1=q.1/\H q.2.1=some (.tup (p.1.map kV))/\RelV p.2 q.2.2
theorem KT.val {H:Hp}{kvs:List (List Key×V)}{xs:List (List Key×Addr×Value)}(r:KT H kvs xs)(k:List Key):RelO (ii kvs k) ((atKey xs k).map (·.2)):=by
 induction r with
 |nil=>exact True.intro
 | @cons p q ps qs h t ih=>
  obtain⟨h1,_,h2⟩:=h
  by_cases e:p.1=k
  ·have e':q.1=k:=h1.symm.trans e
   have b:atKey (q::qs) k=some q.2:=by simp[atKey,List.find?_cons,e']
   rw[gf e,b];exact h2
  ·have e':¬ q.1=k:=fun z=>e (h1.trans z)
   have b:atKey (q::qs) k=atKey qs k:=by simp[atKey,List.find?_cons,e']
   rw[gg e,b];exact ih
theorem KT.repl {H:Hp}{kvs:List (List Key×V)}{xs:List (List Key×Addr×Value)}(r:KT H kvs xs)(k:List Key){y:V}{u:Value}(ry:RelV y u) :
 KT H (kvs.map fun kv=>if kv.1=k then (kv.1,y) else kv) (xs.map (putAt k u)):=by
 induction r with
 |nil=>exact .nil
 | @cons p q ps qs h t ih=>
  rw[List.map_cons,List.map_cons]
  refine .cons ?_ ih
  obtain⟨h1,h2,h3⟩:=h
  unfold putAt
  by_cases e:p.1=k
  ·rw[if_pos e,if_pos (h1.symm.trans e)];exact⟨h1,h2,ry⟩
  ·rw[if_neg e,if_neg (fun z=>e (h1.trans z))];exact⟨h1,h2,h3⟩
theorem KT.put {H:Hp}{kvs:List (List Key×V)}{xs:List (List Key×Addr×Value)}(r:KT H kvs xs)(k:List Key){b:Addr}{y:V}{u:Value}(hb:H b=some (.tup (k.map kV)))(ry:RelV y u) :
 KT H (eI kvs k y) (storedH xs k b u):=by
 have e:(kvs.any fun kv=>decide (kv.1=k))=(atKey xs k).isSome:=by
  rw[m_,(r.val k).isSome_eq,Option.isSome_map]
 unfold eI storedH
 rw[e]
 by_cases q:(atKey xs k).isSome=true
 ·rw[if_pos q,if_pos q];exact r.repl k ry
 ·rw[if_neg q,if_neg q];exact Paired.snoc r ⟨rfl,hb,ry⟩
theorem KT.keeps {H H':Hp}{kvs:List (List Key×V)}{xs:List (List Key×Addr×Value)}(r:KT H kvs xs)(ht:∀ b ys,H b=some (.tup ys)->H' b=some (.tup ys)):KT H' kvs xs:=
 Paired.mapP r fun _ _ z=>⟨z.1,ht _ _ z.2.1,z.2.2⟩
section
variable {P:Program}{w:World}{H:Hp}{h:Heap}{a:Addr}
theorem sO {u:HO}(ok:HOk P w H h)(e:Rd H a u):ObjOk P w H h a u:=e.ok ok
theorem na {kvs:List (Key×V)}(ok:HOk P w H h)(e:Rd H a (.dK kvs)):kvs.length<=sizeLine/\(a==sysModules)=false/\∃ vs,KV kvs vs/\h.DictOf (aT P w) a vs:=
 show ObjOk P w H h a (.dK kvs) from sO ok e
theorem hU {ks:List Key}(ok:HOk P w H h)(e:H a=some (.tup (ks.map kV))):(tupleKind (aT P w)).is h ks a:=by
 obtain⟨_,its,r,o,h1,h2,n,h3⟩:=(show ObjOk P w H h a (.tup (ks.map kV)) from ok a _ e)
 exact⟨o,its.toArray,n,h1,h2,h3,by simpa using lz r⟩
theorem nc {kvs:List (List Key×V)}(ok:HOk P w H h)(e:Rd H a (.dT kvs)):kvs.length<=sizeLine/\(a==sysModules)=false/\
 ∃ xs,KT H kvs xs/\h.DictOfH (tupleKind (aT P w)) a xs:=by
 obtain⟨z,y,xs,r,o,es,ep,h1,h2,h3,h4,h5⟩:=(show ObjOk P w H h a (.dT kvs) from sO ok e)
 refine⟨z,y,xs,r,o,es,ep,h1,h2,h3,h4,fun x hx=>?_,h5⟩
 have all:∀{l:List (List Key×V)}{m:List (List Key×Addr×Value)},KT H l m->∀ x∈m,(tupleKind (aT P w)).is h x.1 x.2.1:=by
  intro l m q
  induction q with
  |nil=>intro x hx;exact nomatch hx
  | @cons p q ps qs hq t ih=>
   intro x hx
   rcases List.mem_cons.mp hx with e|hx
   ·subst e
    exact hU ok (by rw[<- hq.1];exact hq.2.1)
   ·exact ih x hx
 exact all r x hx
end
noncomputable def DGet (H:Hp)(a:Addr)(y:V)(r:Option V):Prop:=
 (∃ kvs k,Rd H a (.dK kvs)/\y=kV k/\r=ii kvs k)\/∃ kvs k b,Rd H a (.dT kvs)/\y=.ref b/\H b=some (.tup (k.map kV))/\r=ii kvs k
noncomputable def DPut (H:Hp)(a:Addr)(y v:V)(H':Hp):Prop:=
 (∃ kvs k,H a=some (.dK kvs)/\y=kV k/\kvs.length<sizeLine/\H'=bz H a (.dK (eI kvs k v)))\/
 ∃ kvs k b,H a=some (.dT kvs)/\y=.ref b/\H b=some (.tup (k.map kV))/\kvs.length<sizeLine/\H'=bz H a (.dT (eI kvs k v))
theorem DGet.k {H:Hp}{a:Addr}{kvs:List (Key×V)}{k:Key}(e:H a=some (.dK kvs)):DGet H a (kV k) (ii kvs k):=.inl ⟨kvs,k,.inl e,rfl,rfl⟩
theorem DGet.t {H:Hp}{a b:Addr}{kvs:List (List Key×V)}{k:List Key}(e:H a=some (.dT kvs))(eb:H b=some (.tup (k.map kV))):DGet H a (.ref b) (ii kvs k):=.inr ⟨kvs,k,b,.inl e,rfl,eb,rfl⟩
theorem DPut.k {H:Hp}{a:Addr}{kvs:List (Key×V)}{k:Key}{v:V}(e:H a=some (.dK kvs))(hl:kvs.length<sizeLine):DPut H a (kV k) v (bz H a (.dK (eI kvs k v))):=.inl ⟨kvs,k,e,rfl,hl,rfl⟩
theorem DPut.t {H:Hp}{a b:Addr}{kvs:List (List Key×V)}{k:List Key}{v:V}(e:H a=some (.dT kvs))(eb:H b=some (.tup (k.map kV)))(hl:kvs.length<sizeLine) :
 DPut H a (.ref b) v (bz H a (.dT (eI kvs k v))):=.inr ⟨kvs,k,b,e,rfl,eb,hl,rfl⟩
section
variable {X:Cx}{pins:List (Addr×Obj)}{σ:St}{H:Hp}{s:Shared}{a:Addr}{y v:V}{u r:Value}{o:Option V}{A:Around}{E:Value->Shared->Prop}
theorem Inv.big (I:Inv X pins σ H s):sysModules<s.heap.objs.size:=by
 have h:mainGlobals<s.heap.objs.size:=(I.mod.glob.keeps I.bk).lt
 exact Nat.lt_trans (by decide) h
theorem qW {Q:Value->Shared->Prop}(hu:A.units+1<cLine)(I:Inv X pins σ H s)(g:DGet H a y (some v))(ry:RelV y u)(h:∀ w' s',Inv X pins σ H s'->RelV v w'->Q w' s') :
 wpAny (model X.prog X.w) A (getItem (.ref a) u) Q E s:=by
 rcases g with⟨kvs,k,e,ey,l⟩|⟨kvs,k,b,e,ey,eb,l⟩
 ·subst ey
  obtain⟨z,hd,vs,rel,dd⟩:=na I.hok e
  obtain⟨w',hw,rw'⟩:=RelO.some_of (v:=v) (o:=valueAt vs k) (by rw[l];exact rel.val k)
  exact wpAny_getItem_of (jm ry) dd.mapOf hw (h w' _ (I.tok _) rw')
 ·subst ey
  cases (show u=Value.ref b from ry)
  obtain⟨z,hd,xs,rel,dd⟩:=nc I.hok e
  obtain⟨w',hw,rw'⟩:=RelO.some_of (v:=v) (o:=(atKey xs k).map (·.2)) (by rw[l];exact rel.val k)
  obtain⟨p,hp,hp2⟩:=Option.map_eq_some_iff.mp hw
  refine wpAny_getItem_heap (tupleKind_room_in1 hu) (hU I.hok eb) dd hp ?_
  rw[hp2]
  exact h w' _ (I.tok _) rw'
theorem C6 {Q:Value->Shared->Prop}(hu:A.units+1<cLine)(I:Inv X pins σ H s)(g:DGet H a y o)(ry:RelV y u)(h:∀ s',Inv X pins σ H s'->Q (.bool o.isSome) s') :
 wpAny (model X.prog X.w) A (compareOp .In u (.ref a)) Q E s:=by
 rcases g with⟨kvs,k,e,ey,l⟩|⟨kvs,k,b,e,ey,eb,l⟩
 ·subst ey
  obtain⟨z,hd,vs,rel,dd⟩:=na I.hok e
  refine wpAny_in_of (jm ry) hd dd.mapOf ?_
  rw[<- (rel.val k).isSome_eq,<- l]
  exact h _ (I.tok _)
 ·subst ey
  cases (show u=Value.ref b from ry)
  obtain⟨z,hd,xs,rel,dd⟩:=nc I.hok e
  refine wpAny_in_heap (tupleKind_room_in1 hu) (hU I.hok eb) hd dd ?_
  have q:=(rel.val k).isSome_eq
  rw[Option.isSome_map]at q
  rw[<- q,<- l]
  exact h _ (I.tok _)
theorem vN {Q:Value->Shared->Prop}(hu:A.units+1<cLine)(I:Inv X pins σ H s)(g:DGet H a y o)(ry:RelV y u)(h:∀ s',Inv X pins σ H s'->Q (.bool (!o.isSome)) s') :
 wpAny (model X.prog X.w) A (compareOp .NotIn u (.ref a)) Q E s:=by
 rcases g with⟨kvs,k,e,ey,l⟩|⟨kvs,k,b,e,ey,eb,l⟩
 ·subst ey
  obtain⟨z,hd,vs,rel,dd⟩:=na I.hok e
  refine wpAny_notIn_of (jm ry) hd dd.mapOf ?_
  rw[<- (rel.val k).isSome_eq,<- l]
  exact h _ (I.tok _)
 ·subst ey
  cases (show u=Value.ref b from ry)
  obtain⟨z,hd,xs,rel,dd⟩:=nc I.hok e
  refine wpAny_notIn_heap (tupleKind_room_in1 hu) (hU I.hok eb) hd dd ?_
  have q:=(rel.val k).isSome_eq
  rw[Option.isSome_map]at q
  rw[<- q,<- l]
  exact h _ (I.tok _)
end
section
variable {X:Cx}{pins:List (Addr×Obj)}{σ:St}{H:Hp}{s:Shared}{a:Addr}{kvs:List (Key×V)}{k:Key}{u:Value}{A:Around}{E:Value->Shared->Prop}
end
noncomputable def sP (i:Expr):Prop:=∀ ov iv,subscripted i false ov iv=operate [ov,iv] (getItem ov iv)
theorem pr {prog:Program}{w:World}{A:Around}{E:Value->Shared->Prop}{s:Shared}{env:Env}{value slice:Expr}{pos:Pos}{T id:String}{Q:Value->Shared->Prop}
 (hl:typeLookup (.type T) "__getitem__"=pure (some (.builtin id))) (hs:sP slice)
 (h:wpAny (model prog w) A (eval value env) (fun o s₁=>wpAny (model prog w) A (eval slice env) (fun i s₂=>s₂.TypeIs o T/\wpAny (model prog w) A (getItem o i) Q E s₂) E s₁) E s) :
 wpAny (model prog w) A (eval (.Subscript value slice pos) env) Q E s:=by
 refine Subscript_ (wpAny_mono h (fun o s₁ h₁=>wpAny_mono h₁ (fun i s₂ h₂=>?_) fun _ _ x=>x) fun _ _ x=>x)
 obtain⟨hT,h₂⟩:=h₂
 unfold subscriptTail
 refine wpAny_bind ?_
 rw[getitemInPython_of_ne hT.not_modules]
 refine wpAny_bind (wpAny_specialOf hT hl ?_)
 have fin:wpAny (model prog w) A (subscripted slice false o i) (fun r s₃=>wpAny (model prog w) A (letTemporaryGo value o r >>= fun _=>pure r) Q E s₃) E s₂:=by
  rw[hs o i]
  exact wpAny_operating (wpAny_mono h₂ (fun r s₃ h₃=>wpAny_bind (wpAny_letTemporaryGo (wpAny_pure h₃))) fun _ _ x=>x)
 first
  |exact wpAny_pure (wpAny_bind fin)
  |exact wpAny_bind (wpAny_pure (wpAny_bind fin))
  |exact wpAny_bind fin
theorem ng {X:Cx} {pins:List (Addr×Obj)} {σ:St} {H:Hp} {s:Shared} {a:Addr} {y:V} {o:Option V} (I:Inv X pins σ H s) (g:DGet H a y o):s.TypeIs (.ref a) "dict":=by
 rcases g with⟨kvs,k,e,_,_⟩|⟨kvs,k,b,e,_,_,_⟩
 ·obtain⟨_,_,vs,_,dd⟩:=na I.hok e
  exact dd.typeIs
 ·obtain⟨_,_,xs,_,dd⟩:=nc I.hok e
  exact dd.typeIs
noncomputable def Bb (td ty:TE):TE:=fun σ H Q=>td σ H fun x H1=>ty σ H1 fun y H2=>∃ a v,x=.ref a/\DGet H2 a y (some v)/\Q v H2
section
variable {X:Cx}{o i e value:Expr}{pos pos' mS:Pos}{td ty tv:TE}
theorem vO (hu:X.A.units+1<cLine)(ho:PE X o td)(hi:PE X i ty)(hs:sP i):PE X (.Subscript o i pos) (Bb td ty):=by
 intro pins s σ H Q I h
 refine pr PySem.F.slot_dict_getitem.lookup hs (da (ho pins s σ H _ I h) fun u s1 ⟨x,H1,I1,rx,q1⟩=>da (hi pins s1 σ H1 _ I1 q1) fun iv s2 ⟨y,H2,I2,ry,a,v,ex,g,q2⟩=>?_)
 subst ex
 obtain rfl:u=Value.ref a:=rx
 exact⟨ng I2 g,qW hu I2 g ry fun w' s3 I3 rw'=>⟨v,H2,I3,rw',q2⟩⟩
end
section
variable {X:Cx}{pos:Pos}
end
noncomputable def eJ (kvs more:List (Key×V)):List (Key×V):=more.foldl (fun acc kv=>eI acc kv.1 kv.2) kvs
theorem gZ:∀(more kvs:List (Key×V)),(eJ kvs more).length<=kvs.length+more.length
 | [],kvs=>by show kvs.length<=kvs.length+0;omega
 |p::r,kvs=>by
  have h1:=gZ r (eI kvs p.1 p.2)
  have h2:=jl kvs p.1 p.2
  show(eJ (eI kvs p.1 p.2) r).length<=_
  rw[List.length_cons];omega
structure M1 (X:Cx) (o:Expr) (m:Str) (apos:Pos) (e:Expr) (cpos:Pos):Prop where
 base:attributeBase o m X.env (eval o X.env)=eval o X.env
 few:((backTo cpos (starEach [e] X.env)).all (fun x=>!x.1)&&(backToKw cpos (keywordEach [] X.env)).all (fun x=>x.1.isSome)
  && decide (([e]:List Expr).length+([]:List Keyword).length+(if ([]:List Keyword).isEmpty then 0 else 1)<30))=true
 line:(apos.endLine==cpos.line)=true
 trees:backTo cpos (starEach [e] X.env)=[(false,eval e X.env)]
structure M2 (X:Cx) (o:Expr) (m:Str) (apos:Pos) (e f:Expr) (cpos:Pos):Prop where
 base:attributeBase o m X.env (eval o X.env)=eval o X.env
 few:((backTo cpos (starEach [e,f] X.env)).all (fun x=>!x.1)&&(backToKw cpos (keywordEach [] X.env)).all (fun x=>x.1.isSome)
  && decide (([e,f]:List Expr).length+([]:List Keyword).length+(if ([]:List Keyword).isEmpty then 0 else 1)<30))=true
 line:(apos.endLine==cpos.line)=true
 trees:backTo cpos (starEach [e,f] X.env)=[(false,eval e X.env),(false,eval f X.env)]
noncomputable def DT (H:Hp)(a:Addr):Prop:=(∃ kvs,Rd H a (.dK kvs))\/∃ kvs,Rd H a (.dT kvs)
theorem yL {X:Cx}{pins:List (Addr×Obj)}{σ:St}{H:Hp}{s:Shared}{a:Addr}(I:Inv X pins σ H s)(d:DT H a) :
 s.TypeIs (.ref a) "dict"/\(∀ b,Value.ref a=.ref b->∃ ob,s.heap.get? b=some ob/\ob.dict=none)/\(a==sysModules)=false:=by
 rcases d with⟨kvs,e⟩|⟨kvs,e⟩
 ·obtain⟨_,hd,vs,_,dd⟩:=na I.hok e
  refine⟨dd.typeIs,fun b q=>?_,hd⟩
  cases q
  obtain⟨ob,_,_,h1,h2,_⟩:=dd
  exact⟨ob,h1,h2.2.1⟩
 ·obtain⟨_,hd,xs,_,dd⟩:=nc I.hok e
  refine⟨dd.typeIs,fun b q=>?_,hd⟩
  cases q
  obtain⟨ob,_,_,h1,h2,_⟩:=dd
  exact⟨ob,h1,h2.2.1⟩
section
variable {X:Cx}{pins:List (Addr×Obj)}{σ:St}{H:Hp}{s:Shared}{a:Addr}{y d:V}{u r:Value}{o:Option V}{A:Around}{E:Value->Shared->Prop}
end
section
variable {X:Cx}{o e f:Expr}{apos cpos:Pos}{td ty tx:TE}
end
section
variable {X:Cx}{pins:List (Addr×Obj)}{σ:St}{H:Hp}{s:Shared}{a:Addr}{kvs:List (Key×V)}{A:Around}{E:Value->Shared->Prop}
end
section
variable {X:Cx}{pins:List (Addr×Obj)}{σ:St}{H:Hp}{s:Shared}{a:Addr}{y:V}{u:Value}{A:Around}{E:Value->Shared->Prop}
end
end L2
namespace Att
open PySem PySem.W PySem.Calls PyProof.Rows
theorem jE {P:Params}{h:Heap}:∀(ns:List Int)(vs:List Value),WellAll P h vs (ns.map WData.int)->IntsAre vs ns:=by
 intro ns
 induction ns with
 |nil=>
  intro vs w
  rw[List.map_nil]at w
  cases w
  exact .nil
 |cons n ns ih=>
  intro vs w
  rw[List.map_cons]at w
  cases w with
  |cons a b=>
   cases a
   exact .cons _ _ (ih _ b)
theorem qX {l:OpenLaw}{n:Nat}(hn:l.most=some n){P:Params}{h:Heap}{args:List WData}{vals:List Value}
 (hpre:l.row.toRowW.claim.pre args=true) (hwl:WellAll P h vals args) :
 ∃ a vs ns,vals=[Value.ref a]/\args=[WData.list (ns.map WData.int)]/\h.get? a=some { cls:=.type "list",data:=.seq vs.toArray }/\IntsAre vs ns/\ns.length<=n:=by
 have hsh:WShape.hasAll [] args [.list .int]=true:=(pre_splitW hpre).1
 have hc:l.pre.holds [] { args:=args }=true:=(pre_splitW hpre).2
 obtain⟨d,r,rfl,h1,h2⟩:=hasAllW_cons hsh
 obtain rfl:=hasAllW_nil h2
 obtain⟨xs,rfl,h3⟩:=hasW_list h1
 obtain⟨ns,rfl⟩:=items_int h3
 have bX:ns.length<=n:=by
  unfold OpenLaw.pre at hc
  have h4:(WTm.not (.lt (.lit (.int (n:Int))) (.len (.arg 0)))).holds [] { args:=[.list (ns.map .int)] }=true:=by
   have h4:=(holds_andW hc).1
   rw[hn]at h4
   exact h4
  have h5:=condW_of h4 (w_not (w_lt w_lit (w_len_list (w_arg rfl))))
  rw[List.length_map]at h5
  refine Nat.le_of_not_lt fun q=>?_
  have q':(n:Int)<((ns.length:Nat):Int):=by omega
  first
   |(rw[decide_eq_true q']at h5;exact absurd h5 (by decide))
   |(simp at h5;omega)
 cases hwl with
 |cons w1 w2=>
  cases w2
  cases w1 with
  |list ho hall=>exact⟨_,_,ns,rfl,rfl,ho,jE ns _ hall,bX⟩
theorem qY (l:OpenLaw)(args:List WData):l.row.toRowW.claim.post args (.bool true) args=true:=
 postW_of (r:=l.row.toRowW) (X:=(true==true))
  (show WShape.has [] (.bool true) .bool=true by first|rfl|decide|simp[WShape.has,WShape.arms,WShape.armsAll])
  (show(WTm.eq .res (.lit (.bool true))).value [] { args:=args,res:=some (.bool true),after:=args }=some (.bool (true==true)) from w_eq_bool (w_res rfl) w_lit) rfl
theorem attach_call {l:OpenLaw}{n:Nat}{q:Program}{loose:List Str}{XP:(Str->Option Value)->Heap->Prop}{YP:World->Heap->Prop}{d:DefRec}
 (hn:l.most=some n) (hdf:d.params.defaults=[])
 (call:∀(w:World)(s₀ s₁:Shared)(mg mb:Str->Option Value)(fa:Addr)(o:Obj)(pm cd doc:Value)(a:Addr)(vs:List Value)(ns:List Int),
   Ground q loose [] XP w s₀ mg mb s₁.heap->YP w s₁.heap->
   s₁.heap.get? fa=some o->o.data=.func (docDef d.name d.params d.body d.scope pm cd doc)->s₁.heap.CodeRec cd d.name->mg d.name=some (.ref fa)->
   s₁.heap.get? a=some { cls:=.type "list",data:=.seq vs.toArray }->IntsAre vs ns->ns.length<=n->s₁.gens=#[]->
   codeAny (model l.prog w) callerA (.call (.ref fa) ⟨[.ref a],[]⟩) (fun r s'=>r=.ok (.ret (.bool true))/\OldK s₁.heap s'.heap/\s'.os=s₁.os/\AllBare s'.gens) s₁) :
 WalkO q loose XP YP l.row.toRowW d [] (fun f vs=>PySem.call f vs):=by
 intro w s₀ s₁ mg mb G Y fa o pm cd doc dV kV ho hd hcd hD hmg hg args vals as hpre hlay hrd hwl hlo
 obtain rfl:dV=.none:=Dflts.none hD hdf
 obtain rfl:kV=.none:=Dflts.noKw hD
 obtain⟨a,vs,ns,rfl,rfl,hobj,hints,bX⟩:=qX hn hpre hwl
 refine enter_call (codeAny_mono (call w s₀ s₁ mg mb fa o pm cd doc a vs ns G Y ho (fd_plain hd) hcd hmg hobj hints bX hg) fun r s' hq=>?_)
 obtain⟨rfl,h2,h3,h4⟩:=hq
 exact⟨.inl ⟨.bool true,.bool true,[],rfl,fun _=>rfl,.bool true,qY l _,fun _=>⟨List.Pairwise.nil,fun _ hm=>(nomatch hm)⟩⟩,h2,h3,h4⟩
section
variable {prog:Program}{w:World}{A:Around}{E:Value->Shared->Prop}{s:Shared}{K:Frag}
end
end Att
namespace L2
open PySem PySem.Spec PyProof.Rows
end L2
namespace L2
open PySem PySem.Spec PyProof.Rows
noncomputable def defArgs (s:Stmt):Arguments:=match s with
 | .FunctionDef _ a _ _ _ _ _ _ _ _=>a
 |_=>{ posonlyargs:=[],args:=[],vararg:=none,kwonlyargs:=[],kw_defaults:=[],kwarg:=none,defaults:=[] }
noncomputable def defBody (s:Stmt):List Stmt:=match s with
 | .FunctionDef _ _ b _ _ _ _ _ _ _=>b
 |_=>[]
noncomputable def defScope (s:Stmt):Scope:=match s with
 | .FunctionDef _ _ _ _ _ _ sc _ _ _=>sc
 |_=>{ kind:=.function,names:=[],isGenerator:=false,isCoroutine:=false }
noncomputable abbrev DU:CXT:=fun _ _ _ _ _ _=>False
noncomputable abbrev E0:XK:=fun _ _ _=>False
structure Fun (K:PySem.W.Frag) (x qual:Str) (st:Stmt) (f:Addr) (fd:FuncData):Prop where
 ex:∃(oc:Value)(od:Option Addr)(kV doc pm:Value)(an:Option Addr)(cdv ct:Value)(osl:Array (Option Value)),
  fd=PySem.W.fnOf x qual (defArgs st) (defBody st) (defScope st) .none kV doc pm an cdv ct/\K.lookup f=some ⟨oc,od,.func fd,osl⟩/\PySem.W.codeIn K cdv qual=true
 kp:PySem.W.keepIn K (.ref f)=true
section
variable {P:Program}{w:World}{K:PySem.W.Frag}{mg:Str->Option Value}{base:Heap}
theorem Fun.ok {x qual:Str}{st:Stmt}{f:Addr}{fd:FuncData}{N ps:List Str}{k:Nat}{sp:Sp}(F:Fun K x qual st f fd)(S:FnScope N ps (defScope st))(len:∀ vs H Q E,sp vs H Q E->vs.length=ps.length)
 (hbody:∀(cdv:Value)(A:Around)(outer:List Env)(s:Shared)(H:Hp)(vs:List V)(Q:VK)(E:XK),Room k (A.deeper (envOfC qual (defScope st) s.heap.objs.size f cdv))->sp vs H Q E->
   ∃ t,PSs (oo DU P w K mg base N qual (defScope st) f cdv A outer s H E).nox (defBody st) t/\t { nx:=fun _ H'=>Q .non H',rt:=Q } (fW N vs) H):FnOk P w K mg base DU (k+1) f fd ps sp:=by
 obtain⟨oc,od,kV,doc,pm,an,cdv,ct,osl,rfl,lk,hcd⟩:=F.ex
 refine xA lk hcd S len fun A outer s H vs Q E hr hsp=>?_
 obtain⟨t,h,q⟩:=hbody cdv A outer s H vs Q E hr hsp
 exact⟨t,h.nox,q⟩
theorem Fun.binds {x qual:Str}{st:Stmt}{f:Addr}{fd:FuncData}{ps:List Str}(F:Fun K x qual st f fd)
 (h:∀(kV doc pm:Value)(an:Option Addr)(cdv ct:Value)(us:List Value),us.length=ps.length->bindArgs (PySem.W.fnOf x qual (defArgs st) (defBody st) (defScope st) .none kV doc pm an cdv ct) ⟨us,[]⟩=pure (ps.zip us)):Binds K fd ps []:=by
 obtain⟨oc,od,kV,doc,pm,an,cdv,ct,osl,rfl,lk,hcd⟩:=F.ex
 exact .all (h kV doc pm an cdv ct)
theorem aC {x qual:Str}{st:Stmt}{f:Addr}{oc:Value}{od an:Option Addr}{osl:Array (Option Value)}{kV doc pm cdv ct:Value}(l:K.lookup f=some ⟨oc,od,.func (PySem.W.fnOf x qual (defArgs st) (defBody st) (defScope st) .none kV doc pm an cdv ct),osl⟩)
 (c:PySem.W.codeIn K cdv qual=true) (k:PySem.W.keepIn K (.ref f)=true):Fun K x qual st f (PySem.W.fnOf x qual (defArgs st) (defBody st) (defScope st) .none kV doc pm an cdv ct):=⟨⟨oc,od,kV,doc,pm,an,cdv,ct,osl,rfl,l,c⟩,k⟩
end
section
variable {X:Cx}
theorem pv (i:Nat) {x:Str} {pos:Pos} (hN:autoParam (X.N[i]?=some x) autoR._auto_1) (hv:Vis X.env.scope x:=by first|exact Or.inl rfl|exact Or.inr (Or.inl rfl)|exact Or.inr (Or.inr rfl)) (hd:autoParam ((x==("__debug__" : Str))=false) autoD._auto_1)
 (hcd:autoParam ((x==("__classdict__" : Str))=false) autoD._auto_1):PE X (.Name x pos) (kX i):=ye hN hv hd hcd
end
theorem qZ {A B:Prop}(h:B):if false=true then A else B:=by
 rw[if_neg Bool.false_ne_true]
 exact h
theorem ox {A B:Prop}(h:A):if true=true then A else B:=by
 rw[if_pos rfl]
 exact h
noncomputable def Same (H H':Hp):Prop:=∀ b o,H b=some o->H' b=some o
theorem Same.refl (H:Hp):Same H H:=fun _ _ h=>h
theorem Same.trans {H H1 H2:Hp}(a:Same H H1)(b:Same H1 H2):Same H H2:=fun c o h=>b c o (a c o h)
theorem Same.free {H H':Hp}(e:Same H H'){l:Addr}(h:H' l=Option.none):H l=Option.none:=by
 cases q:H l with
 |none=>rfl
 |some o=>
  rw[e l o q]at h
  cases h
section
variable {κ:Type}[DecidableEq κ]
end
end L2
set_option autoImplicit false
namespace L2
open PySem PySem.Spec PyProof.Rows
noncomputable def gh (P:Program)(w:World):CXT:=fun outer H s E e s'=>
 ∃(x C t:Addr)(B:Heap)(H':Hp),e=.ref x/\s'.os=s.os/\AllBare s'.gens/\Un (frs outer) [] H H' s.heap s'.heap/\HOk P w H' s'.heap/\
  Heap.FlyingW B outer x (.ref C) (.ref t) s'.heap/\(∀ b u,H' b=some u->∃ o,B.get? b=some o)/\(∀ b o,s.heap.get? b=some o->Qt H b->b∉frs outer->B.get? b=some o)/\
  (∀ b o,s.heap.get? b=some o->b∉frs outer->∃ o',B.get? b=some o')/\H' x=none/\E (.ref C) none H'
theorem lA {P:Program}{w:World}{H:Hp}{B h1 h2:Heap}(ok:HOk P w H h1)(sB:∀ b u,H b=some u->∃ o,B.get? b=some o)(s1:B.StaysIn h1)(s2:B.StaysIn h2):HOk P w H h2:=fun a o e=>
 (ok a o e).stay (fun b u hb q=>by
   have hb':∃ v,H b=some v:=hb.elim (fun z=>⟨o,by rw[z];exact e⟩) fun z=>⟨_,z⟩
   obtain⟨v,hv⟩:=hb'
   obtain⟨o',ho⟩:=sB b v hv
   have:=s1 b o' ho
   rw[q]at this
   cases this
   exact s2 b _ ho) (fun _ q=>q) fun _ _ q=>q
theorem jX {P:Program}{w:World}{H:Hp}{h:Heap}{a:Addr}:∀{o:HO},ObjOk P w H h a o->∃ ob,h.get? a=some ob
 | .lst xs,x=>by obtain⟨_,_,_,_,e⟩:=x;exact⟨_,e⟩
 | .tup xs,x=>by obtain⟨_,_,_,⟨_,e,_⟩⟩:=x;exact⟨_,e⟩
 | .dK kvs,x=>by obtain⟨_,_,_,_,o,_,_,e,_⟩:=x;exact⟨_,e⟩
 | .dT kvs,x=>by obtain⟨_,_,_,_,o,_,_,e,_⟩:=x;exact⟨_,e⟩
 | .set S n,x=>by obtain⟨o,_,_,_,e,_⟩:=x;exact⟨_,e⟩
 | .ins C dx fs,x=>by obtain⟨_,_,_,e,_⟩:=x;exact⟨_,e⟩
 | .own y,x=>x
 | .xd fs,x=>by obtain⟨_,⟨_,_,_,e,_⟩,_⟩:=x;exact⟨_,e⟩
 | .rng lo hi,x=>by obtain⟨_,_,_,e⟩:=x;exact⟨_,e⟩
 | .frz ob u,x=>by obtain⟨e,_⟩:=x;exact⟨_,e⟩
 | .tbl ps,x=>⟨_,(show h.get? a=some _ from x)⟩
 | .met f y,x=>⟨_,(show h.get? a=some _ from x)⟩
 | .ext φ,x=>x.2.1
section
variable {P:Program}{w:World}{K:PySem.W.Frag}{mg:Str->Option Value}{base:Heap}{N:List Str}{qual:Str}{scope:Scope}{f:Addr}{cd:Value}{A:Around}{outer:List Env}{s₀:Shared}{H₀:Hp}{E:XK}
noncomputable abbrev jn (P:Program)(w:World)(K:PySem.W.Frag)(mg:Str->Option Value)(base:Heap)(N:List Str)(qual:Str)(scope:Scope)(f:Addr)(cd:Value)(A:Around)(outer:List Env)(s:Shared)(H:Hp)(E:XK):Cx:=
 oo (gh P w) P w K mg base N qual scope f cd A outer s H E
theorem nh {pins:List (Addr×Obj)}{σ:St}{H:Hp}{s:Shared}(I:Inv (jn P w K mg base N qual scope f cd A outer s₀ H₀ E) pins σ H s){b:Addr}{o:Obj}(e:s₀.heap.get? b=some o)(hb:b∉frs outer) :
 b∉frs (jn P w K mg base N qual scope f cd A outer s₀ H₀ E).stack:=fun z=>by
 rcases List.mem_cons.mp (I.stkSub b z) with q|q
 ·exact absurd (Nat.lt_of_lt_of_le (Heap.lt_size e) (Nat.le_trans I.ok.above (Nat.le_of_eq q.symm))) (Nat.lt_irrefl _)
 ·exact hb q
theorem oy {b:Addr}(hb:b∈frs outer):b∈frs (jn P w K mg base N qual scope f cd A outer s₀ H₀ E).stack:=by
 show b∈frs (envOfC qual scope s₀.heap.objs.size f cd::outer)
 unfold frs
 rw[List.filterMap_cons]
 have:(envOfC qual scope s₀.heap.objs.size f cd).frame=some s₀.heap.objs.size:=rfl
 rw[this]
 exact List.mem_cons_of_mem _ hb
theorem av:jV (gh P w) (jn P w K mg base N qual scope f cd A outer s₀ H₀ E) E:=by
 intro pins σ H s e s' I h
 obtain⟨x,C,t,B,H',rfl,os,bare,un,hok,fly,sB,unt,inB,hx,hE⟩:=h
 show wpAny _ _ (leaving _ _) _ _ s'
 have nx:∀ b:Addr,b∉(jn P w K mg base N qual scope f cd A outer s₀ H₀ E).ex:=fun b z=>absurd (show b∈([]:List Addr) from z) (by simp)
 refine wpAny_leaves_onW I.ok.frames rfl fly fun h' fly' up=>?_
 have nf:∀ b,b∈frs outer->∀ o,s'.heap.get? b=some o->∀ vs,o.data≠.fields vs:=fun b hb o e=>by
  obtain⟨_,o',e',d⟩:=fly.2.2.1.mem (oy (P:=P) (w:=w) (K:=K) (mg:=mg) (base:=base) (N:=N) (H₀:=H₀) (E:=E) (A:=A) hb)
  rw[e]at e';cases e';exact d
 refine⟨x,C,t,B,H',rfl,os.trans I.os,bare,⟨fun b o e n hb _=>?_,fun b o e n hb _=>?_,fun b o e n _=>?_,fun b o e _=>?_,fun b xs q=>un.tups b xs (I.base.tups b xs q),fun b o u q=>un.frzs b o u (I.base.frzs b o u q),fun b ps q=>?_⟩,lA hok sB fly.1 fly'.1,fly',sB,fun b o e n hb=>?_,fun b o e hb=>?_,hx,hE⟩
 ·exact fly'.1 b o (unt b o (I.base.keep b o e n hb (nx b)) (n.imp (fun n=>I.base.free b o e n (nx b)) fun⟨xs,q⟩=>⟨xs,I.base.tups b xs q⟩) (nh I e hb))
 ·obtain⟨sl,e1⟩:=I.base.slot b o e n hb (nx b)
  obtain⟨sl',e2⟩:=un.slot b _ e1 (I.base.free b o e n (nx b)) (oy hb) (by simp)
  obtain⟨sl'',e3⟩:=up b _ e2 (nf b hb _ e2)
  exact⟨sl'',e3⟩
 ·obtain⟨o1,e1⟩:=I.base.there b o e (nx b)
  exact un.free b o1 e1 (I.base.free b o e n (nx b)) (by simp)
 ·obtain⟨o1,e1⟩:=I.base.there b o e (nx b)
  by_cases hb:b∈frs outer
  ·obtain⟨o2,e2⟩:=un.there b o1 e1 (by simp)
   obtain⟨sl,e3⟩:=up b _ e2 (nf b hb _ e2)
   exact⟨_,e3⟩
  ·obtain⟨o',q⟩:=inB b o1 e1 (nh I e hb)
   exact⟨o',fly'.1 b o' q⟩
 ·obtain⟨m1,e1⟩:=I.base.tbls b ps q
  obtain⟨m2,e2⟩:=un.tbls b _ e1
  exact⟨m1++m2,by rw[e2,Array.append_assoc]⟩
 ·exact unt b o (I.base.keep b o e n hb (nx b)) (n.imp (fun n=>I.base.free b o e n (nx b)) fun⟨xs,q⟩=>⟨xs,I.base.tups b xs q⟩) (nh I e hb)
 ·obtain⟨o1,e1⟩:=I.base.there b o e (nx b)
  exact inB b o1 e1 (nh I e hb)
theorem vP {pins:List (Addr×Obj)}{σ:St}{H:Hp}{s:Shared}{h':Heap}{x C:Addr}{args:List Value}(I:Inv (jn P w K mg base N qual scope f cd A outer s₀ H₀ E) pins σ H s)(hx:Heap.MadeExcOf s.heap h' x (.ref C) args)(hE:E (.ref C) none H) :
 (jn P w K mg base N qual scope f cd A outer s₀ H₀ E).xe (.ref x) { s with heap:=h' }:=by
 show wpAny _ _ (leaving _ _) _ _ _
 have nx:∀ b:Addr,b∉(jn P w K mg base N qual scope f cd A outer s₀ H₀ E).ex:=fun b z=>absurd (show b∈([]:List Addr) from z) (by simp)
 have hin:∀ env∈(jn P w K mg base N qual scope f cd A outer s₀ H₀ E).stack,∀ b,env.frame=some b->b∈frs (jn P w K mg base N qual scope f cd A outer s₀ H₀ E).stack:=fun env he b hb=>List.mem_filterMap.mpr ⟨env,he,hb⟩
 have FF:=I.stack
 refine wpAny_leaves_madeW (base:=PySem.W.hideAll s.heap (frs (jn P w K mg base N qual scope f cd A outer s₀ H₀ E).stack)) I.ok.frames rfl (fun b o q=>PySem.W.of_hideAll _ q) (PySem.W.funFrames_hide FF hin) hx fun h'' t fly _ _ up=>?_
 have inB:∀ b o,s.heap.get? b=some o->b∉frs (jn P w K mg base N qual scope f cd A outer s₀ H₀ E).stack->(PySem.W.hideAll s.heap (frs (jn P w K mg base N qual scope f cd A outer s₀ H₀ E).stack)).get? b=some o:=fun b o e hb=>PySem.W.hideAll_get _ e hb
 have sB:∀ b u,H b=some u->∃ o,(PySem.W.hideAll s.heap (frs (jn P w K mg base N qual scope f cd A outer s₀ H₀ E).stack)).get? b=some o:=fun b u e=>by
  obtain⟨o,ho⟩:=jX (I.hok b u e)
  exact⟨o,inB b o ho fun z=>by rw[I.stkFree b z]at e;cases e⟩
 have st:(PySem.W.hideAll s.heap (frs (jn P w K mg base N qual scope f cd A outer s₀ H₀ E).stack)).StaysIn s.heap:=fun b o q=>PySem.W.of_hideAll _ q
 have nf:∀ b,b∈frs outer->∀ o,s.heap.get? b=some o->∀ vs,o.data≠.fields vs:=fun b hb o e=>by
  obtain⟨_,o',e',d⟩:=FF.mem (oy (P:=P) (w:=w) (K:=K) (mg:=mg) (base:=base) (N:=N) (H₀:=H₀) (E:=E) (A:=A) hb)
  rw[e]at e';cases e';exact d
 have hxn:H x=none:=by
  cases q:H x with
  |none=>rfl
  |some u=>
   obtain⟨o,ho⟩:=jX (I.hok x u q)
   rw[hx.new]at ho;cases ho
 refine⟨x,C,t,_,H,rfl,I.os,I.bare,⟨fun b o e n hb _=>?_,fun b o e n hb _=>?_,fun b o e n _=>I.base.free b o e n (nx b),fun b o e _=>?_,I.base.tups,I.base.frzs,I.base.tbls⟩,lA I.hok sB st fly.1,fly,sB,fun b o e n hb=>?_,fun b o e hb=>?_,hxn,hE⟩
 ·exact fly.1 b o (inB b o (I.base.keep b o e n hb (nx b)) (nh I e hb))
 ·obtain⟨sl,e1⟩:=I.base.slot b o e n hb (nx b)
  obtain⟨sl',e2⟩:=up b _ (hx.keeps b _ e1) (nf b hb _ e1)
  exact⟨sl',e2⟩
 ·obtain⟨o1,e1⟩:=I.base.there b o e (nx b)
  by_cases hb:b∈frs outer
  ·obtain⟨sl,e2⟩:=up b _ (hx.keeps b _ e1) (nf b hb _ e1)
   exact⟨_,e2⟩
  ·exact⟨o1,fly.1 b o1 (inB b o1 e1 (nh I e hb))⟩
 ·exact inB b o (I.base.keep b o e n hb (nx b)) (nh I e hb)
 ·obtain⟨o1,e1⟩:=I.base.there b o e (nx b)
  exact⟨o1,inB b o1 e1 (nh I e hb)⟩
theorem gY:PassesOwn (model P w) (jn P w K mg base N qual scope f cd A outer s₀ H₀ E).A (jn P w K mg base N qual scope f cd A outer s₀ H₀ E).env (jn P w K mg base N qual scope f cd A outer s₀ H₀ E).xe:=by
 show PassesOwn _ _ _ (fun e s'=>wpAny _ _ (leaving _ e) _ _ s')
 passes_own
end
end L2
namespace L2
open PySem PySem.Spec PyProof.Rows
abbrev vMro:List Value:=[.type "ValueError",.type "Exception",.type "BaseException",.type "object"]
noncomputable def Bc (h:Heap) (C:Addr) (bm:List Value):Prop:=∃ N nm q bs hdct sn sub ab col dd k0 k1 k2 k3 k5 mN,h.get? C=some (excClassObj nm q C N bs bm hdct sn sub ab col dd k0 k1 k2 k3 k5 "ValueError.__new__")/\h.Ns N mN/\mN "__init__"=none/\OwnTail h vMro bm
noncomputable def sQ (K:PySem.W.Frag)(C:Addr):List Value:=match K.lookup C with
 |some ⟨_,_,.cls cd,_⟩=>cd.mro
 |_=>[]
theorem sR {K:PySem.W.Frag} {h:Heap} {C:Addr} (X:K.In h) (q:PySem.W.excIn K C vMro "ValueError.__new__"=true):∃ bm,sQ K C=.ref C::bm/\Bc h C bm:=by
 have q0:=q
 unfold PySem.W.excIn at q
 unfold sQ
 cases ho:K.lookup C with
 |none=>rw[ho]at q;cases q
 |some ob=>
  rw[ho]at q
  split at q
  ·rename_i dd cd sl he
   injection he with he
   subst he
   dsimp only
   split at q
   ·rename_i D bm k0 k1 k2 k3 n k5 hm hs
    rw[hm]
    simp only[Bool.and_eq_true,beq_iff_eq,Bool.not_eq_true']at q
    obtain⟨⟨⟨⟨⟨hD,hn⟩,hdel⟩,ht⟩,hok⟩,hni⟩:=q
    refine⟨bm,by rw[hD],?_⟩
    obtain⟨nm,bs,mro,ns,qn,hd,sn,sub,ab,col,del⟩:=cd
    dsimp only at hm hdel hok hni
    have es:sl=#[k0,k1,k2,k3,some (.builtin n),k5]:=by
     cases sl with
     |mk l=>simp only at hs;rw[hs]
    rw[hn]at es
    subst es
    have hC:=X _ _ ho
    rw[hdel,hm,hD]at hC
    exact⟨ns,nm,qn,bs,hd,sn,sub,ab,col,dd,k0,k1,k2,k3,k5,_,hC,.of_isNs (PySem.W.isNs_of_in X hok),PySem.W.nsMap_none_of_in X hok hni,PySem.W.tail_of_in X ht⟩
   ·cases q
  ·cases q
structure XC (K:PySem.W.Frag) (mg:Str->Option Value) (c:Str) (C:Addr):Prop where
 gl:mg c=some (.ref C)
 ex:PySem.W.excIn K C vMro "ValueError.__new__"=true
section
variable {X:Cx}{c:Str}{C:Addr}{np cpos pos:Pos}{e₀:Expr}{bg:List Expr}{t:TA}
noncomputable def yM (t:TA)(EW:Hp->Prop):TS:=fun _ σ H=>t σ H fun vs H'=>vs.length<=sizeLine/\EW H'
theorem sS {EW:Hp->Prop}(hc:XC X.K X.mg c C)(hg:Gl X c)(hcalm:X.calm=true)(ha:PA X (e₀::bg) t)
 (hl:∀(pins:List (Addr×Obj))(σ:St)(H:Hp)(s:Shared)(h':Heap)(x:Addr)(args:List Value),Inv X pins σ H s->Heap.MadeExcOf s.heap h' x (.ref C) args->EW H->X.xe (.ref x) { s with heap:=h' })
 (he:autoParam (starEach (e₀::bg) X.env=(false,eval e₀ X.env)::starEach bg X.env) autoR._auto_1) (hpl:autoParam ((backTo cpos (starEach bg X.env)).any (·.1)=false) autoR._auto_1) (hd:autoParam ((c==("__debug__" : Str))=false) autoD._auto_1) :
 PS X (.Raise (some (.Call (.Name c np) (e₀::bg) [] cpos)) none pos) (yM t EW):=by
 intro pins s σ H D I h
 obtain⟨bm,_,N,nm,q,bs,hdct,sn,sub,ab,col,dd,k0,k1,k2,k3,k5,mN,hC,hN,hni,TL⟩:=sR I.ok.mod.kin hc.ex
 have fb:=PySem.F.excBase_ValueError
 refine wpAny_Raise_call_subU (C:=C) (nm:=nm) (q:=q) (N:=N) (bs:=bs) (bm:=bm) (hdct:=hdct) (sn:=sn) (sub:=sub) (ab:=ab) (col:=col) (dd:=dd) (k0:=k0) (k1:=k1) (k2:=k2) (k3:=k3) (k5:=k5) (bmB:=vMro)
  fb (by decide +kernel) fb (mN:=mN) (TL.hasType fb.hasBase) (I.ok.hd hcalm) ?_ hni (l6 I hg hc.gl ⟨rfl,?_⟩ hd)
 ·rw[he]
  show(false || (backTo cpos (starEach bg X.env)).any (·.1))=false
  rw[hpl];rfl
 ·have ha':=ha cpos pins s σ H _ I h
  rw[he]at ha' ⊢
  refine Calls.evalArgs_plain (wpAny_mono ha' (fun us s2 ⟨vs,H2,I2,r,q2⟩=>?_) fun _ _ y=>y)
  exact⟨rfl,by rw[<- r.length];exact q2.1,I2.bk _ _ hC,hN.keeps I2.bk,TL.keeps I2.bk,fun h' e hm=>hl pins σ H2 s2 h' e us I2 hm q2.2⟩
end
section
variable {M:Model}{A:Around}{E:Value->Shared->Prop}
end
end L2
namespace L2
open PySem PySem.Spec PyProof.Rows
noncomputable abbrev TX:=St->Hp->VK->XK->Prop
section
variable {X:Cx}{k:Nat}{f:Addr}{fd:FuncData}{ps:List Str}{sp:Sp}{dvs:List V}{ds:List Value}{x:Str}{p pos:Pos}{e:Expr}{es:List Expr}{t:TA}
end
section
variable {X:Cx}{pins:List (Addr×Obj)}{σ:St}{H:Hp}{s:Shared}{x:Addr}
end
section
variable {X:Cx}{hc:Str}{Ch:Addr}{np hpos pos epos:Pos}{b₀:Stmt}{suite:List Stmt}{ts:TS}{te:TX}{e:Expr}
end
end L2
namespace L2
open PySem PySem.Spec PySem.Calls PyProof.Rows
theorem fX {prog:Program}{w:World}{A:Around}{E:Value->Shared->Prop}{s:Shared}{a:Addr}{o:Obj}{xs:Array Value}{k:Nat}{name:Str}{Q:Option Value->Shared->Prop}
 (hx:s.heap.get? a=some o) (hc:o.cls=.type "list") (hdat:o.data=.seq xs k) (hd:o.dict=none) (hmiss:typeLookup (.type "list") name=pure none) (hname:(["__module__", "__name__", "__qualname__", "__doc__", "__annotations__"]:List Str).contains name=false) (hA:A.handled=none)
 (h:∀ h' tk e,Heap.NewExcOf s.heap h' e "AttributeError"->Q none { s with heap:=h',toks:=tk }) (hsz:name.length+100<=sizeLine:=by size_fits) :
 wpAny (model prog w) A (getAttr? (.ref a) name) Q E s:=by
 obtain⟨c,dct,dat,sl⟩:=o
 simp only at hc hdat hd
 subst hc hdat hd
 obtain⟨hp,g,d,tk,os⟩:=s
 have hT:∀ tk',(⟨hp,g,d,tk',os⟩ : Shared).TypeIs (.ref a) "list":=fun _=>⟨_,hx,rfl⟩
 have f1:=sub_AttributeError
 have f3:=PySem.F.slot_list_getattribute.lookup
 have f4:=PySem.F.slot_list_getattribute.bind (.ref a)
 have f5:=am_list_getattr_none
 unfold getAttr? getAttrBy? getAttrBy
 repeat (any_goals (first|assumption|exact hT _|((with_reducible show wpAny _ _ (call (Value.builtin "list.__getattribute__") _ _) _ _ _);refine call_meets PySem.F.slot_list_getattribute (hT _) am_entry_list_getattribute (PySem.F.args_list_getattribute_2 _ _) (meets_getattribute_miss_list a xs k sl name _ hmiss hname hsz) ⟨hx,hA,fun h' tk' e hx'=>?_⟩)|wp_step))
 obtain⟨t',u',he⟩:=hx'.there
 show wpAny _ _ (getattributeRaised _ _ _ _ _ _ _) _ _ _
 unfold getattributeRaised
 repeat (any_goals (first|assumption|wp_step))
 exact h _ _ _ hx'.of
end L2
namespace L2
open PySem PySem.Spec PySem.Calls PyProof.Rows
noncomputable abbrev eY:=List Key×Addr×Value
noncomputable def px (xs:List eY)(its:List eY):List eY:=its.foldl (fun xs x=>storedH xs x.1 x.2.1 x.2.2) xs
theorem dj:entryFor table "dict.update.loop"=some Builtin.«dict.update.loop»:=entryFor_of_tree (by kernel_rfl)
theorem bt:plainId "dict.update.loop"=true:=by decide +kernel
section
variable {prog:Program}{w:World}
noncomputable abbrev tK (prog:Program)(w:World):=tupleKind (aT prog w)
noncomputable def DRaw (prog:Program)(w:World)(h:Heap)(S:Addr)(xs:List eY):Prop:=∃ o es ep,h.get? S=some o/\o.ExactDict/\o.data=.dict es ep/\es.toList=xs.map (entryOfKey (tK prog w))/\(xs.map (·.1)).Nodup
theorem pz {h h':Heap}{k:List Key}{a:Addr}(x:(tK prog w).is h k a)(e:∀ b o,h.get? b=some o->h'.get? b=some o):(tK prog w).is h' k a:=by
 obtain⟨o,items,n,h1,r⟩:=x
 exact⟨o,items,n,e _ _ h1,r⟩
theorem DRaw.of {hb h:Heap}{S:Addr}{xs:List eY}(d:DRaw prog w h S xs)(ks:∀ x∈xs,(tK prog w).is hb x.1 x.2.1)(e:∀ b o,hb.get? b=some o->h.get? b=some o):h.DictOfH (tK prog w) S xs:=by
 obtain⟨o,es,ep,h1,h2,h3,h4,h5⟩:=d
 exact⟨o,es,ep,h1,h2,h3,h4,fun x hx=>pz (ks x hx) e,h5⟩
theorem oz {hb:Heap}{xs:List eY}{k:List Key}{a:Addr}{v:Value}(ks:∀ x∈xs,(tK prog w).is hb x.1 x.2.1)(hk:(tK prog w).is hb k a):∀ x∈storedH xs k a v,(tK prog w).is hb x.1 x.2.1:=by
 unfold storedH
 split
 ·intro x hx
  obtain⟨y,hy,rfl⟩:=List.mem_map.mp hx
  have:=ks y hy
  unfold putAt
  split<;>exact this
 ·intro x hx
  rcases List.mem_append.mp hx with hx|hx
  ·exact ks x hx
  ·simp at hx;subst hx;exact hk
theorem ni {xs:List eY}{k:List Key}{a:Addr}{v:Value}:(storedH xs k a v).length<=xs.length+1:=by
 unfold storedH
 split
 ·rw[List.length_map];omega
 ·rw[List.length_append];simp
variable {A:Around}{R:Result->Shared->Prop}{I:Addr}{fp wr:List Addr}{G:Array GenState->Array GenState->Prop}{n:Nat}{P:Nat->Value->Prop}{St:Nat->Shared->Prop}
theorem ij (W:WalksS prog w A.in1 I fp wr G n P St)(S:Addr)(hSf:S∉fp)(hu:A.in1.units<cLine)(hb:Heap)(hbS:hb.get? S=none)(hbw:∀ b∈wr,hb.get? b=none)(its:List eY)(hn:its.length=n)
 (hval:∀ i v,P i v->∃ p x,v=.ref p/\its[i]?=some x/\hb.IsTuple p #[.ref x.2.1,x.2.2]/\(tK prog w).is hb x.1 x.2.1) (hsz:n<=sizeLine) :
 ∀(k i:Nat)(s:Shared)(xs:List eY)(j:Int),n-i=k->i<=n->St i s->(∀ b o,hb.get? b=some o->s.heap.get? b=some o)->(∀ x∈xs,(tK prog w).is hb x.1 x.2.1)->xs.length<=i->
  DRaw prog w s.heap S xs->
  (∀ s',Moved (S::wr) G s s'->s'.heap.DictOfH (tK prog w) S (px xs (its.drop i))->R (.ok (.ret .none)) s')->
  codeAny (model prog w) A (.builtin "dict.update.loop" ⟨[.ref S,.ref I,rawInt j,.none],[]⟩) R s:=by
 have hSw:S∉wr:=fun h=>hSf (W.sub _ h)
 have hsub:∀ b∈wr,b∈S::wr:=fun b hb=>List.mem_cons_of_mem _ hb
 intro k
 induction k with
 |zero=>
  intro i s xs j hk hi hst K ks hxl hS hR
  have hin:i=n:=by omega
  subst hin
  refine codeAny_builtin dj ?_
  rw[Around.under_plainId bt _]
  show wpAny _ A.in1 (pyNext (.ref I) >>= _) _ _ s
  refine wpAny_bind (W.done s _ _ hst fun s' hm=>?_)
  have hR':=hR s' (hm.mono hsub) (by
   rw[List.drop_of_length_le (by omega)]
   obtain⟨o,es,ep,ho,bg⟩:=hS
   exact DRaw.of (hb:=hb) ⟨o,es,ep,hm.heap S _ hSw ho,bg⟩ ks fun b o e=>hm.heap b o (fun z=>by rw[hbw b z]at e;cases e) (K b o e))
  show wpAny _ A.in1 (Builtin.Dict.addKeywords S [] >>= fun _=>ret Value.none) _ _ s'
  exact wpAny_bind (wpAny_pure (wpAny_pure hR'))
 |succ k ih=>
  intro i s xs j hk hi hst K ks hxl hS hR
  have hlt:i<n:=by omega
  refine codeAny_builtin dj ?_
  rw[Around.under_plainId bt _]
  show wpAny _ A.in1 (pyNext (.ref I) >>= _) _ _ s
  refine wpAny_bind (W.item i s _ _ hlt hst fun v s' hP hst' hm=>?_)
  obtain⟨p,x,rfl,hx,ht,sA⟩:=hval i v hP
  have K':∀ b o,hb.get? b=some o->s'.heap.get? b=some o:=fun b o e=>hm.heap b o (fun z=>by rw[hbw b z]at e;cases e) (K b o e)
  obtain⟨ot,hot,hct,nt,hdt⟩:=ht
  have hT:s'.TypeIs (.ref p) "tuple":=⟨ot,K' _ _ hot,hct⟩
  have hS':DRaw prog w s'.heap S xs:=by
   obtain⟨o,es,ep,ho,bg⟩:=hS
   exact⟨o,es,ep,hm.heap S _ hSw ho,bg⟩
  refine wpAny_bind (wpAny_holding ?_)
  refine wpAny_bind ?_
  refine wpAny_tryCatch ?_
  unfold Builtin.Dict.pairItems
  refine wpAny_bind (wpAny_typeOf hT ?_)
  rw[if_pos (by decide)]
  refine wpAny_bind (wpAny_seqItems (K' _ _ hot) hdt ?_)
  refine wpAny_pure ?_
  show wpAny _ A.in1 (holding [Value.ref x.2.1,x.2.2] (dictSet S (.ref x.2.1) x.2.2)) _ _ s'
  refine wpAny_holding ?_
  refine wpAny_dictSet_heap (knd:=tK prog w) (hsz:=by omega) hu (pz sA K') (DRaw.of hS' ks K') fun h' hd' hs'=>?_
  have K2:∀ b o,hb.get? b=some o->h'.get? b=some o:=fun b o e=>(hs'.2 b (fun z=>by subst z;rw[hbS]at e;cases e)).trans (K' b o e)
  have hdrop:its.drop i=x::its.drop (i+1):=by
   have hil:i<its.length:=by omega
   rw[List.drop_eq_getElem_cons hil]
   rw[List.getElem?_eq_getElem hil]at hx
   rw[Option.some.inj hx]
  refine wpAny_pure ⟨plainId_quiet bt _,ih (i+1) _ (storedH xs x.1 x.2.1 x.2.2) (j+1) (by omega) hlt (W.frame _ s' _ _ hst' (Nat.le_add_right _ _) fun b hb o e=>?_) K2 (oz ks sA) (by have:=ni (xs:=xs) (k:=x.1) (a:=x.2.1) (v:=x.2.2);omega) ?_ fun s'' hm'' hS''=>?_⟩
  ·rw[hs'.2 b (fun h:b=S=>hSf (by rw[<- h];exact hb))];exact e
  ·obtain⟨o,es,ep,h1,h2,h3,h4,_,h5⟩:=hd'
   exact⟨o,es,ep,h1,h2,h3,h4,h5⟩
  ·refine hR s'' (Moved.trans W.gtrans ((hm.mono hsub).then_heap (Nat.le_add_right _ _) fun b o hb e=>?_) hm'') (by rw[hdrop];exact hS'')
   rw[hs'.2 b (fun h:b=S=>hb (by rw[h];exact List.mem_cons_self))];exact e
end
end L2
namespace L2
open PySem PySem.Spec PySem.Calls PyProof.Rows
section
variable {prog:Program}{w:World}{A:Around}{E:Value->Shared->Prop}{s:Shared}
theorem jF {l:Addr} {items:Array Value} {nl:Nat} {its:List eY} {Q:Value->Shared->Prop} (hh:A.handled=none) (hu:A.in1.in1.units<cLine) (hl:s.heap.get? l=some { cls:=.type "list",data:=.seq items nl }) (hn:its.length=items.size) (hsz:items.size<=sizeLine)
 (hval:∀(i:Nat)(v:Value),items[i]?=some v->∃(p:Addr)(x:eY),v=.ref p/\its[i]?=some x/\s.heap.IsTuple p #[.ref x.2.1,x.2.2]/\(tK prog w).is s.heap x.1 x.2.1)
 (h:∀(h':Heap)(tk:Nat),h'.DictOfH (tK prog w) s.heap.objs.size (px [] its)->(∀ b o,b<s.heap.objs.size->s.heap.get? b=some o->h'.get? b=some o)->Q (.ref s.heap.objs.size) { s with heap:=h',toks:=tk }) :
 wpAny (model prog w) A (call (.type "dict") [.ref l]) Q E s:=by
 refine callType_codes (Q₁:=fun obj s₁=>obj=.ref s.heap.objs.size/\s₁={ s with heap:=s.heap.push { cls:=.type "dict",data:=.dict #[] } }) PySem.F.kt_called_dict (PySem.F.kt_typeCall_dict_1 _) PySem.F.entry_dict_init (kt_code_dict_new _ ⟨rfl,rfl⟩) ?_
 rintro obj s₁ ⟨rfl,rfl⟩
 have hD:(s.heap.push { cls:=.type "dict",data:=.dict #[] }).get? s.heap.objs.size=some { cls:=.type "dict",data:=.dict #[] }:=Heap.get?_push_size _ rfl
 have hT:Shared.TypeIs { s with heap:=s.heap.push { cls:=.type "dict",data:=.dict #[] } } (.ref s.heap.objs.size) "dict":=⟨_,hD,rfl⟩
 refine⟨hT,PySem.F.args_dict_init_2 _ _,?_⟩
 unfold Builtin.«dict.__init__»
 refine wpAny_bind ?_
 unfold Builtin.Dict.selfAndRest
 refine wpAny_bind (wpAny_notOrdered_dict hT ?_)
 show wpAny _ _ (pure (s.heap.objs.size,[Value.ref l])) _ _ _
 refine wpAny_pure ?_
 show wpAny _ _ (Builtin.Dict.updateFrom "dict.__init__" s.heap.objs.size (.ref l) [] .none) _ _ _
 unfold Builtin.Dict.updateFrom
 have hl1:(s.heap.push { cls:=.type "dict",data:=.dict #[] }).get? l=some { cls:=.type "list",data:=.seq items nl }:=Heap.get?_push_of_some _ hl
 refine wpAny_bind (wpAny_typeOf ⟨_,hl1,rfl⟩ ?_)
 rw[if_pos (by decide)]
 refine wpAny_bind (fX (s:={ s with heap:=s.heap.push { cls:=.type "dict",data:=.dict #[] } }) hl1 rfl rfl rfl (am_miss_of_fast (by decide +kernel)) (by decide +kernel) (by simp[hh]) fun h1 tk1 e1 hx1=>?_)
 rw[if_pos (by decide)]
 refine wpAny_bind (wpAny_rule ?_)
 have k1:∀ b o,s.heap.get? b=some o->h1.get? b=some o:=fun b o e=>hx1.keeps b o (Heap.get?_push_of_some _ e)
 have hl2:h1.get? l=some { cls:=.type "list",data:=.seq items nl }:=k1 _ _ hl
 have hD1:h1.get? s.heap.objs.size=some { cls:=.type "dict",data:=.dict #[] }:=hx1.keeps _ _ hD
 have hlt1:s.heap.objs.size<h1.objs.size:=Heap.lt_size hD1
 have hll:l<s.heap.objs.size:=Heap.lt_size hl
 refine wpAny_bind (wpAny_pyIter_list (s:=⟨h1,s.gens,s.drawn,tk1,s.os⟩) ⟨_,hl2,rfl,nl,rfl⟩ ?_)
 have hh3:A.in1.in1.handled=none:=by simp[hh]
 have hno:∀ b,s.heap.objs.size<=b->s.heap.get? b=none:=fun b hb=>by
  cases q:s.heap.get? b with
  |none=>rfl
  |some o=>exact absurd (Heap.lt_size q) (Nat.not_lt.mpr hb)
 have hneI:l≠h1.objs.size:=Nat.ne_of_lt (Nat.lt_trans hll hlt1)
 have k2:∀ b o,h1.get? b=some o->(h1.push { cls:=.type "list_iterator",data:=.fields #[.ref l,.int 0 0] }).get? b=some o:=fun b o e=>Heap.get?_push_of_some _ e
 refine wpAny_pure ⟨plainId_quiet bt _,ij (A:=A.in1) ((Walks.list hh3 h1.objs.size l hneI items).toS) s.heap.objs.size ?_ hu s.heap (hno _ (Nat.le_refl _)) ?_ its hn hval hsz (items.size-0) 0 _ [] 0 rfl (Nat.zero_le _) ⟨⟨_,Heap.get?_push_size _ rfl,rfl,rfl⟩,⟨_,k2 _ _ hl2,rfl,nl,rfl⟩⟩ (fun b o e=>k2 _ _ (k1 b o e)) (fun x hx=>nomatch hx) (Nat.le_refl _) ⟨_,#[],0,k2 _ _ hD1,?_,rfl,rfl,List.nodup_nil⟩ ?_⟩
 ·simp only[List.mem_cons,List.not_mem_nil,or_false,not_or]
  exact⟨Nat.ne_of_lt hlt1,Nat.ne_of_gt hll⟩
 ·intro b hb
  simp only[List.mem_cons,List.not_mem_nil,or_false]at hb
  subst hb
  exact hno _ (Nat.le_of_lt hlt1)
 ·exact⟨rfl,rfl,rfl⟩
 ·intro s' hm hS'
  obtain⟨h',g',d',tk',os'⟩:=s'
  have eg:g'=s.gens:=hm.gens
  have ed:d'=s.drawn:=hm.drawn
  have eo:os'=s.os:=hm.os
  subst eg;subst ed;subst eo
  refine⟨rfl,h h' tk' hS' fun b o hb e=>hm.heap b o ?_ (k2 _ _ (k1 _ _ e))⟩
  simp only[List.mem_cons,List.not_mem_nil,or_false,not_or]
  exact⟨Nat.ne_of_lt hb,Nat.ne_of_lt (Nat.lt_trans hb hlt1)⟩
end
end L2
namespace L2
open PySem PySem.Spec PySem.Calls PyProof.Rows
noncomputable def gk (t kvs:List (List Key×V)):List (List Key×V):=kvs.foldl (fun t x=>eI t x.1 x.2) t
noncomputable def ma (H:Hp):List V->List (List Key×V)->Prop:=Paired fun v kv=>∃ p ka,v=.ref p/\H p=some (.tup [.ref ka,kv.2])/\H ka=some (.tup (kv.1.map kV))
section
variable {P:Program}{w:World}{H:Hp}{h:Heap}
theorem lB (ok:HOk P w H h):∀{vs:List V}{us:List Value}{kvs:List (List Key×V)},ma H vs kvs->Vals vs us->
 ∃ its:List eY,its.length=us.length/\(∀(i:Nat)(v:Value),us[i]?=some v->∃(p:Addr)(x:eY),v=.ref p/\its[i]?=some x/\h.IsTuple p #[.ref x.2.1,x.2.2]/\(tK P w).is h x.1 x.2.1)/\
  ∀ t xs,KT H t xs->KT H (gk t kvs) (px xs its)
 |_,_,_,.nil,.nil=>⟨[],rfl,fun i v e=>by simp at e,fun t xs r=>r⟩
 |_,_,_,.cons (a:=v) (b:=kv) q t,.cons (b:=u) r s=>by
  obtain⟨its,hl,hv,hk⟩:=lB ok t s
  obtain⟨p,ka,rfl,hp,hka⟩:=q
  cases r
  obtain⟨_,is,r2,ot,ho,hc,n,hd⟩:=(show ObjOk P w H h p (.tup [.ref ka,kv.2]) from ok p _ hp)
  obtain⟨u1,u2,rfl,ru1,ru2⟩:=m5 r2
  cases ru1
  refine⟨(kv.1,ka,u2)::its,by simp[hl],fun i v e=>?_,fun t xs rt=>?_⟩
  ·cases i with
   |zero=>simp at e;subst e;exact⟨p,(kv.1,ka,u2),rfl,rfl,⟨ot,ho,hc,n,hd⟩,hU ok hka⟩
   |succ i=>exact hv i v (by simpa using e)
  ·exact hk _ _ (rt.put kv.1 hka ru2)
theorem jY:∀(kvs t:List (List Key×V)),(gk t kvs).length<=t.length+kvs.length
 | [],t=>Nat.le_refl _
 |x::r,t=>by
  have:=jY r (eI t x.1 x.2)
  have h2:=jl t x.1 x.2
  show(gk (eI t x.1 x.2) r).length<=_
  simp only[List.length_cons];omega
end
section
variable {X:Cx}
theorem oA (hc:X.calm=true) (hu:X.A.units+64<cLine):CallR X (.type "dict") (fun xs H Q=>∃ l vs kvs,xs=[.ref l]/\Rd H l (.lst vs)/\ma H vs kvs/\∀ p,H p=none->Q (.ref p) (bz H p (.dT (gk [] kvs)))):=by
 intro pins s σ H xs us Q I r h
 obtain⟨l,vs,kvs,rfl,hl,hp,q⟩:=h
 obtain⟨u,rfl,ru⟩:=jj r
 obtain rfl:u=Value.ref l:=ru
 obtain⟨hz,its,n,rv,hg⟩:=(show ObjOk X.prog X.w H s.heap l (.lst vs) from hl.ok I.hok)
 obtain⟨pi,pl,pv,pk⟩:=lB I.hok hp rv
 have hsz:its.toArray.size<=sizeLine:=by rw[List.size_toArray,<- rv.length];exact hz
 refine jF (I.ok.hd hc) (by show X.A.units+1+1<cLine;omega) hg (its:=pi) (by rw[pl,List.size_toArray]) hsz (fun i v e=>pv i v (by simpa using e)) fun h' tk hD hk=>?_
 have hf:H s.heap.objs.size=none:=I.hok.fresh (Nat.le_refl _)
 refine⟨.ref s.heap.objs.size,_,I.laid (a:=s.heap.objs.size) (o:=.dT (gk [] kvs)) (t':=tk) (fun b o e=>hk b o (Heap.lt_size e) e) (Nat.le_refl _) ?_,rfl,q _ hf⟩
 obtain⟨o,es,ep,h1,h2,h3,h4,_,h5⟩:=hD
 refine⟨?_,beq_eq_false_iff_ne.mpr (Ne.symm (Nat.ne_of_lt I.big)),px [] pi,(pk [] [] .nil).keeps fun b ys e=>?_,o,es,ep,h1,h2,h3,h4,h5⟩
 ·have:=jY kvs []
  have h2:=Paired.length hp
  simp only[List.length_nil]at this
  omega
 ·rw[ax (ap e hf)];exact e
end
end L2
namespace L2
open PySem PySem.Spec PySem.Calls PyProof.Rows
section
variable {X:Cx}{pins:List (Addr×Obj)}{σ:St}{H:Hp}{s:Shared}{a:Addr}
end
end L2
namespace L2
open PySem PySem.Spec PySem.Calls PyProof.Rows
noncomputable def pA (H:Hp)(a:Addr)(y:V)(r:Option V):Prop:=
 DGet H a y r\/(Rd H a (.dT [])/\(∃ k,y=kV k)/\r=none)\/(Rd H a (.dK [])/\(∃(b:Addr)(k:List Key),y=.ref b/\H b=some (.tup (k.map kV)))/\r=none)
section
variable {X:Cx}{pins:List (Addr×Obj)}{σ:St}{H:Hp}{s:Shared}{a:Addr}{y v:V}{u r:Value}{o:Option V}{A:Around}{E:Value->Shared->Prop}
theorem sT {P:Program}{w:World}{h:Heap}(x:ObjOk P w H h a (.dT [])):(a==sysModules)=false/\h.DictOf (aT P w) a []:=by
 obtain⟨z,y,xs,r,o,es,ep,h1,h2,h3,h4,h5⟩:=x
 cases r
 have e:es=#[]:=by simpa using h4
 subst e
 exact⟨y,o,#[],ep,h1,h2,h3,fun x hx=>by simp at hx,by constructor,List.nodup_nil⟩
theorem sU {P:Program}{w:World}{h:Heap}(x:ObjOk P w H h a (.dK [])):(a==sysModules)=false/\h.DictOfH (tupleKind (aT P w)) a []:=by
 obtain⟨z,y,vs,r,o,es,ep,h1,h2,h3,h4,h5⟩:=x
 cases r
 refine⟨y,o,es,ep,h1,h2,h3,?_,fun x hx=>(nomatch hx),List.nodup_nil⟩
 generalize es.toList=l at h5
 obtain⟨h5,_⟩:=h5
 cases l with
 |nil=>rfl
 |cons x r=>cases h5
theorem Bd {Q:Value->Shared->Prop}(hu:A.units+1<cLine)(I:Inv X pins σ H s)(g:pA H a y o)(ry:RelV y u)(h:∀ s',Inv X pins σ H s'->Q (.bool o.isSome) s') :
 wpAny (model X.prog X.w) A (compareOp .In u (.ref a)) Q E s:=by
 rcases g with g|⟨e,⟨k,rfl⟩,rfl⟩|⟨e,⟨b,k,rfl,eb⟩,rfl⟩
 ·exact C6 hu I g ry h
 ·obtain⟨y,dd⟩:=sT (e.ok I.hok)
  exact wpAny_in_of (jm ry) y dd.mapOf (h _ (I.tok _))
 ·obtain rfl:u=Value.ref b:=ry
  obtain⟨y,dd⟩:=sU (e.ok I.hok)
  exact wpAny_in_heap (tupleKind_room_in1 hu) (hU I.hok eb) y dd (h _ (I.tok _))
theorem sV {Q:Value->Shared->Prop}(hu:A.units+1<cLine)(I:Inv X pins σ H s)(g:pA H a y o)(ry:RelV y u)(h:∀ s',Inv X pins σ H s'->Q (.bool (!o.isSome)) s') :
 wpAny (model X.prog X.w) A (compareOp .NotIn u (.ref a)) Q E s:=by
 rcases g with g|⟨e,⟨k,rfl⟩,rfl⟩|⟨e,⟨b,k,rfl,eb⟩,rfl⟩
 ·exact vN hu I g ry h
 ·obtain⟨y,dd⟩:=sT (e.ok I.hok)
  exact wpAny_notIn_of (jm ry) y dd.mapOf (h _ (I.tok _))
 ·obtain rfl:u=Value.ref b:=ry
  obtain⟨y,dd⟩:=sU (e.ok I.hok)
  exact wpAny_notIn_heap (tupleKind_room_in1 hu) (hU I.hok eb) y dd (h _ (I.tok _))
end
section
variable {X:Cx}{value o i:Expr}{td ty tv:TE}{pos pos':Pos}
end
end L2
namespace L2
open PySem PySem.Spec PySem.Calls PyProof.Rows
section
variable {X:Cx}{pins:List (Addr×Obj)}{σ:St}{H:Hp}{s:Shared}{a:Addr}{y d:V}{u r:Value}{o:Option V}{A:Around}{E:Value->Shared->Prop}
end
section
variable {X:Cx}{o e f:Expr}{apos cpos:Pos}{td ty tx:TE}
end
end L2
namespace L2
open PySem PySem.Spec PySem.Calls PyProof.Rows
noncomputable def yN:HO->Prop
 | .dK _=>True
 | .dT _=>True
 |_=>False
section
variable {X:Cx}{pins:List (Addr×Obj)}{σ:St}{H H':Hp}{s:Shared}{d:Addr}{o:Obj}{u:HO}
theorem Inv.view (I:Inv X pins σ H s)(hn:∀ b,H b=none->H' b=none)(ht:∀ b xs,H b=some (.tup xs)->H' b=some (.tup xs))(hf:∀ b o u,X.H₀ b=some (.frz o u)->H' b=some (.frz o u))
 (hb:∀ b ps,H b=some (.tbl ps)->H' b=some (.tbl ps)) (hok:HOk X.prog X.w H' s.heap):Inv X pins σ H' s where
 ok:=I.ok
 os:=I.os
 bare:=I.bare
 base:=⟨I.base.keep,I.base.slot,fun b o e n hx=>hn b (I.base.free b o e n hx),I.base.there,fun b xs e=>ht b xs (I.base.tups b xs e),hf,fun b ps e=>let ⟨m,q⟩:=I.base.tbls b ps e;⟨m,hb b _ q⟩⟩
 loc:=I.loc
 cell:=I.cell
 free:=hn _ I.free
 freeC:=fun x c e=>hn c (I.freeC x c e)
 pin:=fun p hp=>let ⟨a,b,c⟩:=I.pin p hp;⟨a,hn _ b,c⟩
 hok:=hok
 len:=I.len
theorem vQ {P:Program}{w:World}{h:Heap}(ok:HOk P w H h){u':HO}(hd:∃ u,H d=some u/\(∀ y,u≠.own y)/\∀ xs,u≠.tup xs)(new:ObjOk P w (bz H d u') h d u'):HOk P w (bz H d u') h:=fun b v e=>by
 obtain⟨u,hu,h1,h2⟩:=hd
 by_cases hb:b=d
 ·subst hb;rw[aP]at e;cases e;exact new
 ·rw[ax hb]at e
  refine(ok b v e).stay (fun _ _ _ q=>q) (fun c q=>?_) fun c xs q=>?_
  ·rw[ax]
   ·exact q
   ·rintro rfl;rw[hu]at q;cases q;exact h1 _ rfl
  ·rw[ax]
   ·exact q
   ·rintro rfl;rw[hu]at q;cases q;exact h2 _ rfl
theorem vR {u:HO}(h:yN u):(∀ y,u≠.own y)/\(∀ xs,u≠.tup xs)/\(∀ ps,u≠.tbl ps)/\∀ o v,u≠.frz o v:=by
 cases u<;>first|exact h.elim|exact⟨fun _ z=>(nomatch z),fun _ z=>(nomatch z),fun _ z=>(nomatch z),fun _ _ z=>(nomatch z)⟩
theorem q4 {P:Program}{w:World}{h:Heap}(hu:yN u)(x:ObjOk P w H h d u)(ht:∀ b xs,H b=some (.tup xs)->H' b=some (.tup xs)):ObjOk P w H' h d u:=by
 cases u with
 |dK kvs=>exact x
 |dT kvs=>
  obtain⟨z,y,xs,r,q⟩:=x
  exact⟨z,y,xs,Paired.mapP r fun p q z=>⟨z.1,ht _ _ z.2.1,z.2.2⟩,q⟩
 |_=>exact hu.elim
theorem Inv.frz (I:Inv X pins σ H s)(e:H d=some u)(hu:yN u)(ho:s.heap.get? d=some o):Inv X pins σ (bz H d (.frz o u)) s:=by
 obtain⟨n1,n2,n3,n4⟩:=vR hu
 have ht:∀ b xs,H b=some (.tup xs)->bz H d (.frz o u) b=some (.tup xs):=fun b xs q=>by
  rw[ax]
  ·exact q
  ·rintro rfl;rw[e]at q;cases q;exact n2 _ rfl
 refine I.view (fun b hb=>?_) ht (fun b o' u' q=>?_) (fun b ps q=>?_) (vQ I.hok ⟨u,e,n1,n2⟩ ⟨ho,q4 hu (I.hok d u e) ht⟩)
 ·rw[ax]
  ·exact hb
  ·rintro rfl;rw[e]at hb;cases hb
 ·have q:=I.base.frzs b o' u' q
  rw[ax]
  ·exact q
  ·rintro rfl;rw[e]at q;cases q;exact n4 _ _ rfl
 ·rw[ax]
  ·exact q
  ·rintro rfl;rw[e]at q;cases q;exact n3 _ rfl
end
section
variable {X:Cx}{tg:Expr}
end
end L2
namespace L2
open PySem PySem.Spec PySem.Calls PyProof.Rows
noncomputable abbrev lC:=Key×Value×Value
noncomputable def C7 (vs:List (Key×Value))(its:List lC):List (Key×Value):=its.foldl (fun vs x=>stored vs x.1 x.2.2) vs
section
variable {prog:Program}{w:World}
theorem jo {h h':Heap}{S:Addr}{vs:List (Key×Value)}(d:h.DictOf (aT prog w) S vs)(e:∀ o,h.get? S=some o->h'.get? S=some o):h'.DictOf (aT prog w) S vs:=let ⟨o,es,ep,ho,r⟩:=d;⟨o,es,ep,e o ho,r⟩
variable {A:Around}{R:Result->Shared->Prop}{I:Addr}{fp wr:List Addr}{G:Array GenState->Array GenState->Prop}{n:Nat}{P:Nat->Value->Prop}{St:Nat->Shared->Prop}
theorem hW (W:WalksS prog w A.in1 I fp wr G n P St)(S:Addr)(hSf:S∉fp)(hb:Heap)(hbS:hb.get? S=none)(hbw:∀ b∈wr,hb.get? b=none)(its:List lC)(hn:its.length=n)
 (hval:∀ i v,P i v->∃ p x,v=.ref p/\its[i]?=some x/\hb.IsTuple p #[x.2.1,x.2.2]/\(aT prog w).is x.1 x.2.1=true) (hsz:n<=sizeLine) :
 ∀(k i:Nat)(s:Shared)(vs:List (Key×Value))(j:Int),n-i=k->i<=n->St i s->(∀ b o,hb.get? b=some o->s.heap.get? b=some o)->vs.length<=i->s.heap.DictOf (aT prog w) S vs->
  (∀ s',Moved (S::wr) G s s'->s'.heap.DictOf (aT prog w) S (C7 vs (its.drop i))->R (.ok (.ret .none)) s')->
  codeAny (model prog w) A (.builtin "dict.update.loop" ⟨[.ref S,.ref I,rawInt j,.none],[]⟩) R s:=by
 have hSw:S∉wr:=fun h=>hSf (W.sub _ h)
 have hsub:∀ b∈wr,b∈S::wr:=fun b hb=>List.mem_cons_of_mem _ hb
 intro k
 induction k with
 |zero=>
  intro i s vs j hk hi hst K hxl hS hR
  have hin:i=n:=by omega
  subst hin
  refine codeAny_builtin dj ?_
  rw[Around.under_plainId bt _]
  show wpAny _ A.in1 (pyNext (.ref I) >>= _) _ _ s
  refine wpAny_bind (W.done s _ _ hst fun s' hm=>?_)
  have hR':=hR s' (hm.mono hsub) (by
   rw[List.drop_of_length_le (by omega)]
   exact jo hS fun o e=>hm.heap S o hSw e)
  show wpAny _ A.in1 (Builtin.Dict.addKeywords S [] >>= fun _=>ret Value.none) _ _ s'
  exact wpAny_bind (wpAny_pure (wpAny_pure hR'))
 |succ k ih=>
  intro i s vs j hk hi hst K hxl hS hR
  have hlt:i<n:=by omega
  refine codeAny_builtin dj ?_
  rw[Around.under_plainId bt _]
  show wpAny _ A.in1 (pyNext (.ref I) >>= _) _ _ s
  refine wpAny_bind (W.item i s _ _ hlt hst fun v s' hP hst' hm=>?_)
  obtain⟨p,x,rfl,hx,ht,sA⟩:=hval i v hP
  have K':∀ b o,hb.get? b=some o->s'.heap.get? b=some o:=fun b o e=>hm.heap b o (fun z=>by rw[hbw b z]at e;cases e) (K b o e)
  obtain⟨ot,hot,hct,nt,hdt⟩:=ht
  have hT:s'.TypeIs (.ref p) "tuple":=⟨ot,K' _ _ hot,hct⟩
  have hS':=jo hS fun o e=>hm.heap S o hSw e
  refine wpAny_bind (wpAny_holding ?_)
  refine wpAny_bind ?_
  refine wpAny_tryCatch ?_
  unfold Builtin.Dict.pairItems
  refine wpAny_bind (wpAny_typeOf hT ?_)
  rw[if_pos (by decide)]
  refine wpAny_bind (wpAny_seqItems (K' _ _ hot) hdt ?_)
  refine wpAny_pure ?_
  show wpAny _ A.in1 (holding [x.2.1,x.2.2] (dictSet S x.2.1 x.2.2)) _ _ s'
  refine wpAny_holding ?_
  refine wpAny_dictSet_pairs (knd:=aT prog w) (hsz:=by omega) sA hS' fun h' hd' hs'=>?_
  have K2:∀ b o,hb.get? b=some o->h'.get? b=some o:=fun b o e=>(hs'.2 b (fun z=>by subst z;rw[hbS]at e;cases e)).trans (K' b o e)
  have hdrop:its.drop i=x::its.drop (i+1):=by
   have hil:i<its.length:=by omega
   rw[List.drop_eq_getElem_cons hil]
   rw[List.getElem?_eq_getElem hil]at hx
   rw[Option.some.inj hx]
  refine wpAny_pure ⟨plainId_quiet bt _,ih (i+1) _ (stored vs x.1 x.2.2) (j+1) (by omega) hlt (W.frame _ s' _ _ hst' (Nat.le_add_right _ _) fun b hb o e=>?_) K2 (by have:=stored_length_le vs x.1 x.2.2;omega) hd' fun s'' hm'' hS''=>?_⟩
  ·rw[hs'.2 b (fun h:b=S=>hSf (by rw[<- h];exact hb))];exact e
  ·refine hR s'' (Moved.trans W.gtrans ((hm.mono hsub).then_heap (Nat.le_add_right _ _) fun b o hb e=>?_) hm'') (by rw[hdrop];exact hS'')
   rw[hs'.2 b (fun h:b=S=>hb (by rw[h];exact List.mem_cons_self))];exact e
end
section
variable {prog:Program}{w:World}{A:Around}{E:Value->Shared->Prop}{s:Shared}
theorem iV {l:Addr} {items:Array Value} {nl:Nat} {its:List lC} {Q:Value->Shared->Prop} (hh:A.handled=none) (hl:s.heap.get? l=some { cls:=.type "list",data:=.seq items nl }) (hn:its.length=items.size) (hsz:items.size<=sizeLine)
 (hval:∀(i:Nat)(v:Value),items[i]?=some v->∃(p:Addr)(x:lC),v=.ref p/\its[i]?=some x/\s.heap.IsTuple p #[x.2.1,x.2.2]/\(aT prog w).is x.1 x.2.1=true)
 (h:∀(h':Heap)(tk:Nat),h'.DictOf (aT prog w) s.heap.objs.size (C7 [] its)->(∀ b o,b<s.heap.objs.size->s.heap.get? b=some o->h'.get? b=some o)->Q (.ref s.heap.objs.size) { s with heap:=h',toks:=tk }) :
 wpAny (model prog w) A (call (.type "dict") [.ref l]) Q E s:=by
 refine callType_codes (Q₁:=fun obj s₁=>obj=.ref s.heap.objs.size/\s₁={ s with heap:=s.heap.push { cls:=.type "dict",data:=.dict #[] } }) PySem.F.kt_called_dict (PySem.F.kt_typeCall_dict_1 _) PySem.F.entry_dict_init (kt_code_dict_new _ ⟨rfl,rfl⟩) ?_
 rintro obj s₁ ⟨rfl,rfl⟩
 have hD:(s.heap.push { cls:=.type "dict",data:=.dict #[] }).get? s.heap.objs.size=some { cls:=.type "dict",data:=.dict #[] }:=Heap.get?_push_size _ rfl
 have hT:Shared.TypeIs { s with heap:=s.heap.push { cls:=.type "dict",data:=.dict #[] } } (.ref s.heap.objs.size) "dict":=⟨_,hD,rfl⟩
 refine⟨hT,PySem.F.args_dict_init_2 _ _,?_⟩
 unfold Builtin.«dict.__init__»
 refine wpAny_bind ?_
 unfold Builtin.Dict.selfAndRest
 refine wpAny_bind (wpAny_notOrdered_dict hT ?_)
 show wpAny _ _ (pure (s.heap.objs.size,[Value.ref l])) _ _ _
 refine wpAny_pure ?_
 show wpAny _ _ (Builtin.Dict.updateFrom "dict.__init__" s.heap.objs.size (.ref l) [] .none) _ _ _
 unfold Builtin.Dict.updateFrom
 have hl1:(s.heap.push { cls:=.type "dict",data:=.dict #[] }).get? l=some { cls:=.type "list",data:=.seq items nl }:=Heap.get?_push_of_some _ hl
 refine wpAny_bind (wpAny_typeOf ⟨_,hl1,rfl⟩ ?_)
 rw[if_pos (by decide)]
 refine wpAny_bind (fX (s:={ s with heap:=s.heap.push { cls:=.type "dict",data:=.dict #[] } }) hl1 rfl rfl rfl (am_miss_of_fast (by decide +kernel)) (by decide +kernel) (by simp[hh]) fun h1 tk1 e1 hx1=>?_)
 rw[if_pos (by decide)]
 refine wpAny_bind (wpAny_rule ?_)
 have k1:∀ b o,s.heap.get? b=some o->h1.get? b=some o:=fun b o e=>hx1.keeps b o (Heap.get?_push_of_some _ e)
 have hl2:h1.get? l=some { cls:=.type "list",data:=.seq items nl }:=k1 _ _ hl
 have hD1:h1.get? s.heap.objs.size=some { cls:=.type "dict",data:=.dict #[] }:=hx1.keeps _ _ hD
 have hlt1:s.heap.objs.size<h1.objs.size:=Heap.lt_size hD1
 have hll:l<s.heap.objs.size:=Heap.lt_size hl
 refine wpAny_bind (wpAny_pyIter_list (s:=⟨h1,s.gens,s.drawn,tk1,s.os⟩) ⟨_,hl2,rfl,nl,rfl⟩ ?_)
 have hh3:A.in1.in1.handled=none:=by simp[hh]
 have hno:∀ b,s.heap.objs.size<=b->s.heap.get? b=none:=fun b hb=>by
  cases q:s.heap.get? b with
  |none=>rfl
  |some o=>exact absurd (Heap.lt_size q) (Nat.not_lt.mpr hb)
 have hneI:l≠h1.objs.size:=Nat.ne_of_lt (Nat.lt_trans hll hlt1)
 have k2:∀ b o,h1.get? b=some o->(h1.push { cls:=.type "list_iterator",data:=.fields #[.ref l,.int 0 0] }).get? b=some o:=fun b o e=>Heap.get?_push_of_some _ e
 refine wpAny_pure ⟨plainId_quiet bt _,hW (A:=A.in1) ((Walks.list hh3 h1.objs.size l hneI items).toS) s.heap.objs.size ?_ s.heap (hno _ (Nat.le_refl _)) ?_ its hn hval hsz (items.size-0) 0 _ [] 0 rfl (Nat.zero_le _) ⟨⟨_,Heap.get?_push_size _ rfl,rfl,rfl⟩,⟨_,k2 _ _ hl2,rfl,nl,rfl⟩⟩ (fun b o e=>k2 _ _ (k1 b o e)) (Nat.le_refl _) ⟨_,#[],0,k2 _ _ hD1,⟨rfl,rfl,rfl⟩,rfl,fun x hx=>by simp at hx,by constructor,List.nodup_nil⟩ ?_⟩
 ·simp only[List.mem_cons,List.not_mem_nil,or_false,not_or]
  exact⟨Nat.ne_of_lt hlt1,Nat.ne_of_gt hll⟩
 ·intro b hb
  simp only[List.mem_cons,List.not_mem_nil,or_false]at hb
  subst hb
  exact hno _ (Nat.le_of_lt hlt1)
 ·intro s' hm hS'
  obtain⟨h',g',d',tk',os'⟩:=s'
  have eg:g'=s.gens:=hm.gens
  have ed:d'=s.drawn:=hm.drawn
  have eo:os'=s.os:=hm.os
  subst eg;subst ed;subst eo
  refine⟨rfl,h h' tk' hS' fun b o hb e=>hm.heap b o ?_ (k2 _ _ (k1 _ _ e))⟩
  simp only[List.mem_cons,List.not_mem_nil,or_false,not_or]
  exact⟨Nat.ne_of_lt hb,Nat.ne_of_lt (Nat.lt_trans hb hlt1)⟩
end
noncomputable def md (H:Hp):List V->List (Key×V)->Prop:=Paired fun v kv=>∃ p,v=.ref p/\H p=some (.tup [kV kv.1,kv.2])
section
variable {P:Program}{w:World}{H:Hp}{h:Heap}
theorem jZ (ok:HOk P w H h):∀{vs:List V}{us:List Value}{kvs:List (Key×V)},md H vs kvs->Vals vs us->
 ∃ its:List lC,its.length=us.length/\(∀(i:Nat)(v:Value),us[i]?=some v->∃(p:Addr)(x:lC),v=.ref p/\its[i]?=some x/\h.IsTuple p #[x.2.1,x.2.2]/\(aT P w).is x.1 x.2.1=true)/\
  ∀ t vs,KV t vs->KV (eJ t kvs) (C7 vs its)
 |_,_,_,.nil,.nil=>⟨[],rfl,fun i v e=>by simp at e,fun t xs r=>r⟩
 |_,_,_,.cons (a:=v) (b:=kv) q t,.cons (b:=u) r s=>by
  obtain⟨its,hl,hv,hk⟩:=jZ ok t s
  obtain⟨p,rfl,hp⟩:=q
  cases r
  obtain⟨_,is,r2,ot,ho,hc,n,hd⟩:=(show ObjOk P w H h p (.tup [kV kv.1,kv.2]) from ok p _ hp)
  obtain⟨u1,u2,rfl,ru1,ru2⟩:=m5 r2
  refine⟨(kv.1,u1,u2)::its,by simp[hl],fun i v e=>?_,fun t xs rt=>?_⟩
  ·cases i with
   |zero=>simp at e;subst e;exact⟨p,(kv.1,u1,u2),rfl,rfl,⟨ot,ho,hc,n,hd⟩,jm ru1⟩
   |succ i=>exact hv i v (by simpa using e)
  ·exact hk _ _ (rt.put kv.1 ru2)
end
section
variable {X:Cx}
theorem oB (hc:X.calm=true):CallR X (.type "dict") (fun xs H Q=>∃ l vs kvs,xs=[.ref l]/\Rd H l (.lst vs)/\md H vs kvs/\∀ p,H p=none->Q (.ref p) (bz H p (.dK (eJ [] kvs)))):=by
 intro pins s σ H xs us Q I r h
 obtain⟨l,vs,kvs,rfl,hl,hp,q⟩:=h
 obtain⟨u,rfl,ru⟩:=jj r
 obtain rfl:u=Value.ref l:=ru
 obtain⟨hz,its,n,rv,hg⟩:=(show ObjOk X.prog X.w H s.heap l (.lst vs) from hl.ok I.hok)
 obtain⟨pi,pl,pv,pk⟩:=jZ I.hok hp rv
 have hsz:its.toArray.size<=sizeLine:=by rw[List.size_toArray,<- rv.length];exact hz
 refine iV (I.ok.hd hc) hg (its:=pi) (by rw[pl,List.size_toArray]) hsz (fun i v e=>pv i v (by simpa using e)) fun h' tk hD hk=>?_
 have hf:H s.heap.objs.size=none:=I.hok.fresh (Nat.le_refl _)
 refine⟨.ref s.heap.objs.size,_,I.laid (a:=s.heap.objs.size) (o:=.dK (eJ [] kvs)) (t':=tk) (fun b o e=>hk b o (Heap.lt_size e) e) (Nat.le_refl _) ?_,rfl,q _ hf⟩
 refine⟨?_,beq_eq_false_iff_ne.mpr (Ne.symm (Nat.ne_of_lt I.big)),_,pk [] [] .nil,hD⟩
 have:=gZ kvs []
 have h2:=Paired.length hp
 simp only[List.length_nil]at this
 omega
end
end L2
namespace L2
open PySem PySem.Spec PySem.Calls PyProof.Rows
section
variable {prog:Program}{w:World}{A:Around}{E:Value->Shared->Prop}{s:Shared}
end
section
variable {X:Cx}
end
end L2
namespace L2
open PySem PySem.Spec PySem.Calls PyProof.Rows
section
variable {X:Cx}{tg:Expr}
end
end L2
namespace ST
open PySem PySem.SetTable
noncomputable def st (m:Nat)(h:Int):Probe:={ j:=bits h % (m+1),more:=runEnd m (bits h % (m+1))-bits h % (m+1),i:=bits h % (m+1),perturb:=bits h,dummy:=none }
noncomputable def rs (m:Nat)(p:Nat×Nat):Probe:={ j:=p.1,more:=runEnd m p.1-p.1,i:=p.1,perturb:=p.2,dummy:=none }
structure Va (m:Nat) (p:Probe):Prop where
 i:p.i<=m
 more:p.more<=9
 j:p.j+p.more<=m
 q:p.perturb<2 ^ 64
 d:p.dummy=none
theorem vS (h:Int):bits h<2 ^ 64:=by
 unfold bits
 have:=Int.emod_lt_of_pos h (show(0:Int)<2 ^ 64 by decide)
 have h2:=Int.emod_nonneg h (show(2 ^ 64:Int)≠0 by decide)
 omega
theorem me (m i:Nat)(h:i<=m):runEnd m i-i<=9/\i+(runEnd m i-i)<=m:=by
 unfold runEnd;split<;>omega
theorem Va.rs {m:Nat}{p:Nat×Nat}(h1:p.1<=m)(h2:p.2<2 ^ 64):Va m (rs m p):=⟨h1,(me m _ h1).1,(me m _ h1).2,h2,rfl⟩
theorem Va.st (m:Nat)(h:Int):Va m (st m h):=by
 have:bits h % (m+1)<=m:=Nat.le_of_lt_succ (Nat.mod_lt _ (Nat.succ_pos m))
 exact⟨this,(me m _ this).1,(me m _ this).2,vS h,rfl⟩
noncomputable def lp (m:Nat):Nat->Nat×Nat->Nat×Nat
 |0,p=>p
 |n+1,p=>lp m n (leap m p.1 p.2)
end ST
namespace ST
open PySem PySem.SetTable
end ST
namespace ST
open PySem PySem.SetTable
noncomputable def ow (owner:Array (Option Nat))(j:Nat):Prop:=∃ k,owner[j]?=some (some k)
end ST
namespace ST
open PySem PySem.SetTable
end ST
namespace ST
open PySem PySem.W PyProof.Rows
noncomputable abbrev Ed:=Nat->Nat->(Bool->Shared->Prop)->Shared->Prop
noncomputable def Pm (N:Nat)(p:Array Nat):Prop:=p.toList.Perm (List.range N)
noncomputable def xB (p:Array Nat)(i:Nat):Nat:=p.getD i 0
section
variable {N:Nat}{lt:Nat->Nat->Bool}{cmp:Ed}{s:Shared}{p:Array Nat}
theorem Pm.size (h:Pm N p):p.size=N:=by have:=h.length_eq;simpa using this
theorem Pm.ne (h:Pm N p){i j:Nat}(hi:i<N)(hj:j<N)(e:i≠j):xB p i≠xB p j:=by
 have nd:p.toList.Nodup:=h.nodup_iff.mpr List.nodup_range
 have hi':i<p.size:=by rw[h.size];exact hi
 have hj':j<p.size:=by rw[h.size];exact hj
 have gi:p.toList[i]'(by simpa using hi')=xB p i:=by simp[xB,Array.getD,hi']
 have gj:p.toList[j]'(by simpa using hj')=xB p j:=by simp[xB,Array.getD,hj']
 intro z
 rcases Nat.lt_or_gt_of_ne e with q|q
 ·exact List.pairwise_iff_getElem.mp nd i j (by simpa using hi') (by simpa using hj') q (by rw[gi,gj];exact z)
 ·exact List.pairwise_iff_getElem.mp nd j i (by simpa using hj') (by simpa using hi') q (by rw[gi,gj];exact z.symm)
end
end ST
namespace L2
open PySem PySem.Spec PySem.Calls PyProof.Rows ST
noncomputable abbrev iK (ns:List Int):List Key:=ns.map Sum.inl
section
variable {prog:Program}{w:World}{A:Around}{E:Value->Shared->Prop}{s:Shared}
end
end L2
namespace L2
open PySem PySem.Spec PySem.Calls PyProof.Rows ST
section
variable {prog:Program}{w:World}{A:Around}{E:Value->Shared->Prop}{s:Shared}
end
end L2
namespace L2
open PySem PySem.Spec PySem.Calls PyProof.Rows ST
section
variable {prog:Program}{w:World}{A:Around}{E:Value->Shared->Prop}{s:Shared}
structure Grown (es es':Array (Int×Value)) (x:Int×Value):Prop where
 mem:∀ y,y∈es'.toList↔y=x\/y∈es.toList
 pw:∀ R:Int×Value->Int×Value->Prop,(∀ x y,R x y->R y x)->es.toList.Pairwise R->(∀ e∈es.toList,R e x)->es'.toList.Pairwise R
 size:es'.size=es.size+1
end
end L2
namespace L2
open PySem PySem.Spec PySem.Calls PyProof.Rows ST
section
variable {prog:Program}{w:World}{A:Around}{E:Value->Shared->Prop}{s:Shared}
end
end L2
namespace L2
open PySem PySem.Spec PySem.Calls PyProof.Rows ST
noncomputable abbrev TItem:=List Int×Addr
section
variable {prog:Program}{w:World}
structure SInv (prog:Program) (w:World) (es:Array (Int×Value)) (xs:List TItem):Prop where
 el:∀ e∈es.toList,∃ x∈xs,e=((tK prog w).hash (iK x.1),Value.ref x.2)
 sz:es.size<=xs.length
 pw:es.toList.Pairwise fun e e'=>∀ x x':TItem,e=((tK prog w).hash (iK x.1),Value.ref x.2)->e'=((tK prog w).hash (iK x'.1),Value.ref x'.2)->x∈xs->x'∈xs->x.1≠x'.1
 all:∀ x∈xs,∃ y∈xs,y.1=x.1/\((tK prog w).hash (iK y.1),Value.ref y.2)∈es.toList
variable {A:Around}{R:Result->Shared->Prop}{I:Addr}{fp wr:List Addr}{G:Array GenState->Array GenState->Prop}{n:Nat}{P:Nat->Value->Prop}{St:Nat->Shared->Prop}
noncomputable def Ee (xs:List TItem):Prop:=∀ x∈xs,∀ y∈xs,x.2=y.2->x.1=y.1
theorem SInv.new {es es':Array (Int×Value)}{xs:List TItem}{x:TItem}(v:SInv prog w es xs)(hin:¬ ∃ y∈xs,y.1=x.1)(un:Ee (xs++[x]))(g:Grown es es' ((tK prog w).hash (iK x.1),.ref x.2)):SInv prog w es' (xs++[x]):=by
 have hx:x∈xs++[x]:=List.mem_append_right _ (List.mem_singleton.mpr rfl)
 refine⟨fun e he=>?_,?_,?_,fun y hy=>?_⟩
 ·rcases (g.mem e).mp he with rfl|he
  ·exact⟨x,hx,rfl⟩
  ·obtain⟨z,h1,h2⟩:=v.el e he
   exact⟨z,List.mem_append_left _ h1,h2⟩
 ·have:=v.sz;rw[g.size];simp;omega
 ·refine g.pw _ (fun a b hab z z' e1 e2 m1 m2 h=>hab z' z e2 e1 m2 m1 h.symm) ?_ ?_
  ·refine List.Pairwise.imp_of_mem (fun{a b} ha hb hab z z' e1 e2 m1 m2=>?_) v.pw
   obtain⟨y,y1,y2⟩:=v.el a ha
   obtain⟨y',y1',y2'⟩:=v.el b hb
   have q1:z.2=y.2:=by rw[e1]at y2;simp only[Prod.mk.injEq,Value.ref.injEq]at y2;exact y2.2
   have q2:z'.2=y'.2:=by rw[e2]at y2';simp only[Prod.mk.injEq,Value.ref.injEq]at y2';exact y2'.2
   rw[un z m1 y (List.mem_append_left _ y1) q1,un z' m2 y' (List.mem_append_left _ y1') q2]
   exact hab y y' y2 y2' y1 y1'
  ·intro e he z z' e1 e2 m1 m2 h
   obtain⟨y,y1,y2⟩:=v.el e he
   have q1:z.2=y.2:=by rw[e1]at y2;simp only[Prod.mk.injEq,Value.ref.injEq]at y2;exact y2.2
   have q2:z'.2=x.2:=by simp only[Prod.mk.injEq,Value.ref.injEq]at e2;exact e2.2.symm
   have a1:=un z m1 y (List.mem_append_left _ y1) q1
   have a2:=un z' m2 x hx q2
   exact hin ⟨y,y1,by rw[<- a1,<- a2];exact h⟩
 ·rcases List.mem_append.mp hy with hy|hy
  ·obtain⟨z,h1,h2,h3⟩:=v.all y hy
   exact⟨z,List.mem_append_left _ h1,h2,(g.mem _).mpr (.inr h3)⟩
  ·rw[List.mem_singleton]at hy;subst hy
   exact⟨y,hx,rfl,(g.mem _).mpr (.inl rfl)⟩
end
end L2
namespace L2
open PySem PySem.Spec PySem.Calls PyProof.Rows ST
section
variable {prog:Program}{w:World}{A:Around}{E:Value->Shared->Prop}{s:Shared}
end
end L2
namespace L2
open PySem PySem.Spec PySem.Calls PyProof.Rows ST
section
variable {prog:Program}{w:World}{A:Around}{E:Value->Shared->Prop}{s:Shared}
end
end L2
namespace L2
open PySem PySem.Spec PySem.Calls PyProof.Rows ST
section
variable {prog:Program}{w:World}{A:Around}{E:Value->Shared->Prop}{s:Shared}
end
end L2
namespace L2
open PySem PySem.Spec PySem.Calls PyProof.Rows ST
section
variable {prog:Program}{w:World}{A:Around}{E:Value->Shared->Prop}{s:Shared}
end
end L2
namespace L2
open PySem PySem.Spec PySem.Calls PyProof.Rows ST
section
variable {prog:Program}{w:World}{A:Around}{E:Value->Shared->Prop}{s:Shared}
end
end L2
namespace L2
open PySem PySem.Spec PySem.Calls PyProof.Rows ST
section
variable {prog:Program}{w:World}{A:Around}{E:Value->Shared->Prop}{s:Shared}
end
end L2
namespace L2
open PySem PySem.Spec PySem.Calls PyProof.Rows ST
section
variable {prog:Program}{w:World}{A:Around}{E:Value->Shared->Prop}{s:Shared}
end
end L2
namespace L2
open PySem PySem.Spec PySem.Calls PyProof.Rows ST
section
variable {X:Cx}
end
end L2
namespace L2
open PySem PySem.Spec PyProof.Rows
section
variable {prog:Program}{w:World}{A:Around}{R:Result->Shared->Prop}{I:Addr}{fp wr:List Addr}{G:Array GenState->Array GenState->Prop}{n:Nat}{P:Nat->Value->Prop}{St:Nat->Shared->Prop}
end
section
variable {prog:Program}{w:World}{A:Around}{E:Value->Shared->Prop}{s:Shared}
end
section
variable {X:Cx}
end
end L2
namespace L2
open PySem PySem.Spec PySem.Calls PyProof.Rows
theorem KV.at {a:List (Key×V)}{b:List (Key×Value)}(r:KV a b):∀(i:Nat) p q,a[i]?=some p->b[i]?=some q->p.1=q.1/\RelV p.2 q.2:=by
 induction r with
 |nil=>intro i p q e;simp at e
 |cons hq t ih=>
  intro i p q e1 e2
  cases i with
  |zero=>simp at e1 e2;subst e1 e2;exact hq
  |succ i=>exact ih i p q (by simpa using e1) (by simpa using e2)
section
variable {X:Cx}{es:List Expr}{k0:Nat}{mS:Pos}
end
end L2
namespace L2
open PySem PySem.Spec PySem.Calls PyProof.Rows
section
variable {X:Cx}
theorem pB:∀{vs:List V}{its:List Value},vs.length=its.length->(∀(i:Nat) v u,vs[i]?=some v->its[i]?=some u->RelV v u)->Vals vs its
 | [],[],_,_=>.nil
 | [],_::_,e,_=>by cases e
 |_::_,[],e,_=>by cases e
 |v::vs,u::its,e,f=>.cons (f 0 v u rfl rfl) (pB (by simpa using e) fun i w z a b=>f (i+1) w z (by simpa using a) (by simpa using b))
noncomputable def vT (ta:TA):TE:=fun σ H Q=>ta σ H fun vs H1=>∃ j:Int,vs=[.int j]/\0<=j/\j<=1000/\∀ l,H1 l=none->Q (.ref l) (bz H1 l (.lst ((List.range j.toNat).map fun k=>.int (k:Nat))))
theorem q5 {a:Expr} {ta:TA} {p pos p2 pos2:Pos} (hc:X.calm=true) (hgl:Gl X "list") (hml:X.mg "list"=none) (hvl:bootBuiltins "list"=some (.type "list")) (hg:Gl X "range") (hm:X.mg "range"=none) (ha:PA X [a] ta) (hs:autoParam (starEach [a] X.env=[(false,eval a X.env)]) autoR._auto_1)
 (hs2:autoParam (starEach [.Call (.Name "range" p2) [a] [] pos2] X.env=[(false,eval (.Call (.Name "range" p2) [a] [] pos2) X.env)]) autoR._auto_1):PE X (.Call (.Name "list" p) [.Call (.Name "range" p2) [a] [] pos2] [] pos) (vT ta):=by
 intro pins s σ H Q I h
 refine Call_ (gd I hgl hml hvl (PyProof.Rows.callWith_type1 ?_ hs2 rfl))
 rw[hs2]
 show wpAny _ _ (spliced ((false,eval (.Call (.Name "range" p2) [a] [] pos2) X.env)::[])) _ _ s
 refine Calls.spliced_cons (Call_ (gd I hg hm boot_range (PyProof.Rows.callWith_type1 (da (ha pos2 pins s σ H _ I h) fun us s1 ⟨vs,H1,I1,r1,q1⟩=>?_) hs rfl)))
 obtain⟨j,e,j0,j1,q⟩:=q1
 subst e
 cases r1 with
 |cons r rr=>
  cases rr
  obtain⟨t,rfl⟩:=r
  refine call_range_1 (Calls.spliced_nil ?_)
  have I2:Inv X pins σ H1 { s1 with heap:=s1.heap.push { cls:=.type "range",data:=.fields #[.int 0 s1.toks,.int j t,.int 1 (s1.toks+1)] },toks:=s1.toks+1+1 }:=I1.kept fun b o e=>Heap.get?_push_of_some _ e
  have hr:IsRange ({ s1 with heap:=s1.heap.push { cls:=.type "range",data:=.fields #[.int 0 s1.toks,.int j t,.int 1 (s1.toks+1)] },toks:=s1.toks+1+1 }:Shared).heap s1.heap.objs.size 0 j 1 s1.toks t (s1.toks+1):=Heap.get?_push_size _ rfl
  generalize ({ s1 with heap:=s1.heap.push { cls:=.type "range",data:=.fields #[.int 0 s1.toks,.int j t,.int 1 (s1.toks+1)] },toks:=s1.toks+1+1 }:Shared)=s2 at I2 hr
  have hn:Builtin.Range.rangeSize 0 j 1=(j.toNat:Nat):=by rw[rangeSize_one];split<;>omega
  refine call_list_range (I2.ok.hd hc) hr (small_one (by omega) (by omega) (by omega) (by omega)) hn (by omega) fun h' tk acc c' kp e it=>?_
  obtain⟨i1,i2⟩:=it
  have rv:Vals ((List.range j.toNat).map fun k=>.int (k:Nat)) acc.toList:=by
   refine pB (by rw[List.length_map,List.length_range,Array.length_toList,i1]) fun i v w ev ew=>?_
   obtain⟨t',rfl⟩:=i2 i w (by rw[<- Array.getElem?_toList];exact ew)
   rw[List.getElem?_map]at ev
   have hi:i<j.toNat:=by
    have:=(List.getElem?_eq_some_iff.mp ew).1
    rw[Array.length_toList,i1]at this;exact this
   rw[List.getElem?_range hi]at ev
   cases ev
   exact⟨t',by congr 1;omega⟩
  have e:h'.get? s2.heap.objs.size=some { cls:=.type "list",dict:=none,data:=.seq acc.toList.toArray c',slots:=#[] }:=by rw[Array.toArray_toList];exact e
  exact⟨.ref s2.heap.objs.size,_,I2.laid (t':=tk) kp (Nat.le_refl _) (show ObjOk X.prog X.w _ h' _ (.lst ((List.range j.toNat).map fun k=>.int (k:Nat))) from⟨by rw[List.length_map,List.length_range,sizeLine_eq];omega,acc.toList,c',rv,e⟩),rfl,q _ (I2.hok.fresh (Nat.le_refl _))⟩
end
section
open PySem.MeetsSeq PySem.SeqAt
open PySem.AutoSeq1 (wpAny_loadPart')
end
end L2
namespace L2
open PySem PySem.Spec PyProof.Rows
section
variable {X:Cx}{hc hc2:Str}{Ch Ch2:Addr}{np hpos np2 hpos2 pos epos:Pos}{b₀ c₀:Stmt}{suite suite2:List Stmt}{ts ts2:TS}{te:TX}{e:Expr}
end
end L2
namespace L2
open PySem PySem.Spec PyProof.Rows
open Sem (wp)
open Builtin
section
variable {prog:Program}{w:World}{A:Around}{E:Value->Shared->Prop}{s:Shared}
theorem Be {j t:Addr}{n:Nat}{xs:Array Value}{x:Value}{Q:Value->Shared->Prop}(hj:IsTupIter s.heap j t n)(ht:IsTup s.heap t xs)(hx:xs[n]?=some x)
 (q:∀ g,IsTupIter g j t (n+1)->Heap.SameBut j s.heap g->Q x { s with heap:=g }):wpAny (model prog w) A (Builtin.SmallTypes.nextOf (.ref j)) Q E s:=by
 obtain⟨u,hu,cu,du⟩:=id hj
 obtain⟨ut,hut,_,m,dut⟩:=ht
 unfold Builtin.SmallTypes.nextOf
 refine wpAny_bind (wpAny_callSpecial?_slot (name:=Str.ofString "__next__") hj.typeIs slot_tupleiter_next (wpAny_call_entry slot_tupleiter_next hj.typeIs entry_tupleiter_next ?_ (args_tupleiter_next _)))
 show wpAny _ _ (field (.ref j) 0 >>= _) _ _ s;refine wpAny_bind (wpAny_field hu du (x:=.ref t) rfl ?_)
 show wpAny _ _ (if (Value.ref t==Value.none)=true then _ else _) _ _ s;rw[if_neg (show ¬ ((Value.ref t==Value.none)=true) from Bool.false_ne_true)]
 show wpAny _ _ (field (.ref j) 1 >>= _) _ _ s;refine wpAny_bind (wpAny_field hu du (x:=.int n 0) rfl ?_)
 show wpAny _ _ (seqItems? (.ref t) >>= _) _ _ s;refine wpAny_bind (wpAny_seqItems hut dut ?_);simp only[Int.toNat_natCast,hx]
 refine wpAny_bind (wpAny_setField hu du (by simp) (wpAny_pure ⟨x,rfl,wpAny_pure (q _ ⟨_,Heap.get?_update_self _ hu (Obj.isFreed_of_fields (Obj.data_mapFields du _)),(Obj.cls_mapFields ..).trans cu,by rw[Obj.data_mapFields du];simp[rawInt]⟩ (Heap.SameBut.update ..))⟩))
theorem Bf {j t:Addr}{n:Nat}{xs:Array Value}{Q:Value->Shared->Prop}(hh:A.handled=none)(hj:IsTupIter s.heap j t n)(ht:IsTup s.heap t xs)(hx:xs[n]?=none)
 (q:∀ g e,Heap.ExtBut j s.heap g->(∃ u,g.get? e=some u/\u.cls=.type "StopIteration")->E (.ref e) { s with heap:=g }):wpAny (model prog w) A (Builtin.SmallTypes.nextOf (.ref j)) Q E s:=by
 obtain⟨u,hu,cu,du⟩:=id hj
 obtain⟨ut,hut,_,m,dut⟩:=ht
 unfold Builtin.SmallTypes.nextOf
 refine wpAny_bind (wpAny_callSpecial?_slot (name:=Str.ofString "__next__") hj.typeIs slot_tupleiter_next (wpAny_call_entry slot_tupleiter_next hj.typeIs entry_tupleiter_next ?_ (args_tupleiter_next _)))
 show wpAny _ _ (field (.ref j) 0 >>= _) _ _ s;refine wpAny_bind (wpAny_field hu du (x:=.ref t) rfl ?_)
 show wpAny _ _ (if (Value.ref t==Value.none)=true then _ else _) _ _ s;rw[if_neg (show ¬ ((Value.ref t==Value.none)=true) from Bool.false_ne_true)]
 show wpAny _ _ (field (.ref j) 1 >>= _) _ _ s;refine wpAny_bind (wpAny_field hu du (x:=.int n 0) rfl ?_)
 show wpAny _ _ (seqItems? (.ref t) >>= _) _ _ s;refine wpAny_bind (wpAny_seqItems hut dut ?_);simp only[Int.toNat_natCast,hx]
 refine wpAny_bind (wpAny_rule (wpAny_bind (wpAny_setField hu du (by simp) ?_)));show wpAny _ _ (newExc (.type "StopIteration") [] >>= _) _ _ _
 refine wpAny_bind ?_;simp only[newExc,newTuple];refine wpAny_bind (wpAny_newObj_type ?_ (by size_fits));refine wpAny_bind (m:=firstArgMember _ _) (wpAny_of_eq (a:=Value.none) (by first|rfl|(simp only[firstArgMember];rfl)) ?_)
 refine wpAny_newObj_type ?_ (by size_fits);simp only[raiseNew];refine wpAny_bind (wpAny_handled ?_);first|rw[show A.in1.handled=none from hh]|rw[hh]
 refine wpAny_bind (wpAny_pure (wpAny_throw (q _ _ (((Heap.SameBut.update ..).extBut.push _).push _) ⟨_,Heap.get?_push_size _ rfl,rfl⟩)))
theorem IsTupIter.at {h h':Heap}{a t:Addr}{i:Nat}(x:IsTupIter h a t i)(e:∀ o,h.get? a=some o->h'.get? a=some o):IsTupIter h' a t i:=let ⟨o,ho,r⟩:=x;⟨o,e o ho,r⟩
end
section
variable {prog:Program}{w:World}{A:Around}{E:Value->Shared->Prop}{s:Shared}
end
end L2
namespace L2
open PySem PySem.Spec PyProof.Rows
open Sem (wp)
open Builtin
noncomputable def SIt (k:Bool) (h:Heap) (j t:Addr) (n:Nat):Prop:=∃ o,h.get? j=some o/\o.cls=.type (if k then "tuple_iterator" else "list_iterator")/\o.data=.fields #[.ref t,.int n 0]
noncomputable def SAt (k:Bool) (h:Heap) (t:Addr) (xs:Array Value):Prop:=∃ o,h.get? t=some o/\o.cls=.type (if k then "tuple" else "list")/\∃ n,o.data=.seq xs n
theorem SIt.at {k:Bool}{h h':Heap}{a t:Addr}{i:Nat}(x:SIt k h a t i)(e:∀ o,h.get? a=some o->h'.get? a=some o):SIt k h' a t i:=let ⟨o,ho,r⟩:=x;⟨o,e o ho,r⟩
theorem SIt.extBut {k:Bool}{h h':Heap}{a b t:Addr}{i:Nat}(x:SIt k h a t i)(hs:Heap.ExtBut b h h')(hab:a≠b):SIt k h' a t i:=x.at fun o e=>hs a o hab e
theorem SAt.extBut {k:Bool}{h h':Heap}{a b:Addr}{xs:Array Value}(x:SAt k h a xs)(hs:Heap.ExtBut b h h')(hab:a≠b):SAt k h' a xs:=let ⟨o,ho,r⟩:=x;⟨o,hs a o hab ho,r⟩
section
variable {prog:Program}{w:World}{A:Around}{E:Value->Shared->Prop}{s:Shared}
theorem sW {k:Bool}{j t:Addr}{n:Nat}{xs:Array Value}{x:Value}{Q:Value->Shared->Prop}(hj:SIt k s.heap j t n)(ht:SAt k s.heap t xs)(hx:xs[n]?=some x)
 (q:∀ g,SIt k g j t (n+1)->Heap.SameBut j s.heap g->Q x { s with heap:=g }):wpAny (model prog w) A (Builtin.SmallTypes.nextOf (.ref j)) Q E s:=by
 cases k with
 |true=>exact Be hj ht hx q
 |false=>exact wpAny_nextOf_list_item hj ht hx q
theorem xC {k:Bool}{j t:Addr}{n:Nat}{xs:Array Value}{Q:Value->Shared->Prop}(hh:A.handled=none)(hj:SIt k s.heap j t n)(ht:SAt k s.heap t xs)(hx:xs[n]?=none)
 (q:∀ g e,Heap.ExtBut j s.heap g->(∃ u,g.get? e=some u/\u.cls=.type "StopIteration")->E (.ref e) { s with heap:=g }):wpAny (model prog w) A (Builtin.SmallTypes.nextOf (.ref j)) Q E s:=by
 cases k with
 |true=>exact Bf hh hj ht hx q
 |false=>exact wpAny_nextOf_list_end hh hj ht hx q
theorem q_ {z P O i j a b:Addr}{m n:Nat}{ka kb:Bool}{xs ys:Array Value}{x y c d:Value}{Q:Option Value->Shared->Prop}(N:ZipApart z P O i j a b)(hz:IsZip s.heap z P O .none)(hP:IsPair s.heap P (.ref i) (.ref j))(hO:IsPair s.heap O c d)
 (hi:SIt ka s.heap i a m) (hj:SIt kb s.heap j b n) (ha:SAt ka s.heap a xs) (hb:SAt kb s.heap b ys) (hx:xs[m]?=some x) (hy:ys[n]?=some y)
 (q:∀ g,IsZip g z P O (rawInt s.heap.objs.size)->IsPair g O x y->SIt ka g i a (m+1)->SIt kb g j b (n+1)->IsPair g s.heap.objs.size x y->g.objs.size=s.heap.objs.size+1->
   (∀ k o,k≠z->k≠O->k≠i->k≠j->s.heap.get? k=some o->g.get? k=some o)->Q (some (.ref s.heap.objs.size)) { s with heap:=g }):wpAny (model prog w) A (pyNext (.ref z)) Q E s:=by
 have hT:s.TypeIs (.ref z) "zip":=⟨_,hz,rfl⟩
 unfold pyNext
 refine wpAny_bind (wpAny_attempt (wpAny_callSpecial?_slot (name:=Str.ofString "__next__") hT F.slot_zip_next (wpAny_call_entry F.slot_zip_next hT F.entry_zip_next ?_ (F.args_zip_next_1 _))))
 show wpAny _ _ (field (.ref z) 2 >>= _) _ _ _;refine wpAny_bind (wpAny_field hz rfl (x:=.bool false) rfl ?_);show wpAny _ _ (field (.ref z) 3 >>= _) _ _ _
 refine wpAny_bind (wpAny_field hz rfl (x:=.ref P) rfl ?_);refine wpAny_bind (wpAny_seqItems hP rfl ?_);show wpAny _ _ (Builtin.SmallTypes.ownedTupleIsFree (.ref z) >>= _) _ _ _
 refine wpAny_bind ?_;unfold Builtin.SmallTypes.ownedTupleIsFree;refine wpAny_bind (wpAny_field hz rfl (x:=.none) rfl (wpAny_pure ?_));simp only[if_true];refine wpAny_bind (wpAny_rule ?_)
 refine wpAny_bind (wpAny_field hz rfl (x:=.ref O) rfl ?_);refine wpAny_bind (wpAny_setField_rec hz (by simp) fun g1 z1 k1=>?_)
 replace z1:IsZip g1 z P O .ellipsis:=z1
 refine wpAny_bind ?_;simp only[List.zipIdx_cons,List.zipIdx_nil,List.forIn_cons,List.forIn_nil]
 refine wpAny_bind (wpAny_bind (wpAny_onRaise ?_));show wpAny _ _ (Builtin.SmallTypes.nextOf (.ref i) >>= _) _ _ _
 refine wpAny_bind (sW (hi.extBut k1.extBut N.i1z) (ha.extBut k1.extBut N.l1z) hx fun g2 i2 k2=>wpAny_pure ?_)
 have O2:IsPair g2 O c d:=k2.extBut _ _ N.TOi1 (k1.extBut _ _ N.TOz hO)
 refine wpAny_bind (wpAny_seqItems O2 rfl ?_);refine wpAny_bind (wpAny_updateSeq_pair O2 fun g3 O3 k3=>?_)
 replace O3:IsPair g3 O x d:=O3
 refine wpAny_bind (wpAny_letGo (wpAny_pure ?_));refine wpAny_bind (wpAny_bind (wpAny_onRaise ?_));show wpAny _ _ (Builtin.SmallTypes.nextOf (.ref j) >>= _) _ _ _
 refine wpAny_bind (sW (((hj.extBut k1.extBut N.i2z).extBut k2.extBut N.i12.symm).extBut k3.extBut N.TOi2.symm) (((hb.extBut k1.extBut N.l2z).extBut k2.extBut N.l2i1).extBut k3.extBut N.l2TO) hy fun g4 j4 k4=>wpAny_pure ?_)
 have O4:IsPair g4 O x d:=k4.extBut _ _ N.TOi2 O3
 refine wpAny_bind (wpAny_seqItems O4 rfl ?_);refine wpAny_bind (wpAny_updateSeq_pair O4 fun g5 O5 k5=>?_)
 replace O5:IsPair g5 O x y:=O5
 refine wpAny_bind (wpAny_letGo (wpAny_pure (wpAny_pure ?_)));refine wpAny_bind (wpAny_seqItems O5 rfl ?_);refine wpAny_bind (wpAny_newTuple ?_)
 have sz:g5.objs.size=s.heap.objs.size:=by rw[k5.1,k4.1,k3.1,k2.1,k1.1]
 have z5:IsZip g5 z P O .ellipsis:=k5.extBut _ _ N.TOz.symm (k4.extBut _ _ N.i2z.symm (k3.extBut _ _ N.TOz.symm (k2.extBut _ _ N.i1z.symm z1)))
 have kk:∀ k o,k≠z->k≠O->k≠i->k≠j->s.heap.get? k=some o->g5.get? k=some o:=fun k o n1 n2 n3 n4 e=>k5.extBut _ _ n2 (k4.extBut _ _ n4 (k3.extBut _ _ n2 (k2.extBut _ _ n3 (k1.extBut _ _ n1 e))))
 have i5:SIt ka g5 i a (m+1):=((i2.extBut k3.extBut N.TOi1.symm).extBut k4.extBut N.i12).extBut k5.extBut N.TOi1.symm
 have j5:SIt kb g5 j b (n+1):=j4.extBut k5.extBut N.TOi2.symm
 have zlt:z<g5.objs.size:=Heap.lt_size z5
 show wpAny _ _ (Builtin.SmallTypes.ownedTupleHandOut (.ref z) (.ref g5.objs.size) >>= _) _ _ _
 refine wpAny_bind ?_;unfold Builtin.SmallTypes.ownedTupleHandOut
 have z6:IsZip (g5.push { cls:=.type "tuple",data:=.seq #[x,y] }) z P O .ellipsis:=Heap.get?_push_of_some _ z5
 refine wpAny_bind (wpAny_setField_rec z6 (by simp) fun g7 z7 k7=>?_)
 replace z7:IsZip g7 z P O (rawInt g5.objs.size):=z7
 refine wpAny_setField_rec z7 (by simp) fun g8 z8 k8=>?_
 replace z8:IsZip g8 z P O (rawInt g5.objs.size):=z8
 have up:∀ k o,k≠z->g5.get? k=some o->g8.get? k=some o:=fun k o n1 e=>k8.extBut _ _ n1 (k7.extBut _ _ n1 (Heap.get?_push_of_some _ e))
 have T8:IsPair g8 g5.objs.size x y:=k8.extBut _ _ (Nat.ne_of_gt zlt) (k7.extBut _ _ (Nat.ne_of_gt zlt) (Heap.get?_push_size _ rfl))
 have s8:g8.objs.size=g5.objs.size+1:=by rw[k8.1,k7.1,Heap.size_push]
 rw[sz]at z8 T8 s8
 refine wpAny_pure ⟨_,rfl,?_⟩
 refine wpAny_pure ?_
 show Q (some (.ref g5.objs.size)) _
 rw[sz]
 exact q g8 z8 (up _ _ N.TOz O5) (SIt.at i5 fun o e=>up _ o N.i1z e) (SIt.at j5 fun o e=>up _ o N.i2z e) T8 s8 fun k o n1 n2 n3 n4 e=>up k o n1 (kk k o n1 n2 n3 n4 e)
theorem sX {z P O i j a b:Addr}{m n:Nat}{ka kb:Bool}{xs ys:Array Value}{c d:Value}{Q:Option Value->Shared->Prop}(hh:A.handled=none)(N:ZipApart z P O i j a b)(hz:IsZip s.heap z P O .none)(hP:IsPair s.heap P (.ref i) (.ref j))(hO:IsPair s.heap O c d)
 (hi:SIt ka s.heap i a m) (hj:SIt kb s.heap j b n) (ha:SAt ka s.heap a xs) (hb:SAt kb s.heap b ys) (hx:xs[m]?=none\/ys[n]?=none)
 (q:∀ g,(∀ k o,k≠z->k≠O->k≠i->k≠j->s.heap.get? k=some o->g.get? k=some o)->Q none { s with heap:=g }):wpAny (model prog w) A (pyNext (.ref z)) Q E s:=by
 have hT:s.TypeIs (.ref z) "zip":=⟨_,hz,rfl⟩
 have fin:∀(g:Heap)(e:Addr),(∀ k o,k≠z->k≠O->k≠i->k≠j->s.heap.get? k=some o->g.get? k=some o)->(∃ u,g.get? e=some u/\u.cls=.type "StopIteration")->wpAny (model prog w) A (do if <- isInstance (.ref e) (.type "StopIteration") then pure none else throw (.ref e):Sem (Option Value)) Q E { s with heap:=g }:=fun g e kp ⟨u,hu,cu⟩=>
  wpAny_bind (wpAny_isInstance (T:="StopIteration") (b:=true) ⟨u,hu,cu⟩ isSubtype_stop (wpAny_pure (q g kp)))
 unfold pyNext
 refine wpAny_bind (wpAny_attempt (wpAny_callSpecial?_slot (name:=Str.ofString "__next__") hT F.slot_zip_next (wpAny_call_entry F.slot_zip_next hT F.entry_zip_next ?_ (F.args_zip_next_1 _))))
 show wpAny _ _ (field (.ref z) 2 >>= _) _ _ _;refine wpAny_bind (wpAny_field hz rfl (x:=.bool false) rfl ?_);show wpAny _ _ (field (.ref z) 3 >>= _) _ _ _
 refine wpAny_bind (wpAny_field hz rfl (x:=.ref P) rfl ?_);refine wpAny_bind (wpAny_seqItems hP rfl ?_);show wpAny _ _ (Builtin.SmallTypes.ownedTupleIsFree (.ref z) >>= _) _ _ _
 refine wpAny_bind ?_;unfold Builtin.SmallTypes.ownedTupleIsFree;refine wpAny_bind (wpAny_field hz rfl (x:=.none) rfl (wpAny_pure ?_));simp only[if_true];refine wpAny_bind (wpAny_rule ?_)
 refine wpAny_bind (wpAny_field hz rfl (x:=.ref O) rfl ?_);refine wpAny_bind (wpAny_setField_rec hz (by simp) fun g1 z1 k1=>?_)
 replace z1:IsZip g1 z P O .ellipsis:=z1
 refine wpAny_bind ?_;simp only[List.zipIdx_cons,List.zipIdx_nil,List.forIn_cons,List.forIn_nil]
 refine wpAny_bind (wpAny_bind (wpAny_onRaise ?_));show wpAny _ _ (Builtin.SmallTypes.nextOf (.ref i) >>= _) _ _ _
 cases ex:xs[m]? with
 |none=>
  refine wpAny_bind (xC hh (hi.extBut k1.extBut N.i1z) (ha.extBut k1.extBut N.l1z) ex fun g2 e k2 ⟨u,hu,cu⟩=>?_)
  have z2:IsZip g2 z P O .ellipsis:=k2 _ _ N.i1z.symm z1
  have ez:e≠z:=fun w=>by subst w;rw[z2]at hu;cases hu;simp at cu
  refine wpAny_setField_rec z2 (by simp) fun g3 _ k3=>?_
  exact fin g3 e (fun k o n1 _ n3 _ w=>k3.extBut _ _ n1 (k2 _ _ n3 (k1.extBut _ _ n1 w))) ⟨u,k3.extBut _ _ ez hu,cu⟩
 |some x=>
  have ey:ys[n]?=none:=hx.resolve_left (by rw[ex];simp)
  refine wpAny_bind (sW (hi.extBut k1.extBut N.i1z) (ha.extBut k1.extBut N.l1z) ex fun g2 i2 k2=>wpAny_pure ?_)
  have O2:IsPair g2 O c d:=k2.extBut _ _ N.TOi1 (k1.extBut _ _ N.TOz hO)
  refine wpAny_bind (wpAny_seqItems O2 rfl ?_);refine wpAny_bind (wpAny_updateSeq_pair O2 fun g3 O3 k3=>?_)
  refine wpAny_bind (wpAny_letGo (wpAny_pure ?_));refine wpAny_bind (wpAny_bind (wpAny_onRaise ?_));show wpAny _ _ (Builtin.SmallTypes.nextOf (.ref j) >>= _) _ _ _
  refine wpAny_bind (xC hh (((hj.extBut k1.extBut N.i2z).extBut k2.extBut N.i12.symm).extBut k3.extBut N.TOi2.symm) (((hb.extBut k1.extBut N.l2z).extBut k2.extBut N.l2i1).extBut k3.extBut N.l2TO) ey fun g4 e k4 ⟨u,hu,cu⟩=>?_)
  have z4:IsZip g4 z P O .ellipsis:=k4 _ _ N.i2z.symm (k3.extBut _ _ N.TOz.symm (k2.extBut _ _ N.i1z.symm z1))
  have ez:e≠z:=fun w=>by subst w;rw[z4]at hu;cases hu;simp at cu
  refine wpAny_setField_rec z4 (by simp) fun g5 _ k5=>?_
  exact fin g5 e (fun k o n1 n2 n3 n4 w=>k5.extBut _ _ n1 (k4 _ _ n4 (k3.extBut _ _ n2 (k2.extBut _ _ n3 (k1.extBut _ _ n1 w))))) ⟨u,k5.extBut _ _ ez hu,cu⟩
end
noncomputable abbrev Bg (k:Bool) (h:Heap) (a:Addr):Heap:=h.push { cls:=.type (if k then "tuple_iterator" else "list_iterator"),data:=.fields #[.ref a,.int 0 0] }
noncomputable abbrev Cz (ka kb:Bool)(h:Heap)(a b:Addr):Heap:=Bg kb (Bg ka h a) b
noncomputable abbrev CA (ka kb:Bool) (h:Heap) (a b:Addr):Heap:=(Cz ka kb h a b).push { cls:=.type "tuple",data:=.seq #[.ref h.objs.size,.ref (Bg ka h a).objs.size] }
noncomputable abbrev CB (ka kb:Bool) (h:Heap) (a b:Addr):Heap:=(CA ka kb h a b).push { cls:=.type "tuple",data:=.seq #[.none,.none] }
noncomputable abbrev sz5 (ka kb:Bool) (h:Heap) (a b:Addr):Heap:=(CB ka kb h a b).push { cls:=.type "zip",data:=.fields #[.none,.bool false,.bool false,.ref (Cz ka kb h a b).objs.size,.ref (CA ka kb h a b).objs.size] }
theorem sY (ka kb:Bool) (a b:Addr) (xs ys:Array Value):Meets (Builtin.«zip.__new__» ⟨[.type "zip",.ref a,.ref b],[]⟩) (fun _ R s=>SAt ka s.heap a xs/\SAt kb s.heap b ys/\R (.ok (.ret (.ref (CB ka kb s.heap a b).objs.size))) { s with heap:=sz5 ka kb s.heap a b }):=
 .of_wp fun prog w A R s h=>by
  obtain⟨hp,g,d,tk,os⟩:=s
  obtain⟨ha,hb,h⟩:=h
  have hsub:=PySem.sub_zip
  cases ka<;>cases kb
  ·have h1:Heap.IsList (Shared.heap ⟨hp,g,d,tk,os⟩) a xs:=ha
   have h2:Heap.IsList (Shared.heap ⟨hp.push { cls:=.type "list_iterator",data:=.fields #[.ref a,.int 0 0] },g,d,tk,os⟩) b ys:=Heap.IsList.push hb _
   wp_walk using wpAny_pyIter_list h1,wpAny_pyIter_list h2
   exact⟨_,rfl,h⟩
  ·have h1:Heap.IsList (Shared.heap ⟨hp,g,d,tk,os⟩) a xs:=ha
   have h2:IsTup (Shared.heap ⟨hp.push { cls:=.type "list_iterator",data:=.fields #[.ref a,.int 0 0] },g,d,tk,os⟩) b ys:=IsTup.push hb _
   wp_walk using wpAny_pyIter_list h1,iter_tuple h2
   exact⟨_,rfl,h⟩
  ·have h1:IsTup (Shared.heap ⟨hp,g,d,tk,os⟩) a xs:=ha
   have h2:Heap.IsList (Shared.heap ⟨hp.push { cls:=.type "tuple_iterator",data:=.fields #[.ref a,.int 0 0] },g,d,tk,os⟩) b ys:=Heap.IsList.push hb _
   wp_walk using iter_tuple h1,wpAny_pyIter_list h2
   exact⟨_,rfl,h⟩
  ·have h1:IsTup (Shared.heap ⟨hp,g,d,tk,os⟩) a xs:=ha
   have h2:IsTup (Shared.heap ⟨hp.push { cls:=.type "tuple_iterator",data:=.fields #[.ref a,.int 0 0] },g,d,tk,os⟩) b ys:=IsTup.push hb _
   wp_walk using iter_tuple h1,iter_tuple h2
   exact⟨_,rfl,h⟩
section
variable {prog:Program}{w:World}{A:Around}{E:Value->Shared->Prop}{s:Shared}
theorem rf {ka kb:Bool}{a b:Addr}{xs ys:Array Value}{Q:Value->Shared->Prop}(ha:SAt ka s.heap a xs)(hb:SAt kb s.heap b ys)
 (q:∀ g,IsZip g (s.heap.objs.size+4) (s.heap.objs.size+2) (s.heap.objs.size+3) .none->IsPair g (s.heap.objs.size+2) (.ref s.heap.objs.size) (.ref (s.heap.objs.size+1))->IsPair g (s.heap.objs.size+3) .none .none->
   SIt ka g s.heap.objs.size a 0->SIt kb g (s.heap.objs.size+1) b 0->(∀ c o,s.heap.get? c=some o->g.get? c=some o)->Q (.ref (s.heap.objs.size+4)) { s with heap:=g }):wpAny (model prog w) A (call (.type "zip") [.ref a,.ref b]) Q E s:=by
 refine callType_new F.called_zip (by decide) (F.typeCall_zip_2 _ _) (F.newCall_zip_2 _ _) (fun obj=>F.args_object_init_3 obj _ _) F.entry_zip_new (sY ka kb a b xs ys) ⟨ha,hb,?_⟩
 have z1:(Bg ka s.heap a).objs.size=s.heap.objs.size+1:=Heap.size_push ..
 have z2:(Cz ka kb s.heap a b).objs.size=s.heap.objs.size+2:=by rw[Heap.size_push,z1]
 have z3:(CA ka kb s.heap a b).objs.size=s.heap.objs.size+3:=by rw[Heap.size_push,z2]
 have z4:(CB ka kb s.heap a b).objs.size=s.heap.objs.size+4:=by rw[Heap.size_push,z3]
 have pu:∀{h:Heap}{c:Addr}{o:Obj}(x:Obj),h.get? c=some o->(h.push x).get? c=some o:=fun x e=>Heap.get?_push_of_some x e
 have g5:(sz5 ka kb s.heap a b).get? (CB ka kb s.heap a b).objs.size=some _:=Heap.get?_push_size _ rfl
 have g4:(sz5 ka kb s.heap a b).get? (CA ka kb s.heap a b).objs.size=some _:=pu _ (Heap.get?_push_size _ rfl)
 have g3:(sz5 ka kb s.heap a b).get? (Cz ka kb s.heap a b).objs.size=some _:=pu _ (pu _ (Heap.get?_push_size _ rfl))
 have g2:(sz5 ka kb s.heap a b).get? (Bg ka s.heap a).objs.size=some _:=pu _ (pu _ (pu _ (Heap.get?_push_size _ rfl)))
 have g1:(sz5 ka kb s.heap a b).get? s.heap.objs.size=some _:=pu _ (pu _ (pu _ (pu _ (Heap.get?_push_size _ rfl))))
 show _/\_
 rw[z2,z3,z4]at g5
 rw[z1,z2]at g3
 rw[z3]at g4
 rw[z1]at g2
 rw[z4]
 exact⟨⟨_,g5,rfl⟩,q _ g5 g3 g4 ⟨_,g1,rfl,rfl⟩ ⟨_,g2,rfl,rfl⟩ fun c o x=>pu _ (pu _ (pu _ (pu _ (pu _ x))))⟩
end
end L2
namespace L2
open PySem PySem.Spec PyProof.Rows
noncomputable def j3 (kts:List (Addr×List V))(a:Addr)(o:Obj)(ns:List Int):Hp:=fun b=>match kts.lookup b with
 |some xs=>some (.tup xs)
 |none=>if b=a then some (.frz o (.lst (ns.map V.int))) else none
section
variable {kts:List (Addr×List V)}{a b:Addr}{o:Obj}{ns:List Int}{xs:List V}
theorem vU (e:kts.lookup b=some xs):j3 kts a o ns b=some (.tup xs):=by unfold j3;rw[e]
theorem vV (e:kts.lookup a=none):j3 kts a o ns a=some (.frz o (.lst (ns.map V.int))):=by unfold j3;rw[e];exact if_pos rfl
theorem vW (e:kts.lookup b=none)(n:b≠a):j3 kts a o ns b=none:=by unfold j3;rw[e];exact if_neg n
end
theorem il:∀{vs:List Value}{ns:List Int},IntsAre vs ns->Vals (ns.map V.int) vs
 |_,_,.nil=>.nil
 |_,_,.cons n t h=>.cons ⟨t,rfl⟩ (il h)
theorem rg {P:Program}{w:World}{K:PySem.W.Frag}{mg mb:Str->Option Value}{CX:CXT}{k:Nat}{fa a:Addr}{fd:FuncData}{x:Str}{sp:Sp}{s₁:Shared}{vs:List Value}{ns:List Int}{kts:List (Addr×List V)}
 (KX:K.In s₁.heap) (hns:s₁.heap.Ns mainGlobals mg) (hb:s₁.heap.Ns builtinsNs mb) (hbb:∀ x:Str,x≠"__name__"->mb x=bootBuiltins x) (hlim:s₁.heap.NoLimit) (hg:s₁.gens=#[])
 (ha:s₁.heap.get? a=some { cls:=.type "list",data:=.seq vs.toArray }) (hi:IntsAre vs ns) (hl:ns.length<=sizeLine) (hr:Room k callerA)
 (hK:∀ o,K.lookup a=some o->o.cls=.type "list"->False)
 (hT:∀ b xs,kts.lookup b=some xs->K.lookup b=none/\∃(o:Obj)(its:Array Value)(n:Nat),s₁.heap.get? b=some o/\o.cls=.type "tuple"/\o.data=.seq its n/\its.size<=sizeLine/\Vals xs its.toList)
 (hM:∀ p∈K,∀ b xs,yc p.2=some (b,xs)->kts.lookup b=some xs)
 (F:∀ base:Heap,K.In base->base.Ns mainGlobals mg->FnOk P w K mg base CX k fa fd [x] sp) (hbind:∀(s:Shared)(u:Value),BindsTo s fd ⟨[u],[]⟩ [(x,u)])
 (hsp:∀ H:Hp,(∃ o,H a=some (.frz o (.lst (ns.map V.int))))->sp [.ref a] H (fun v _=>v=.bl true) fun _ _ _=>False)
 (hCX:∀ H e s',CX [] H s₁ (fun _ _ _=>False) e s'->False) :
 codeAny (model P w) callerA (.call (.ref fa) ⟨[.ref a],[]⟩) (fun r s'=>r=.ok (.ret (.bool true))/\OldK s₁.heap s'.heap/\s'.os=s₁.os/\AllBare s'.gens) s₁:=by
 have rv:=il hi
 have noK:K.lookup a=none:=by
  cases q:K.lookup a with
  |none=>rfl
  |some o=>
   have e:=KX a o q
   rw[ha]at e
   cases e
   exact(hK _ q rfl).elim
 have noT:kts.lookup a=none:=by
  cases q:kts.lookup a with
  |none=>rfl
  |some xs=>
   obtain⟨_,o,its,n,e,c,_⟩:=hT a xs q
   rw[ha]at e
   cases e
   exact absurd c (by simp)
 obtain⟨ob,eob⟩ : ∃ ob:Obj,ob={ cls:=.type "list",data:=.seq vs.toArray }:=⟨_,rfl⟩
 rw[<- eob]at ha
 generalize eH:j3 kts a ob ns=H
 have Ha:H a=some (.frz ob (.lst (ns.map V.int))):=by rw[<- eH];exact vV noT
 have Ht:∀ b xs,kts.lookup b=some xs->H b=some (.tup xs):=fun b xs e=>by rw[<- eH];exact vU e
 have Hn:∀ b,kts.lookup b=none->b≠a->H b=none:=fun b e n=>by rw[<- eH];exact vW e n
 have freeK:∀ b o,K.lookup b=some o->H b=none:=fun b o e=>by
  refine Hn b ?_ fun z=>by rw[z,noK]at e;cases e
  cases q:kts.lookup b with
  |none=>rfl
  |some xs=>rw[(hT b xs q).1]at e;cases e
 have freeD:∀(b:Addr)(o:Obj)(es:Array DictEntry)(ep:Nat),s₁.heap.get? b=some o->o.data=.dict es ep->H b=none:=fun b o es ep e d=>by
  refine Hn b ?_ fun z=>?_
  ·cases q:kts.lookup b with
   |none=>rfl
   |some xs=>
    obtain⟨_,o',its,n,e',_,d',_⟩:=hT b xs q
    rw[e]at e';cases e'
    rw[d]at d';cases d'
  ·rw[z,ha]at e;cases e
   rw[eob]at d;cases d
 have nsK:∀{b:Addr}{m:Str->Option Value},s₁.heap.Ns b m->(mX s₁.heap H).Ns b m:=fun{b m} ⟨o,es,ep,e,d,r⟩=>⟨o,es,ep,mY e (freeD b o es ep e d),d,r⟩
 have hKb:K.In (mX s₁.heap H):=fun b o e=>mY (KX b o e) (freeK b o e)
 have hMd:Mod K mg (mX s₁.heap H):=⟨hKb,nsK hns,⟨mb,nsK hb,hbb⟩,let ⟨mc,h1,h2⟩:=hlim;⟨mc,nsK h1,h2⟩⟩
 have hok:HOk P w H s₁.heap:=fun b u e=>by
  cases q:kts.lookup b with
  |some xs=>
   rw[Ht b xs q]at e;cases e
   obtain⟨_,o,its,n,e1,c,d,z,r⟩:=hT b xs q
   refine⟨by rw[r.length];simpa using z,its.toList,r,o,e1,c,n,by simpa using d⟩
  |none=>
   by_cases hba:b=a
   ·rw[hba,Ha]at e;cases e
    rw[hba]
    exact⟨ha,by rw[List.length_map];exact hl,vs,_,rv,by rw[ha,eob]⟩
   ·rw[Hn b q hba]at e;cases e
 have e0:Env0 P w K mg (mX s₁.heap H) callerA [] s₁ H:=
  ⟨rfl,hMd,fun b o e=>vq e,Nat.le_of_eq (qM _ _),trivial,fun b hb=>absurd (show b∈([]:List Addr) from hb) (by simp),hok,.of_eq hg,fun p hp b xs e=>Ht b xs (hM p hp b xs e)⟩
 refine codeAny_mono ((F _ hKb (nsK hns)).run callerA [] s₁ H ⟨[.ref a],[]⟩ [.ref a] [.ref a] _ _ hr e0 (hbind s₁ (.ref a)) (.cons rfl .nil) (hsp H ⟨ob,Ha⟩)) fun r s' h=>?_
 cases r with
 |error e=>exact(hCX H e s' h).elim
 |ok fl=>
  cases fl with
  |next=>exact False.elim h
  |brk=>exact False.elim h
  |cont=>exact False.elim h
  |ret u=>
   obtain⟨v,H',os,bare,un,hok',r',q⟩:=h
   have q':v=.bl true:=q
   subst q'
   obtain rfl:u=Value.bool true:=r'
   refine⟨rfl,OldK.of_keep fun b o e=>?_,os,bare⟩
   by_cases hba:b=a
   ·rw[hba]at e ⊢
    have z2:=un.frzs a ob _ Ha
    obtain⟨e2,_⟩:=hok' a _ z2
    rw[ha]at e;cases e
    exact e2
   ·refine un.keep b o e ?_ (by intro z;exact absurd (show b∈([]:List Addr) from z) (by simp)) (by simp)
    cases q:kts.lookup b with
    |none=>exact .inl (Hn b q hba)
    |some xs=>exact .inr ⟨xs,Ht b xs q⟩
section
variable {K K':PySem.W.Frag}{g:Addr}{kts:List (Addr×List V)}
noncomputable def C8 (K:PySem.W.Frag):Bool:=K.all fun p=>(yc p.2).isNone
structure SubK (K K':PySem.W.Frag):Prop where
 look:∀ b o,K.lookup b=some o->(∀ its n,o.data≠.seq its n)->K'.lookup b=some o
theorem rh:SubK K K:=⟨fun _ _ e _=>e⟩
theorem SubK.code (S:SubK K K'){cd:Value}{q:Str}(h:PySem.W.codeIn K cd q=true):PySem.W.codeIn K' cd q=true:=by
 unfold PySem.W.codeIn at h ⊢
 cases cd with
 |ref c=>
  dsimp only at h ⊢
  cases e:K.lookup c with
  |none=>rw[e]at h;cases h
  |some o=>
   obtain⟨o1,o2,o3,o4⟩:=o
   cases o3 with
   |fields vs=>rw[S.look c _ e (fun _ _ z=>nomatch z)];rw[e]at h;exact h
   |_=>rw[e]at h;cases h
 |_=>cases h
theorem SubK.keep (S:SubK K K'){f:Addr}{o1:Value}{o2:Option Addr}{fd:FuncData}{o4:Array (Option Value)}(e:K.lookup f=some ⟨o1,o2,.func fd,o4⟩):PySem.W.keepIn K' (.ref f)=true:=by
 unfold PySem.W.keepIn
 dsimp only
 rw[S.look f _ e (fun _ _ z=>nomatch z)]
theorem SubK.ns (S:SubK K K'){n:Addr}{x:Str}{r:Option Value}(h:PySem.W.nsIn K n x=some r):PySem.W.nsIn K' n x=some r:=by
 unfold PySem.W.nsIn at h ⊢
 cases e:K.lookup n with
 |none=>rw[e]at h;cases h
 |some o=>
  obtain⟨o1,o2,o3,o4⟩:=o
  cases o3 with
  |dict es ep=>rw[S.look n _ e (fun _ _ z=>nomatch z)];rw[e]at h;exact h
  |_=>rw[e]at h;cases h
theorem SubK.nsOk (S:SubK K K'){n:Addr}(h:PySem.W.nsOkIn K n=true):PySem.W.nsOkIn K' n=true:=by
 unfold PySem.W.nsOkIn at h ⊢
 cases e:K.lookup n with
 |none=>rw[e]at h;cases h
 |some o=>
  obtain⟨o1,o2,o3,o4⟩:=o
  cases o3 with
  |dict es ep=>rw[S.look n _ e (fun _ _ z=>nomatch z)];rw[e]at h;exact h
  |_=>rw[e]at h;cases h
theorem SubK.tail (S:SubK K K'){bm:List Value}:∀{l:List Value},PySem.W.tailIn K bm l=true->PySem.W.tailIn K' bm l=true
 | [],h=>h
 |v::r,h=>by
  unfold PySem.W.tailIn at h ⊢
  rw[Bool.or_eq_true]at h ⊢
  refine h.imp id fun h=>?_
  cases v with
  |ref A=>
   dsimp only at h ⊢
   cases e:K.lookup A with
   |none=>rw[e]at h;cases h
   |some o=>
    obtain⟨o1,o2,o3,o4⟩:=o
    cases o3 with
    |cls cd=>
     rw[S.look A _ e (fun _ _ z=>nomatch z)];rw[e]at h
     dsimp only at h ⊢
     simp only[Bool.and_eq_true,beq_iff_eq]at h ⊢
     exact⟨⟨S.nsOk h.1.1,S.ns h.1.2⟩,S.tail h.2⟩
    |_=>rw[e]at h;cases h
  |_=>cases h
theorem SubK.exc (S:SubK K K'){C:Addr}{bm:List Value}{i:String}(h:PySem.W.excIn K C bm i=true):PySem.W.excIn K' C bm i=true/\sQ K' C=sQ K C:=by
 unfold PySem.W.excIn at h ⊢
 unfold sQ
 cases e:K.lookup C with
 |none=>rw[e]at h;cases h
 |some o=>
  obtain⟨o1,o2,o3,o4⟩:=o
  rw[e]at h
  cases o3 with
  |cls cd=>
   rw[S.look C _ e (fun _ _ z=>nomatch z)]
   refine⟨?_,rfl⟩
   split at h
   ·rename_i dd cd' sl he
    injection he with he
    injection he with he1 he2 he3 he4
    injection he3 with he3
    subst he1 he2 he3 he4
    try dsimp only at h
    try dsimp only
    split at h
    ·rename_i hm hs
     simp only[Bool.and_eq_true,beq_iff_eq]at h ⊢
     exact⟨⟨⟨h.1.1.1,S.tail h.1.1.2⟩,S.nsOk h.1.2⟩,S.ns h.2⟩
    ·cases h
   ·cases h
  |_=>split at h<;>first|cases h|(rename_i he;injection he with he;injection he with _ _ he _;cases he)
end
noncomputable def pC:Value->Bool
 | .type n=>n=="list"
 |_=>false
noncomputable def C9 (K:PySem.W.Frag):Bool:=K.all fun p=>!pC p.2.cls
theorem sZ {a:Addr} {o:Obj}:∀{K:PySem.W.Frag},C9 K=true->K.lookup a=some o->o.cls=.type "list"->False
 | [],_,e,_=>by cases e
 |(b,x)::r,h,e,c=>by
  unfold C9 at h
  rw[List.all_cons,Bool.and_eq_true]at h
  rw[List.lookup_cons]at e
  split at e
  ·cases e
   rw[c]at h
   have h1:=h.1
   simp[pC]at h1
  ·exact sZ (K:=r) h.2 e c
section
variable {l:PySem.W.OpenLaw}{n k:Nat}{q:Program}{loose:List Str}{XP:(Str->Option Value)->Heap->Prop}{YP:World->Heap->Prop}{d:DefRec}{K:Params->PySem.W.Frag}{CX:World->CXT}{sp:World->Sp}{x:Str}
theorem s_ (hn:l.most=some n)(hn2:n<=sizeLine)(hdf:d.params.defaults=[])(hr:Room k callerA)(hY:∀(w:World)(h:Heap),YP w h->(K w.params).In h)
 (hL:∀ w:World,C9 (K w.params)=true/\C8 (K w.params)=true)
 (F:∀(w:World)(mg:Str->Option Value)(fa:Addr)(h:Heap),(K w.params).In h->h.Ns mainGlobals mg->mg d.name=some (.ref fa)->
   ∃ fd:FuncData,(∀(s:Shared)(u:Value),BindsTo s fd ⟨[u],[]⟩ [(x,u)])/\∀ base:Heap,(K w.params).In base->base.Ns mainGlobals mg->FnOk l.prog w (K w.params) mg base (CX w) k fa fd [x] (sp w))
 (hsp:∀(w:World)(H:Hp)(a:Addr)(ns:List Int),ns.length<=n->(∃ o,H a=some (.frz o (.lst (ns.map V.int))))->sp w [.ref a] H (fun v _=>v=.bl true) fun _ _ _=>False)
 (hCX:∀(w:World)(H:Hp)(s:Shared)(e:Value)(s':Shared),CX w [] H s (fun _ _ _=>False) e s'->False) :
 PySem.W.WalkO q loose XP YP l.row.toRowW d [] (fun f vs=>PySem.call f vs):=by
 refine Att.attach_call hn hdf fun w s₀ s₁ mg mb fa o pm cd doc a vs ns G Y ho hd hcd hmg hobj hints bX hg=>?_
 have KX:=hY w _ Y
 obtain⟨fd,hb,hF⟩:=F w mg fa _ KX G.T.g hmg
 exact rg (kts:=[]) KX G.T.g G.T.b G.T.builtins G.T.nolimit hg hobj hints (Nat.le_trans bX hn2) hr (fun o e c=>sZ (hL w).1 e c) (fun b xs e=>by cases e)
  (fun p hp b xs e=>by have:=List.all_eq_true.mp (hL w).2 p hp;rw[e]at this;cases this) hF hb (fun H hS=>hsp w H a ns bX hS) fun H e s'=>hCX w H s₁ e s'
end
end L2
set_option autoImplicit true
namespace L3
open PySem PySem.Spec PyProof.Rows L2
noncomputable abbrev DK:=Sum Key (List Key)
inductive D where
 |non|bl (b:Bool)|int (i:Int)|str (x:Str)|tup (ds:List D)|lst (ds:List D)|dic (ks:List DK) (ds:List D)
mutual
noncomputable def D.flat:D->Bool
 | .lst _=>false
 | .dic _ _=>false
 | .tup ds=>D.flats ds
 |_=>true
noncomputable def D.flats:List D->Bool
 | []=>true
 |d::ds=>d.flat&&D.flats ds
end
mutual
noncomputable def D.dep:D->Nat
 | .lst ds=>D.deps ds+1
 | .tup ds=>D.deps ds+1
 | .dic _ ds=>D.deps ds+1000
 |_=>0
noncomputable def D.deps:List D->Nat
 | []=>0
 |d::ds=>max d.dep (D.deps ds)
end
mutual
noncomputable def bJ:D->D->Bool
 | .non,e=>match e with|.non=>true|_=>false
 | .bl a,e=>match e with|.bl b=>a==b|.int b=>(if a then 1 else 0)==b|_=>false
 | .int a,e=>match e with|.int b=>a==b|.bl b=>a==(if b then 1 else 0)|_=>false
 | .str a,e=>match e with|.str b=>a==b|_=>false
 | .tup as,e=>match e with|.tup bs=>eqDs as bs|_=>false
 | .lst as,e=>match e with|.lst bs=>eqDs as bs|_=>false
 | .dic ks as,e=>match e with|.dic ls bs=>decide (ks=ls)&&eqDs as bs|_=>false
noncomputable def eqDs:List D->List D->Bool
 | [],bs=>match bs with|[]=>true|_=>false
 |a::as,bs=>match bs with|b::r=>bJ a b&&eqDs as r|[]=>false
end
mutual
theorem bM:∀ d:D,bJ d d=true
 | .non=>rfl
 | .bl a=>by simp[bJ]
 | .int a=>by simp[bJ]
 | .str a=>by simp[bJ]
 | .tup as=>by simp only[bJ];exact eqDs_refl as
 | .lst as=>by simp only[bJ];exact eqDs_refl as
 | .dic ks as=>by simp only[bJ,decide_true,Bool.true_and];exact eqDs_refl as
theorem eqDs_refl:∀ ds:List D,eqDs ds ds=true
 | []=>rfl
 |d::ds=>by simp only[eqDs,bM d,eqDs_refl ds,Bool.and_self]
end
noncomputable def DAt (H:Hp)(a:Addr)(ks:List DK)(vs:List V):Prop:=
 (∃ kvs:List (Key×V),Rd H a (.dK kvs)/\ks=kvs.map (fun p=>.inl p.1)/\vs=kvs.map Prod.snd)\/∃ kvs:List (List Key×V),Rd H a (.dT kvs)/\ks=kvs.map (fun p=>.inr p.1)/\vs=kvs.map Prod.snd
noncomputable def Bh:HO->Prop
 | .lst _=>True
 | .dK _=>True
 | .dT _=>True
 |_=>False
noncomputable def Mu (H:Hp)(a:Addr):Prop:=∃ o,H a=some o/\Bh o
theorem Mu.lst {H:Hp}{a:Addr}{vs:List V}(h:H a=some (.lst vs)):Mu H a:=⟨_,h,True.intro⟩
theorem Mu.same {H H':Hp}{a:Addr}(h:Mu H a)(s:∀ o,H a=some o->H' a=some o):Mu H' a:=let ⟨o,e,m⟩:=h;⟨o,s o e,m⟩
theorem Mu.some {H:Hp}{a:Addr}(h:Mu H a):H a≠none:=by obtain⟨o,e,_⟩:=h;rw[e];simp
theorem tf {H:Hp}{a:Addr}{u:HO}(h:Rd H a u):∃ o,H a=some o:=h.elim (fun e=>⟨_,e⟩) fun⟨_,e⟩=>⟨_,e⟩
theorem tj {H H':Hp}{a:Addr}{u:HO}(h:Rd H a u)(s:∀ o,H a=some o->H' a=some o):Rd H' a u:=h.imp (s _) fun⟨o,e⟩=>⟨o,s _ e⟩
theorem DAt.obj {H:Hp}{a:Addr}{ks:List DK}{vs:List V}(h:DAt H a ks vs):∃ o,H a=some o:=h.elim (fun⟨_,e,_⟩=>tf e) fun⟨_,e,_⟩=>tf e
theorem DAt.keep {H H':Hp}{a:Addr}{ks:List DK}{vs:List V}(h:DAt H a ks vs)(s:∀ o,H a=some o->H' a=some o):DAt H' a ks vs:=
 h.imp (fun⟨kvs,e,r⟩=>⟨kvs,tj e s,r⟩) fun⟨kvs,e,r⟩=>⟨kvs,tj e s,r⟩
theorem DAt.inj {H:Hp}{a:Addr}{ks ls:List DK}{vs ws:List V}(h:DAt H a ks vs)(g:DAt H a ls ws):ks=ls/\vs=ws:=by
 rcases h with⟨k1,e1|⟨o1,e1⟩,r1,r2⟩|⟨k1,e1|⟨o1,e1⟩,r1,r2⟩<;>rcases g with⟨k2,e2|⟨o2,e2⟩,q1,q2⟩|⟨k2,e2|⟨o2,e2⟩,q1,q2⟩<;>(rw[e1]at e2;cases e2;try exact⟨r1.trans q1.symm,r2.trans q2.symm⟩)
noncomputable def C_:HO->Prop
 | .dK _=>False
 | .dT _=>False
 | .frz _ (.dK _)=>False
 | .frz _ (.dT _)=>False
 |_=>True
theorem DAt.no {H:Hp}{a:Addr}{ks:List DK}{vs:List V}{o:HO}(h:DAt H a ks vs)(e:H a=some o)(n:C_ o):False:=by
 rcases h with⟨k,z|⟨o',z⟩,_⟩|⟨k,z|⟨o',z⟩,_⟩<;>(rw[e]at z;cases z;exact n)
mutual
noncomputable def Is (H:Hp)(m:Addr->Prop):D->V->Prop
 | .non,v=>v=.non
 | .bl b,v=>v=.bl b
 | .int i,v=>v=.int i
 | .str x,v=>v=.str x
 | .tup ds,v=>∃ a vs,v=.ref a/\H a=some (.tup vs)/\IsAll H m ds vs
 | .lst ds,v=>∃ a vs,v=.ref a/\((H a=some (.lst vs)/\m a)\/∃ o,H a=some (.frz o (.lst vs))/\m a)/\IsAll H m ds vs
 | .dic ks ds,v=>∃ a vs,v=.ref a/\(DAt H a ks vs/\m a)/\IsAll H m ds vs
noncomputable def IsAll (H:Hp)(m:Addr->Prop):List D->List V->Prop
 | [],vs=>vs=[]
 |d::ds,vs=>∃ v r,vs=v::r/\Is H m d v/\IsAll H m ds r
end
noncomputable def fixd:HO->Prop
 | .tup _=>True
 | .frz _ _=>True
 |_=>False
section
variable {H H':Hp}{m m':Addr->Prop}
mutual
theorem Is.mono (kp:∀ a o,H a=some o->(m a\/fixd o)->H' a=some o)(mm:∀ a o,H a=some o->m a->m' a):∀{d:D}{v:V},Is H m d v->Is H' m' d v
 | .non,_,h=>h
 | .bl _,_,h=>h
 | .int _,_,h=>h
 | .str _,_,h=>h
 | .tup ds,_,h=>by
  obtain⟨a,vs,e,h1,h2⟩:=h
  exact⟨a,vs,e,kp a _ h1 (.inr True.intro),IsAll.mono kp mm h2⟩
 | .lst ds,_,h=>by
  obtain⟨a,vs,e,h1,h2⟩:=h
  refine⟨a,vs,e,?_,IsAll.mono kp mm h2⟩
  rcases h1 with⟨h1,h3⟩|⟨o,h1,h3⟩
  ·exact .inl ⟨kp a _ h1 (.inl h3),mm a _ h1 h3⟩
  ·exact .inr ⟨o,kp a _ h1 (.inr True.intro),mm a _ h1 h3⟩
 | .dic ks ds,_,h=>by
  obtain⟨a,vs,e,h1,h2⟩:=h
  obtain⟨o,eo⟩:=h1.1.obj
  exact⟨a,vs,e,⟨h1.1.keep fun o e=>kp a o e (.inl h1.2),mm a o eo h1.2⟩,IsAll.mono kp mm h2⟩
theorem IsAll.mono (kp:∀ a o,H a=some o->(m a\/fixd o)->H' a=some o)(mm:∀ a o,H a=some o->m a->m' a):∀{ds:List D}{vs:List V},IsAll H m ds vs->IsAll H' m' ds vs
 | [],_,h=>h
 |d::ds,_,h=>by
  obtain⟨v,r,e,h1,h2⟩:=h
  exact⟨v,r,e,Is.mono kp mm h1,IsAll.mono kp mm h2⟩
end
theorem Is.weak (mm:∀ a,m a->m' a){d:D}{v:V}(h:Is H m d v):Is H m' d v:=h.mono (fun _ _ e _=>e) fun a _ _=>mm a
theorem IsAll.weak (mm:∀ a,m a->m' a){ds:List D}{vs:List V}(h:IsAll H m ds vs):IsAll H m' ds vs:=h.mono (fun _ _ e _=>e) fun a _ _=>mm a
theorem Is.same (s:Same H H'){d:D}{v:V}(h:Is H m d v):Is H' m d v:=h.mono (fun a o e _=>s a o e) fun _ _ _ z=>z
theorem IsAll.same (s:Same H H'){ds:List D}{vs:List V}(h:IsAll H m ds vs):IsAll H' m ds vs:=h.mono (fun a o e _=>s a o e) fun _ _ _ z=>z
mutual
theorem Is.flat:∀{d:D}{v:V},d.flat=true->Is H m d v->Is H m' d v
 | .non,_,_,h=>h
 | .bl _,_,_,h=>h
 | .int _,_,_,h=>h
 | .str _,_,_,h=>h
 | .tup ds,_,f,h=>by
  obtain⟨a,vs,e,h1,h2⟩:=h
  exact⟨a,vs,e,h1,IsAll.flat (by simpa only[D.flat] using f) h2⟩
 | .lst ds,_,f,_=>by simp[D.flat]at f
 | .dic ks ds,_,f,_=>by simp[D.flat]at f
theorem IsAll.flat:∀{ds:List D}{vs:List V},D.flats ds=true->IsAll H m ds vs->IsAll H m' ds vs
 | [],_,_,h=>h
 |d::ds,_,f,h=>by
  obtain⟨v,r,e,h1,h2⟩:=h
  simp only[D.flats,Bool.and_eq_true]at f
  exact⟨v,r,e,Is.flat f.1 h1,IsAll.flat f.2 h2⟩
end
mutual
theorem Is.inj:∀{d e:D}{v:V},Is H m d v->Is H m' e v->d=e
 | .non,e,_,h,g=>by cases e<;>first|rfl|(cases h;first|(obtain⟨_,_,z,_⟩:=g;cases z;done)|cases g)
 | .bl _,e,_,h,g=>by cases e<;>(cases h;first|(obtain⟨_,_,z,_⟩:=g;cases z;done)|(cases g;rfl)|cases g)
 | .int _,e,_,h,g=>by cases e<;>(cases h;first|(obtain⟨_,_,z,_⟩:=g;cases z;done)|(cases g;rfl)|cases g)
 | .str _,e,_,h,g=>by cases e<;>(cases h;first|(obtain⟨_,_,z,_⟩:=g;cases z;done)|(cases g;rfl)|cases g)
 | .tup ds,e,_,h,g=>by
  obtain⟨a,vs,rfl,h1,h2⟩:=h
  cases e with
  |tup es=>
   obtain⟨b,ws,z,g1,g2⟩:=g
   cases z
   rw[h1]at g1;cases g1
   rw[IsAll.inj h2 g2]
  |lst es=>
   obtain⟨b,ws,z,g1,g2⟩:=g
   cases z
   rcases g1 with⟨g1,_⟩|⟨o,g1,_⟩<;>(rw[h1]at g1;cases g1)
  |dic ls es=>
   obtain⟨b,ws,z,g1,g2⟩:=g
   cases z
   exact(g1.1.no h1 True.intro).elim
  |_=>cases g
 | .lst ds,e,_,h,g=>by
  obtain⟨a,vs,rfl,h1,h2⟩:=h
  cases e with
  |tup es=>
   obtain⟨b,ws,z,g1,g2⟩:=g
   cases z
   rcases h1 with⟨h1,_⟩|⟨o,h1,_⟩<;>(rw[h1]at g1;cases g1)
  |lst es=>
   obtain⟨b,ws,z,g1,g2⟩:=g
   cases z
   have e:vs=ws:=by
    rcases h1 with⟨h1,_⟩|⟨o,h1,_⟩<;>rcases g1 with⟨g1,_⟩|⟨o',g1,_⟩<;>(rw[h1]at g1;cases g1;try rfl)
   subst e
   rw[IsAll.inj h2 g2]
  |dic ls es=>
   obtain⟨b,ws,z,g1,g2⟩:=g
   cases z
   rcases h1 with⟨h1,_⟩|⟨o,h1,_⟩<;>exact(g1.1.no h1 True.intro).elim
  |_=>cases g
 | .dic ks ds,e,_,h,g=>by
  obtain⟨a,vs,rfl,h1,h2⟩:=h
  cases e with
  |tup es=>
   obtain⟨b,ws,z,g1,g2⟩:=g
   cases z
   exact(h1.1.no g1 True.intro).elim
  |lst es=>
   obtain⟨b,ws,z,g1,g2⟩:=g
   cases z
   rcases g1 with⟨g1,_⟩|⟨o,g1,_⟩<;>exact(h1.1.no g1 True.intro).elim
  |dic ls es=>
   obtain⟨b,ws,z,g1,g2⟩:=g
   cases z
   obtain⟨e1,e2⟩:=h1.1.inj g1.1
   subst e1 e2
   rw[IsAll.inj h2 g2]
  |_=>cases g
theorem IsAll.inj:∀{ds es:List D}{vs:List V},IsAll H m ds vs->IsAll H m' es vs->ds=es
 | [],es,_,h,g=>by
  cases h
  cases es with
  |nil=>rfl
  |cons e es=>obtain⟨_,_,z,_⟩:=g;cases z
 |d::ds,es,_,h,g=>by
  obtain⟨v,r,rfl,h1,h2⟩:=h
  cases es with
  |nil=>cases g
  |cons e es=>
   obtain⟨w,q,z,g1,g2⟩:=g
   cases z
   rw[Is.inj h1 g1,IsAll.inj h2 g2]
end
theorem IsAll.length:∀{ds:List D}{vs:List V},IsAll H m ds vs->vs.length=ds.length
 | [],_,h=>by cases h;rfl
 |d::ds,_,h=>by
  obtain⟨v,r,rfl,_,h2⟩:=h
  simp[IsAll.length h2]
theorem IsAll.append:∀{ds es:List D}{vs ws:List V},IsAll H m ds vs->IsAll H m es ws->IsAll H m (ds++es) (vs++ws)
 | [],_,_,_,h,g=>by cases h;exact g
 |d::ds,_,_,_,h,g=>by
  obtain⟨v,r,rfl,h1,h2⟩:=h
  exact⟨v,r++_,rfl,h1,IsAll.append h2 g⟩
theorem IsAll.snoc {ds:List D}{d:D}{vs:List V}{v:V}(h:IsAll H m ds vs)(g:Is H m d v):IsAll H m (ds++[d]) (vs++[v]):=h.append ⟨v,[],rfl,g,rfl⟩
theorem IsAll.get:∀{ds:List D}{vs:List V}{i:Nat}{d:D},IsAll H m ds vs->ds[i]?=some d->∃ v,vs[i]?=some v/\Is H m d v
 | [],_,_,_,_,e=>by simp at e
 |d::ds,_,0,_,h,e=>by
  obtain⟨v,r,rfl,h1,h2⟩:=h
  simp at e;subst e
  exact⟨v,rfl,h1⟩
 |d::ds,_,i+1,_,h,e=>by
  obtain⟨v,r,rfl,h1,h2⟩:=h
  obtain⟨w,a,b⟩:=IsAll.get (i:=i) h2 (by simpa using e)
  exact⟨w,by simpa using a,b⟩
theorem IsAll.set:∀{ds:List D}{vs:List V}{d:D}{v:V}(i:Nat),IsAll H m ds vs->Is H m d v->IsAll H m (ds.set i d) (vs.set i v)
 | [],_,_,_,_,h,_=>by cases h;exact rfl
 |x::ds,_,d,v,0,h,g=>by
  obtain⟨w,r,rfl,h1,h2⟩:=h
  exact⟨v,r,rfl,g,h2⟩
 |x::ds,_,d,v,i+1,h,g=>by
  obtain⟨w,r,rfl,h1,h2⟩:=h
  exact⟨w,r.set i v,rfl,h1,IsAll.set i h2 g⟩
theorem IsAll.take:∀{ds:List D}{vs:List V}(n:Nat),IsAll H m ds vs->IsAll H m (ds.take n) (vs.take n)
 |_,_,0,_=>rfl
 | [],_,n+1,h=>by cases h;exact rfl
 |d::ds,_,n+1,h=>by
  obtain⟨v,r,rfl,h1,h2⟩:=h
  exact⟨v,r.take n,rfl,h1,IsAll.take n h2⟩
theorem IsAll.drop:∀{ds:List D}{vs:List V}(n:Nat),IsAll H m ds vs->IsAll H m (ds.drop n) (vs.drop n)
 |_,_,0,h=>h
 | [],_,n+1,h=>by cases h;exact rfl
 |d::ds,_,n+1,h=>by
  obtain⟨v,r,rfl,h1,h2⟩:=h
  exact IsAll.drop n h2
end
section
variable {P:Program}{w:World}{H:Hp}{s:Shared}{m m':Addr->Prop}
theorem yO (ok:HOk P w H s.heap){a:Addr}{vs:List V}(h:(H a=some (.lst vs)/\m a)\/∃ o,H a=some (.frz o (.lst vs))/\m a) :
 ∃ its:List Value,Vals vs its/\s.heap.IsList a its.toArray:=by
 have key:ObjOk P w H s.heap a (.lst vs)->∃ its:List Value,Vals vs its/\s.heap.IsList a its.toArray:=fun⟨_,its,n,r,e⟩=>⟨its,r,⟨_,e,rfl,n,rfl⟩⟩
 rcases h with⟨h,_⟩|⟨o,h,_⟩
 ·exact key (ok a _ h)
 ·exact key (ok a _ h).2
theorem yP (ok:HOk P w H s.heap){a:Addr}{vs:List V}(h:H a=some (.tup vs)):∃ its:List Value,Vals vs its/\s.heap.IsTuple a its.toArray:=by
 obtain⟨_,its,r,e⟩:=ok a _ h
 exact⟨its,r,e⟩
theorem ri (n:Nat)(e:Nat->Bool):(List.range n).all e=true↔∀ j,j<n->e j=true:=by
 simp[List.all_eq_true,List.mem_range]
theorem j6:∀(ds es:List D),eqDs ds es=true↔ds.length=es.length/\∀(j:Nat)(d e:D),ds[j]?=some d->es[j]?=some e->bJ d e=true
 | [],[]=>by simp[eqDs]
 | [],e::es=>by simp[eqDs]
 |d::ds,[]=>by simp[eqDs]
 |d::ds,e::es=>by
  simp only[eqDs,Bool.and_eq_true,j6 ds es,List.length_cons,Nat.add_right_cancel_iff]
  constructor
  ·rintro⟨h1,h2,h3⟩
   refine⟨h2,fun j x y ex ey=>?_⟩
   cases j with
   |zero=>simp at ex ey;subst ex;subst ey;exact h1
   |succ j=>exact h3 j x y (by simpa using ex) (by simpa using ey)
  ·rintro⟨h2,h3⟩
   exact⟨h3 0 d e rfl rfl,h2,fun j x y ex ey=>h3 (j+1) x y (by simpa using ex) (by simpa using ey)⟩
theorem dk:∀{ds:List D}{j:Nat}{d:D},ds[j]?=some d->d.dep<=D.deps ds
 | [],_,_,e=>by simp at e
 |d::ds,0,_,e=>by simp at e;subst e;simp only[D.deps];omega
 |d::ds,j+1,x,e=>by
  have:=dk (ds:=ds) (j:=j) (d:=x) (by simpa using e)
  simp only[D.deps];omega
theorem mf (ok:HOk P w H s.heap){A:Around}{ds es:List D}{vs ws:List V}{its its2:List Value}(h1:IsAll H m ds vs)(h2:IsAll H m' es ws)(r1:Vals vs its)(r2:Vals ws its2)
 (rec:∀ d∈ds,∀ e∈es,∀(v w:V)(u u':Value),Is H m d v->Is H m' e w->RelV v u->RelV w u'->SeqAt.EqAt A.in1 s u u' (bJ d e)) :
 ∀ j (z1:j<its.toArray.size) (z2:j<its2.toArray.size),SeqAt.EqAt A.in1 s its.toArray[j] its2.toArray[j] (match ds[j]?,es[j]? with|some d,some e=>bJ d e|_,_=>true):=by
 intro j z1 z2
 have l1:=r1.length
 have l2:=r2.length
 have l3:=h1.length
 have l4:=h2.length
 have y1:j<its.length:=by simpa using z1
 have y2:j<its2.length:=by simpa using z2
 have k1:j<ds.length:=by omega
 have k2:j<es.length:=by omega
 obtain⟨v,ev,iv⟩:=h1.get (i:=j) (d:=ds[j]) (by simp[k1])
 obtain⟨v',ev',iv'⟩:=h2.get (i:=j) (d:=es[j]) (by simp[k2])
 obtain⟨u,eu,ru⟩:=r1.get ev
 obtain⟨u',eu',ru'⟩:=r2.get ev'
 have q1:its.toArray[j]=u:=by
  have:its[j]?=some its[j]:=by simp[y1]
  rw[this]at eu;simpa using Option.some.inj eu
 have q2:its2.toArray[j]=u':=by
  have:its2[j]?=some its2[j]:=by simp[y2]
  rw[this]at eu';simpa using Option.some.inj eu'
 have g1:ds[j]?=some ds[j]:=by simp[k1]
 have g2:es[j]?=some es[j]:=by simp[k2]
 rw[q1,q2,g1,g2]
 exact rec ds[j] (List.getElem_mem _) es[j] (List.getElem_mem _) v v' u u' iv iv' ru ru'
theorem oC {ds es:List D}(hl:ds.length=es.length) :
 ((List.range ds.length).all fun j=>match ds[j]?,es[j]? with|some d,some e=>bJ d e|_,_=>true)=eqDs ds es:=by
 rw[Bool.eq_iff_iff,ri,j6]
 constructor
 ·intro h
  refine⟨hl,fun j d e ed ee=>?_⟩
  have:=h j (List.getElem?_eq_some_iff.mp ed).1
  rw[ed,ee]at this
  exact this
 ·rintro⟨_,h⟩ j hj
  have e1:ds[j]?=some ds[j]:=by simp[hj]
  have hj':j<es.length:=by omega
  have e2:es[j]?=some es[j]:=by simp[hj']
  rw[e1,e2]
  exact h j _ _ e1 e2
theorem mh {ds es:List D}(hl:ds.length≠es.length):eqDs ds es=false:=by
 cases h:eqDs ds es with
 |false=>rfl
 |true=>exact absurd ((j6 ds es).mp h).1 hl
end
section
variable {P:Program}{w:World}{H:Hp}{s:Shared}{m m':Addr->Prop}
noncomputable abbrev jp (H:Hp)(s:Shared)(m m':Addr->Prop)(A:Around)(n:Nat):Prop:=
 ∀(d e:D)(v w:V)(u u':Value),d.dep<n->e.dep<1000->Is H m d v->Is H m' e w->RelV v u->RelV w u'->SeqAt.EqAt A.in1 s u u' (bJ d e)
section
variable {A:Around}{n:Nat}{l1 l2:List D}{vs1 vs2:List V}{its1 its2:List Value}{a1 a2:Addr}
theorem j7 (ok:HOk P w H s.heap)(hn:(D.lst l1).dep<=n)(hE:(D.lst l2).dep<1000)(hu:A.units<cLine)(q1:IsAll H m l1 vs1)(q2:IsAll H m' l2 vs2)(y1:Vals vs1 its1)(y2:Vals vs2 its2)(p1:s.heap.IsList a1 its1.toArray)(p2:s.heap.IsList a2 its2.toArray)
 (rec:jp H s m m' A n):SeqAt.RcAt A s (.ref a1) (.ref a2) (bJ (.lst l1) (.lst l2)):=by
 have e1:its1.toArray.size=l1.length:=by rw[List.size_toArray,<- y1.length,q1.length]
 have e2:its2.toArray.size=l2.length:=by rw[List.size_toArray,<- y2.length,q2.length]
 have hd:∀ d∈l1,d.dep<n:=fun d hd=>by
  obtain⟨j,hj⟩:=List.mem_iff_getElem?.mp hd
  have:=dk hj
  simp only[D.dep]at hn;omega
 have he:∀ e∈l2,e.dep<1000:=fun d hd=>by
  obtain⟨j,hj⟩:=List.mem_iff_getElem?.mp hd
  have:=dk hj
  simp only[D.dep]at hE;omega
 by_cases hl:l1.length=l2.length
 ·have z:=SeqAt.RcAt.lists p1 p2 (by rw[e1,e2,hl]) hu (mf ok q1 q2 y1 y2 fun d hm e hm2 v w u u' i1 i2 r1 r2=>rec d e v w u u' (hd d hm) (he e hm2) i1 i2 r1 r2)
  rw[e1,oC hl]at z
  exact z
 ·have z:=SeqAt.RcAt.lists_lengths p1 p2 (by rw[e1,e2];simpa using hl) hu
  rw[show bJ (.lst l1) (.lst l2)=eqDs l1 l2 from rfl,mh hl]
  exact z
theorem mi (ok:HOk P w H s.heap)(hn:(D.lst l1).dep<=n)(hE:(D.lst l2).dep<1000)(hu:A.units<cLine)(q1:IsAll H m l1 vs1)(q2:IsAll H m' l2 vs2)(y1:Vals vs1 its1)(y2:Vals vs2 its2)(p1:s.heap.IsList a1 its1.toArray)(p2:s.heap.IsList a2 its2.toArray)
 (rec:jp H s m m' A n):SeqAt.RcNeAt A s (.ref a1) (.ref a2) (!bJ (.lst l1) (.lst l2)):=by
 have e1:its1.toArray.size=l1.length:=by rw[List.size_toArray,<- y1.length,q1.length]
 have e2:its2.toArray.size=l2.length:=by rw[List.size_toArray,<- y2.length,q2.length]
 have hd:∀ d∈l1,d.dep<n:=fun d hd=>by
  obtain⟨j,hj⟩:=List.mem_iff_getElem?.mp hd
  have:=dk hj
  simp only[D.dep]at hn;omega
 have he:∀ e∈l2,e.dep<1000:=fun d hd=>by
  obtain⟨j,hj⟩:=List.mem_iff_getElem?.mp hd
  have:=dk hj
  simp only[D.dep]at hE;omega
 by_cases hl:l1.length=l2.length
 ·have z:=SeqAt.RcNeAt.lists p1 p2 (by rw[e1,e2,hl]) hu (mf ok q1 q2 y1 y2 fun d hm e hm2 v w u u' i1 i2 r1 r2=>rec d e v w u u' (hd d hm) (he e hm2) i1 i2 r1 r2)
  rw[e1,oC hl]at z
  exact z
 ·have z:=SeqAt.RcNeAt.lists_lengths p1 p2 (by rw[e1,e2];simpa using hl) hu
  rw[show bJ (.lst l1) (.lst l2)=eqDs l1 l2 from rfl,mh hl]
  exact z
theorem pD:((List.range (min l1.length l2.length)).all (fun j=>match l1[j]?,l2[j]? with|some d,some e=>bJ d e|_,_=>true)&&l1.length==l2.length)=eqDs l1 l2:=by
 by_cases hl:l1.length=l2.length
 ·rw[hl,Nat.min_self,<- hl,oC hl];simp[hl]
 ·rw[mh hl];simp[hl]
theorem lD (ok:HOk P w H s.heap)(hn:(D.tup l1).dep<=n)(hE:(D.tup l2).dep<1000)(hu:A.units<cLine)(q1:IsAll H m l1 vs1)(q2:IsAll H m' l2 vs2)(y1:Vals vs1 its1)(y2:Vals vs2 its2)(p1:s.heap.IsTuple a1 its1.toArray)(p2:s.heap.IsTuple a2 its2.toArray)
 (rec:jp H s m m' A n):SeqAt.RcAt A s (.ref a1) (.ref a2) (bJ (.tup l1) (.tup l2)):=by
 have e1:its1.toArray.size=l1.length:=by rw[List.size_toArray,<- y1.length,q1.length]
 have e2:its2.toArray.size=l2.length:=by rw[List.size_toArray,<- y2.length,q2.length]
 have hd:∀ d∈l1,d.dep<n:=fun d hd=>by
  obtain⟨j,hj⟩:=List.mem_iff_getElem?.mp hd
  have:=dk hj
  simp only[D.dep]at hn;omega
 have he:∀ e∈l2,e.dep<1000:=fun d hd=>by
  obtain⟨j,hj⟩:=List.mem_iff_getElem?.mp hd
  have:=dk hj
  simp only[D.dep]at hE;omega
 have z:=SeqAt.RcAt.tuples p1 p2 hu (mf ok q1 q2 y1 y2 fun d hm e hm2 v w u u' i1 i2 r1 r2=>rec d e v w u u' (hd d hm) (he e hm2) i1 i2 r1 r2)
 rw[e1,e2,pD]at z
 exact z
theorem nk (ok:HOk P w H s.heap)(hn:(D.tup l1).dep<=n)(hE:(D.tup l2).dep<1000)(hu:A.units<cLine)(q1:IsAll H m l1 vs1)(q2:IsAll H m' l2 vs2)(y1:Vals vs1 its1)(y2:Vals vs2 its2)(p1:s.heap.IsTuple a1 its1.toArray)(p2:s.heap.IsTuple a2 its2.toArray)
 (rec:jp H s m m' A n):SeqAt.RcNeAt A s (.ref a1) (.ref a2) (!bJ (.tup l1) (.tup l2)):=by
 have e1:its1.toArray.size=l1.length:=by rw[List.size_toArray,<- y1.length,q1.length]
 have e2:its2.toArray.size=l2.length:=by rw[List.size_toArray,<- y2.length,q2.length]
 have hd:∀ d∈l1,d.dep<n:=fun d hd=>by
  obtain⟨j,hj⟩:=List.mem_iff_getElem?.mp hd
  have:=dk hj
  simp only[D.dep]at hn;omega
 have he:∀ e∈l2,e.dep<1000:=fun d hd=>by
  obtain⟨j,hj⟩:=List.mem_iff_getElem?.mp hd
  have:=dk hj
  simp only[D.dep]at hE;omega
 have z:=SeqAt.RcNeAt.tuples p1 p2 hu (mf ok q1 q2 y1 y2 fun d hm e hm2 v w u u' i1 i2 r1 r2=>rec d e v w u u' (hd d hm) (he e hm2) i1 i2 r1 r2)
 rw[e1,e2,pD]at z
 exact z
theorem nn (h:SeqAt.RcAt A s (.ref a1) (.ref a2) k)(hs:a1=a2->k=true):SeqAt.EqAt A s (.ref a1) (.ref a2) k:=by
 by_cases e:a1=a2
 ·subst e;rw[hs rfl];exact SeqAt.EqAt.same _
 ·exact SeqAt.EqAt.of_refs e h
end
theorem Is.shape (ok:HOk P w H s.heap){d:D}{v:V}{u:Value}(hE:d.dep<1000)(h:Is H m d v)(r:RelV v u):(d=.non/\u=.none)\/(∃ b,d=.bl b/\u=.bool b)\/(∃ i t,d=.int i/\u=.int i t)\/(∃ x t,d=.str x/\u=.str x t)\/
 (∃ l a vs its,d=.lst l/\v=.ref a/\u=.ref a/\IsAll H m l vs/\Vals vs its/\s.heap.IsList a its.toArray)\/∃ l a vs its,d=.tup l/\v=.ref a/\u=.ref a/\IsAll H m l vs/\Vals vs its/\s.heap.IsTuple a its.toArray:=by
 cases d with
 |non=>cases h;cases r;exact .inl ⟨rfl,rfl⟩
 |bl b=>cases h;cases r;exact .inr (.inl ⟨b,rfl,rfl⟩)
 |int i=>cases h;obtain⟨t,rfl⟩:=r;exact .inr (.inr (.inl ⟨i,t,rfl,rfl⟩))
 |str x=>cases h;obtain⟨t,rfl⟩:=r;exact .inr (.inr (.inr (.inl ⟨x,t,rfl,rfl⟩)))
 |lst l=>
  obtain⟨a,vs,rfl,g,q⟩:=h;cases r;obtain⟨its,y,p⟩:=yO ok g
  exact .inr (.inr (.inr (.inr (.inl ⟨l,a,vs,its,rfl,rfl,rfl,q,y,p⟩))))
 |tup l=>
  obtain⟨a,vs,rfl,g,q⟩:=h;cases r;obtain⟨its,y,p⟩:=yP ok g
  exact .inr (.inr (.inr (.inr (.inr ⟨l,a,vs,its,rfl,rfl,rfl,q,y,p⟩))))
 |dic k l=>exact absurd hE (by simp only[D.dep];omega)
theorem vX (ok:HOk P w H s.heap){A:Around}{n:Nat}(hu:A.units<cLine)(rec:jp H s m m' A n){d e:D}{v w':V}{u u':Value}(hn:d.dep<=n)(hN:n<1000)(hE:e.dep<1000)(h1:Is H m d v)(h2:Is H m' e w')(r1:RelV v u)(r2:RelV w' u') :
 SeqAt.RcAt A s u u' (bJ d e):=by
 rcases h1.shape ok (by omega) r1 with⟨rfl,rfl⟩|⟨b1,rfl,rfl⟩|⟨i1,t1,rfl,rfl⟩|⟨x1,t1,rfl,rfl⟩|⟨l1,a1,vs1,its1,rfl,rfl,rfl,q1,y1,p1⟩|⟨l1,a1,vs1,its1,rfl,rfl,rfl,q1,y1,p1⟩<;>rcases h2.shape ok hE r2 with⟨rfl,rfl⟩|⟨b2,rfl,rfl⟩|⟨i2,t2,rfl,rfl⟩|⟨x2,t2,rfl,rfl⟩|⟨l2,a2,vs2,its2,rfl,rfl,rfl,q2,y2,p2⟩|⟨l2,a2,vs2,its2,rfl,rfl,rfl,q2,y2,p2⟩
 exact .none_none;exact .none_bool b2;exact .none_int i2 t2;exact .none_str x2 t2;exact .none_list p2 hu;exact .none_tuple p2 hu;exact .bool_none b1;exact .bool_bool b1 b2;exact .bool_int b1 i2 t2;exact .bool_str b1 x2 t2;exact .bool_list b1 p2 hu;exact .bool_tuple b1 p2 hu;exact .int_none i1 t1;exact .int_bool i1 t1 b2;exact .int_int i1 t1 i2 t2;exact .int_str i1 t1 x2 t2;exact .int_list i1 t1 p2 hu;exact .int_tuple i1 t1 p2 hu;exact .str_none x1 t1;exact .str_bool x1 t1 b2;exact .str_int x1 t1 i2 t2;exact .str_str x1 t1 x2 t2;exact .str_list x1 t1 p2 hu;exact .str_tuple x1 t1 p2 hu;exact .list_none p1 hu;exact .list_bool b2 p1 hu;exact .list_int i2 t2 p1 hu;exact .list_str x2 t2 p1 hu;exact j7 ok hn hE hu q1 q2 y1 y2 p1 p2 rec;exact .list_tuple p1 p2 hu;exact .tuple_none p1 hu;exact .tuple_bool b2 p1 hu;exact .tuple_int i2 t2 p1 hu;exact .tuple_str x2 t2 p1 hu;exact .tuple_list p1 p2 hu;exact lD ok hn hE hu q1 q2 y1 y2 p1 p2 rec
theorem vY (ok:HOk P w H s.heap){A:Around}{n:Nat}(hu:A.units<cLine)(rec:jp H s m m' A n){d e:D}{v w':V}{u u':Value}(hn:d.dep<=n)(hN:n<1000)(hE:e.dep<1000)(h1:Is H m d v)(h2:Is H m' e w')(r1:RelV v u)(r2:RelV w' u') :
 SeqAt.RcNeAt A s u u' (!bJ d e):=by
 rcases h1.shape ok (by omega) r1 with⟨rfl,rfl⟩|⟨b1,rfl,rfl⟩|⟨i1,t1,rfl,rfl⟩|⟨x1,t1,rfl,rfl⟩|⟨l1,a1,vs1,its1,rfl,rfl,rfl,q1,y1,p1⟩|⟨l1,a1,vs1,its1,rfl,rfl,rfl,q1,y1,p1⟩<;>rcases h2.shape ok hE r2 with⟨rfl,rfl⟩|⟨b2,rfl,rfl⟩|⟨i2,t2,rfl,rfl⟩|⟨x2,t2,rfl,rfl⟩|⟨l2,a2,vs2,its2,rfl,rfl,rfl,q2,y2,p2⟩|⟨l2,a2,vs2,its2,rfl,rfl,rfl,q2,y2,p2⟩
 exact .none_none;exact .none_bool b2;exact .none_int i2 t2;exact .none_str x2 t2;exact .none_list p2 hu;exact .none_tuple p2 hu;exact .bool_none b1;exact .bool_bool b1 b2;exact .bool_int b1 i2 t2;exact .bool_str b1 x2 t2;exact .bool_list b1 p2 hu;exact .bool_tuple b1 p2 hu;exact .int_none i1 t1;exact .int_bool i1 t1 b2;exact .int_int i1 t1 i2 t2;exact .int_str i1 t1 x2 t2;exact .int_list i1 t1 p2 hu;exact .int_tuple i1 t1 p2 hu;exact .str_none x1 t1;exact .str_bool x1 t1 b2;exact .str_int x1 t1 i2 t2;exact .str_str x1 t1 x2 t2;exact .str_list x1 t1 p2 hu;exact .str_tuple x1 t1 p2 hu;exact .list_none p1 hu;exact .list_bool b2 p1 hu;exact .list_int i2 t2 p1 hu;exact .list_str x2 t2 p1 hu;exact mi ok hn hE hu q1 q2 y1 y2 p1 p2 rec;exact .list_tuple p1 p2 hu;exact .tuple_none p1 hu;exact .tuple_bool b2 p1 hu;exact .tuple_int i2 t2 p1 hu;exact .tuple_str x2 t2 p1 hu;exact .tuple_list p1 p2 hu;exact nk ok hn hE hu q1 q2 y1 y2 p1 p2 rec
theorem pE (ok:HOk P w H s.heap){A:Around}{n:Nat}(hu:A.units<cLine)(rec:jp H s m m' A n){d e:D}{v w':V}{u u':Value}(hn:d.dep<=n)(hN:n<1000)(hE:e.dep<1000)(h1:Is H m d v)(h2:Is H m' e w')(r1:RelV v u)(r2:RelV w' u') :
 SeqAt.EqAt A s u u' (bJ d e):=by
 rcases h1.shape ok (by omega) r1 with⟨rfl,rfl⟩|⟨b1,rfl,rfl⟩|⟨i1,t1,rfl,rfl⟩|⟨x1,t1,rfl,rfl⟩|⟨l1,a1,vs1,its1,rfl,rfl,rfl,q1,y1,p1⟩|⟨l1,a1,vs1,its1,rfl,rfl,rfl,q1,y1,p1⟩<;>rcases h2.shape ok hE r2 with⟨rfl,rfl⟩|⟨b2,rfl,rfl⟩|⟨i2,t2,rfl,rfl⟩|⟨x2,t2,rfl,rfl⟩|⟨l2,a2,vs2,its2,rfl,rfl,rfl,q2,y2,p2⟩|⟨l2,a2,vs2,its2,rfl,rfl,rfl,q2,y2,p2⟩
 exact .same _;exact .none_bool b2;exact .none_int i2 t2;exact .none_str x2 t2;exact .none_list p2 hu;exact .none_tuple p2 hu;exact .bool_none b1;exact .bool_bool b1 b2;exact .bool_int b1 i2 t2;exact .bool_str b1 x2 t2;exact .bool_list b1 p2 hu;exact .bool_tuple b1 p2 hu;exact .int_none i1 t1;exact .int_bool i1 t1 b2;exact .int_int i1 t1 i2 t2;exact .int_str i1 t1 x2 t2;exact .int_list i1 t1 p2 hu;exact .int_tuple i1 t1 p2 hu;exact .str_none x1 t1;exact .str_bool x1 t1 b2;exact .str_int x1 t1 i2 t2;exact .str_str x1 t1 x2 t2;exact .str_list x1 t1 p2 hu;exact .str_tuple x1 t1 p2 hu;exact .list_none p1 hu;exact .list_bool b2 p1 hu;exact .list_int i2 t2 p1 hu;exact .list_str x2 t2 p1 hu;exact nn (j7 ok hn hE hu q1 q2 y1 y2 p1 p2 rec) (fun z=>by subst z;rw[Is.inj h1 h2];exact bM _);exact .list_tuple p1 p2 hu;exact .tuple_none p1 hu;exact .tuple_bool b2 p1 hu;exact .tuple_int i2 t2 p1 hu;exact .tuple_str x2 t2 p1 hu;exact .tuple_list p1 p2 hu;exact nn (lD ok hn hE hu q1 q2 y1 y2 p1 p2 rec) (fun z=>by subst z;rw[Is.inj h1 h2];exact bM _)
theorem tm (ok:HOk P w H s.heap):∀(n:Nat)(A:Around){d e:D}{v w':V}{u u':Value},A.units+n<cLine->n<1000->d.dep<=n->e.dep<1000->Is H m d v->Is H m' e w'->RelV v u->RelV w' u'->SeqAt.EqAt A s u u' (bJ d e)
 |0,A,d,e,v,w',u,u',hu,hN,hn,hE,h1,h2,r1,r2=>pE ok (by omega) (fun d e v w u u' hd=>absurd hd (by omega)) hn hN hE h1 h2 r1 r2
 |n+1,A,d,e,v,w',u,u',hu,hN,hn,hE,h1,h2,r1,r2=>pE ok (by omega) (fun d e v w u u' hd he i1 i2 r1 r2=>tm ok n A.in1 (by show A.units+1+n<cLine;omega) (by omega) (by omega) he i1 i2 r1 r2) hn hN hE h1 h2 r1 r2
theorem tp (ok:HOk P w H s.heap){A:Around}{n:Nat}(hu:A.units+n<cLine)(hN:n<1000):jp H s m m' A n:=fun d e v w u u' hd he i1 i2 r1 r2=>
 tm ok (n-1) A.in1 (by show A.units+1+(n-1)<cLine;omega) (by omega) (by omega) he i1 i2 r1 r2
end
end L3
set_option autoImplicit false
namespace L3
open PySem PySem.Spec PyProof.Rows L2
noncomputable abbrev St:=L2.St
inductive Res (α:Type) where
 |stuck|ok (a:α)|exc (c:Str)
noncomputable def Res.bind {α β:Type}:Res α->(α->Res β)->Res β
 | .stuck,_=>.stuck
 | .exc c,_=>.exc c
 | .ok a,k=>k a
@[simp] theorem Res.bind_ok {α β:Type}(a:α)(k:α->Res β):(Res.ok a).bind k=k a:=rfl
inductive Sl where
 |val (d:D) (fr:Bool)|own (ds:List D) (fr:Bool)|tre (d:D)|mes (d:D)|pin (d:D)|dis (d:D)|kon (a:Addr)
noncomputable abbrev En:=List (Option Sl)
inductive R where
 |val (d:D) (fr:Bool) (al:List Nat)|new (ds:List D) (fr:Bool)|fre (d:D)
noncomputable def R.d:R->D
 | .val d _ _=>d
 | .new ds _=>.lst ds
 | .fre d=>d
noncomputable def R.fr:R->Bool
 | .val _ f _=>f
 | .new _ f=>f
 | .fre _=>true
noncomputable def R.al:R->List Nat
 | .val _ _ al=>al
 | .new _ _=>[]
 | .fre _=>[]
noncomputable def mkV (d:D)(fr:Bool)(al:List Nat):R:=if d.flat then .val d true [] else .val d fr al
structure Gd where
 H₀:Hp
 Ma:Addr->Prop
 Z:Addr->Prop
 root:Option V
noncomputable abbrev Bi (H:Hp)(Ma:Addr->Prop):Gd:=⟨H,Ma,fun _=>False,none⟩
noncomputable def MuZ (g:Gd)(H:Hp)(a:Addr):Prop:=Mu H a\/(g.Z a/\∃ o u,H a=some (.frz o u))
theorem MuZ.same {g:Gd}{H H':Hp}{a:Addr}(h:MuZ g H a)(s:∀ o,H a=some o->H' a=some o):MuZ g H' a:=h.imp (fun z=>z.same s) fun⟨z,o,u,e⟩=>⟨z,o,u,s _ e⟩
noncomputable def msk (g:Gd)(M:Addr->Prop)(fr:Bool)(a:Addr):Prop:=M a/\(fr=true->g.H₀ a=none)
noncomputable abbrev Pr:=Nat->Addr->Prop
noncomputable def vmsk (g:Gd)(M:Addr->Prop)(fr:Bool)(ρ:Pr)(al:List Nat)(a:Addr):Prop:=msk g M fr a\/∃ i,i∈al/\ρ i a
mutual
noncomputable def IsSh (H:Hp)(m:Addr->Prop):D->V->Prop
 | .tup ds,v=>∃ a vs,v=.ref a/\H a=some (.tup vs)/\IsShs H m ds vs
 | .lst _,v=>∃ a vs,v=.ref a/\H a=some (.lst vs)/\m a
 |_,_=>True
noncomputable def IsShs (H:Hp)(m:Addr->Prop):List D->List V->Prop
 | [],_=>True
 |d::ds,vs=>∃ v r,vs=v::r/\IsSh H m d v/\IsShs H m ds r
end
noncomputable def Dst (H:Hp)(T:Addr->Prop)(v:V):Prop:=∃(a:Addr)(vs:List V),v=.ref a/\T a/\(H a=some (.lst vs)\/(∃ kvs,H a=some (.dK kvs)/\vs=kvs.map Prod.snd)\/(H a=some (.dT [])/\vs=[]))/\V.ref a∉vs/\∀(i j:Nat)(b:Addr),vs[i]?=some (V.ref b)->vs[j]?=some (V.ref b)->i=j
theorem Dst.mono {H H':Hp}{T T':Addr->Prop}{v:V}(kp:∀ a o,T a->H a=some o->H' a=some o)(mm:∀ a,T a->T' a)(h:Dst H T v):Dst H' T' v:=by
 obtain⟨a,vs,e,ta,h1,h2⟩:=h
 exact⟨a,vs,e,mm a ta,h1.imp (kp a _ ta) (.imp (fun⟨kvs,q,z⟩=>⟨kvs,kp a _ ta q,z⟩) fun⟨q,z⟩=>⟨kp a _ ta q,z⟩),h2⟩
noncomputable def SlOk (g:Gd)(M T:Addr->Prop)(H:Hp)(v:V):Sl->Prop
 | .val d fr=>Is H (msk g M fr) d v
 | .own ds fr=>∃ a vs,v=.ref a/\H a=some (.lst vs)/\(∀ b,T b↔b=a)/\IsAll H (msk g M fr) ds vs
 | .tre d=>Is H T d v
 | .mes d=>IsSh H T d v
 | .pin d=>Is H T d v/\g.root=some v
 | .dis d=>Is H T d v/\Dst H T v
 | .kon a=>v=.ref a
noncomputable def Sl.isO:Sl->Bool
 | .val _ _=>false
 | .kon _=>false
 |_=>true
noncomputable def isOwn (env:En)(j:Nat):Bool:=match env[j]? with
 |some (some sl)=>sl.isO
 |_=>false
structure Rep (g:Gd) (M:Addr->Prop) (ρ:Pr) (env:En) (σ:St) (H:Hp):Prop where
 same:Same g.H₀ H
 froz:∀ a,M a->H a≠none
 inn:∀ a,M a->g.H₀ a=none\/g.Ma a
 fl:∀ a,M a->g.H₀ a=none->MuZ g H a
 slot:∀(i:Nat)(sl:Sl),env[i]?=some (some sl)->∃ v,σ[i]?=some (some v)/\SlOk g M (ρ i) H v sl
 priv:∀(i:Nat)(a:Addr),ρ i a->¬ M a/\g.H₀ a=none/\Mu H a
 apart:∀(i j:Nat)(a:Addr),ρ i a->ρ j a->i=j
 ow:∀(i:Nat)(a:Addr),ρ i a->isOwn env i=true
 len:env.length=σ.length
 zz:∀ a,g.Z a->H a≠none
noncomputable def ROk (g:Gd)(M:Addr->Prop)(ρ:Pr)(H0 H:Hp)(v:V):R->Prop
 | .val d fr al=>Is H (vmsk g M fr ρ al) d v
 | .new ds fr=>∃ a vs,v=.ref a/\H a=some (.lst vs)/\¬ M a/\H0 a=none/\(∀ i,¬ ρ i a)/\IsAll H (msk g M fr) ds vs
 | .fre d=>∃ T:Addr->Prop,(∀ a,T a->¬ M a/\H0 a=none/\Mu H a/\∀ i,¬ ρ i a)/\Is H T d v
structure Ext (M:Addr->Prop) (H:Hp) (M':Addr->Prop) (H':Hp):Prop where
 m:∀ a,M a->M' a
 h:Same H H'
 n:∀ a,M' a->M a\/H a=none
theorem Ext.refl (M:Addr->Prop)(H:Hp):Ext M H M H:=⟨fun _ z=>z,Same.refl H,fun _ z=>.inl z⟩
theorem Ext.trans {M M1 M2:Addr->Prop}{H H1 H2:Hp}(a:Ext M H M1 H1)(b:Ext M1 H1 M2 H2):Ext M H M2 H2:=
 ⟨fun x z=>b.m x (a.m x z),a.h.trans b.h,fun x z=>(b.n x z).elim (a.n x) fun w=>.inr (a.h.free w)⟩
section
variable {g:Gd}{M M':Addr->Prop}{ρ:Pr}{env:En}{σ:St}{H H' H0:Hp}{fr:Bool}{al:List Nat}
mutual
theorem IsSh.mono {m m':Addr->Prop}(kp:∀ a o,H a=some o->fixd o->H' a=some o)(kl:∀ a vs,m a->H a=some (.lst vs)->∃ vs',H' a=some (.lst vs'))(mm:∀ a,m a->m' a):∀{d:D}{v:V},IsSh H m d v->IsSh H' m' d v
 | .non,_,h=>h
 | .bl _,_,h=>h
 | .int _,_,h=>h
 | .str _,_,h=>h
 | .tup ds,_,h=>by
  obtain⟨a,vs,e,h1,h2⟩:=h
  exact⟨a,vs,e,kp a _ h1 True.intro,IsShs.mono kp kl mm h2⟩
 | .lst ds,_,h=>by
  obtain⟨a,vs,e,h1,h2⟩:=h
  obtain⟨vs',h3⟩:=kl a vs h2 h1
  exact⟨a,vs',e,h3,mm a h2⟩
 | .dic _ _,_,h=>h
theorem IsShs.mono {m m':Addr->Prop}(kp:∀ a o,H a=some o->fixd o->H' a=some o)(kl:∀ a vs,m a->H a=some (.lst vs)->∃ vs',H' a=some (.lst vs'))(mm:∀ a,m a->m' a):∀{ds:List D}{vs:List V},IsShs H m ds vs->IsShs H' m' ds vs
 | [],_,h=>h
 |d::ds,_,h=>by
  obtain⟨v,r,e,h1,h2⟩:=h
  exact⟨v,r,e,IsSh.mono kp kl mm h1,IsShs.mono kp kl mm h2⟩
end
theorem msk.mono (mm:∀ a,M a->M' a){a:Addr}(h:msk g M fr a):msk g M' fr a:=⟨mm a h.1,h.2⟩
theorem vmsk.mono (mm:∀ a,M a->M' a){a:Addr}(h:vmsk g M fr ρ al a):vmsk g M' fr ρ al a:=h.imp (msk.mono mm) id
theorem Is.ext {d:D}{v:V}(e:Ext M H M' H')(h:Is H (vmsk g M fr ρ al) d v):Is H' (vmsk g M' fr ρ al) d v:=
 h.mono (fun a o q _=>e.h a o q) fun _ _ _ z=>z.mono e.m
theorem IsAll.ext {ds:List D}{vs:List V}(e:Ext M H M' H')(h:IsAll H (vmsk g M fr ρ al) ds vs):IsAll H' (vmsk g M' fr ρ al) ds vs:=
 h.mono (fun a o q _=>e.h a o q) fun _ _ _ z=>z.mono e.m
theorem SlOk.weak {T:Addr->Prop}{v:V}{sl:Sl}(mm:∀ a,M a->M' a)(h:SlOk g M T H v sl):SlOk g M' T H v sl:=by
 cases sl with
 |val d fr=>exact Is.weak (fun b z=>msk.mono mm z) h
 |own ds fr=>
  obtain⟨b,vs,rfl,h1,h2,h4⟩:=h
  exact⟨b,vs,rfl,h1,h2,IsAll.weak (fun b z=>msk.mono mm z) h4⟩
 |tre d=>exact h
 |mes d=>exact h
 |pin d=>exact h
 |dis d=>exact h
 |kon a=>exact h
theorem SlOk.same {T:Addr->Prop}{v:V}{sl:Sl}(s:Same H H')(h:SlOk g M T H v sl):SlOk g M T H' v sl:=by
 cases sl with
 |val d fr=>exact Is.same s h
 |own ds fr=>
  obtain⟨b,vs,rfl,h1,h2,h4⟩:=h
  exact⟨b,vs,rfl,s _ _ h1,h2,IsAll.same s h4⟩
 |tre d=>exact Is.same s h
 |mes d=>exact IsSh.mono (fun a o e _=>s a o e) (fun a vs _ e=>⟨vs,s _ _ e⟩) (fun _ z=>z) h
 |pin d=>exact⟨Is.same s h.1,h.2⟩
 |dis d=>exact⟨Is.same s h.1,h.2.mono (fun a o _ e=>s a o e) fun _ z=>z⟩
 |kon a=>exact h
theorem Rep.moreT {T:Addr->Prop}(r:Rep g M ρ env σ H)(ht:∀ a,T a->Mu H a/\g.H₀ a=none/\∀ i,¬ ρ i a):Rep g (fun b=>M b\/T b) ρ env σ H where
 same:=r.same
 froz:=fun b hb=>hb.elim (r.froz b) fun e=>(ht b e).1.some
 inn:=fun b hb=>hb.elim (r.inn b) fun e=>.inl (ht b e).2.1
 fl:=fun b hb h0=>hb.elim (fun z=>r.fl b z h0) fun e=>.inl (ht b e).1
 slot:=fun i sl e=>by
  obtain⟨v,ev,s⟩:=r.slot i sl e
  exact⟨v,ev,SlOk.weak (fun _=>.inl) s⟩
 priv:=fun i a h=>⟨fun z=>z.elim (r.priv i a h).1 fun z=>(ht a z).2.2 i h,(r.priv i a h).2⟩
 apart:=r.apart
 ow:=r.ow
 len:=r.len
 zz:=r.zz
theorem Rep.more {a:Addr}{ws:List V}(r:Rep g M ρ env σ H)(ha:H a=some (.lst ws))(h0:g.H₀ a=none)(no:∀ i,¬ ρ i a):Rep g (fun b=>M b\/b=a) ρ env σ H:=
 r.moreT fun b e=>by subst e;exact⟨Mu.lst ha,h0,no⟩
theorem Rep.grow (r:Rep g M ρ env σ H)(s:Same H H'):Rep g M ρ env σ H' where
 same:=r.same.trans s
 froz:=fun a ha e=>by
  cases q:H a with
  |none=>exact r.froz a ha q
  |some o=>rw[s a o q]at e;cases e
 inn:=r.inn
 fl:=fun a ha h0=>(r.fl a ha h0).same fun o e=>s a o e
 slot:=fun i sl e=>by
  obtain⟨v,ev,k⟩:=r.slot i sl e
  exact⟨v,ev,SlOk.same s k⟩
 priv:=fun i a h=>let ⟨a1,a2,a3⟩:=r.priv i a h;⟨a1,a2,a3.same fun o e=>s a o e⟩
 apart:=r.apart
 ow:=r.ow
 len:=r.len
 zz:=fun a z e=>by
  cases q:H a with
  |none=>exact r.zz a z q
  |some o=>rw[s a o q]at e;cases e
theorem Rep.free {a:Addr}(r:Rep g M ρ env σ H)(h:H a=none):g.H₀ a=none/\¬ M a/\∀ i,¬ ρ i a:=by
 refine⟨r.same.free h,fun z=>r.froz a z h,fun i o=>?_⟩
 exact(r.priv i a o).2.2.some h
theorem bE {a:Addr}{o:HO}(h:H a=none):Same H (bz H a o):=fun b u e=>by rw[ax (ap e h)];exact e
theorem ROk.is {v:V}{r:R}{M0:Addr->Prop}(rep:Rep g M ρ env σ H)(x:Ext M0 H0 M H)(h0:Same g.H₀ H0)(h:ROk g M ρ H0 H v r):∃ M',Ext M0 H0 M' H/\(∀ a,M a->M' a)/\Rep g M' ρ env σ H/\Is H (vmsk g M' r.fr ρ r.al) r.d v:=by
 cases r with
 |val d fr al=>exact⟨M,x,fun _ z=>z,rep,h⟩
 |new ds fr=>
  obtain⟨a,vs,rfl,h1,h2,h3,h4,h5⟩:=h
  have z0:g.H₀ a=none:=h0.free h3
  exact⟨fun b=>M b\/b=a,⟨fun b z=>.inl (x.m b z),x.h,fun b z=>z.elim (x.n b) fun e=>.inr (e▸h3)⟩,fun _=>.inl,rep.more h1 z0 h4,a,vs,rfl,.inl ⟨h1,.inl ⟨.inr rfl,fun _=>z0⟩⟩,IsAll.weak (fun b z=>.inl (msk.mono (fun _=>.inl) z)) h5⟩
 |fre d=>
  obtain⟨T,ht,is⟩:=h
  exact⟨fun b=>M b\/T b,⟨fun b z=>.inl (x.m b z),x.h,fun b z=>z.elim (x.n b) fun e=>.inr (ht b e).2.1⟩,fun _=>.inl,rep.moreT fun a z=>let ⟨a1,a2,a3,a4⟩:=ht a z;⟨a3,h0.free a2,a4⟩,Is.weak (fun b z=>.inl ⟨.inr z,fun _=>h0.free (ht b z).2.1⟩) is⟩
theorem ROk.mkV {d:D}{v:V}(h:Is H (vmsk g M fr ρ al) d v):ROk g M ρ H0 H v (mkV d fr al):=by
 unfold L3.mkV
 split
 ·exact Is.flat (by assumption) h
 ·exact h
theorem ROk.back {v:V}{r:R}{H1:Hp}(s:Same H1 H0)(h:ROk g M ρ H0 H v r):ROk g M ρ H1 H v r:=by
 cases r with
 |val d fr al=>exact h
 |new ds fr=>
  obtain⟨a,vs,rfl,h1,h2,h3,h4,h5⟩:=h
  exact⟨a,vs,rfl,h1,h2,s.free h3,h4,h5⟩
 |fre d=>
  obtain⟨T,ht,is⟩:=h
  exact⟨T,fun a z=>let ⟨a1,a2,a3⟩:=ht a z;⟨a1,s.free a2,a3⟩,is⟩
end
noncomputable def vZ (mg:Str->Option Value)(E:XK)(g:Gd)(c:Str):Prop:=∀ cls dx H',mg c=some cls->Same g.H₀ H'->E cls dx H'
section
variable (mg:Str->Option Value)(E:XK)(g:Gd)(M:Addr->Prop)(ρ:Pr)(env:En)(σ:St)(H:Hp)
noncomputable def PostE (Q:VK):Res R->Prop
 | .stuck=>False
 | .exc c=>vZ mg E g c
 | .ok r=>∀ v M' H',Ext M H M' H'->Rep g M' ρ env σ H'->ROk g M' ρ H H' v r->Q v H'
noncomputable def bh (rs:List R):Bool:=rs.all R.fr
noncomputable def bu (rs:List R):List Nat:=rs.flatMap R.al
noncomputable def PostA (Q:List V->Hp->Prop):Res (List R)->Prop
 | .stuck=>False
 | .exc c=>vZ mg E g c
 | .ok rs=>∀ vs M' H',Ext M H M' H'->Rep g M' ρ env σ H'->IsAll H' (vmsk g M' (bh rs) ρ (bu rs)) (rs.map R.d) vs->Q vs H'
noncomputable def PostT (Q:Bool->Hp->Prop):Res Bool->Prop
 | .stuck=>False
 | .exc c=>vZ mg E g c
 | .ok b=>∀ M' H',Ext M H M' H'->Rep g M' ρ env σ H'->Q b H'
end
noncomputable def Snd (mg:Str->Option Value)(E:XK)(t:TE)(f:En->Res R):Prop:=∀ g M ρ env σ H Q,Rep g M ρ env σ H->PostE mg E g M ρ env σ H Q (f env)->t σ H Q
noncomputable def SndA (mg:Str->Option Value)(E:XK)(t:TA)(f:En->Res (List R)):Prop:=∀ g M ρ env σ H Q,Rep g M ρ env σ H->PostA mg E g M ρ env σ H Q (f env)->t σ H Q
noncomputable def SndT (mg:Str->Option Value)(E:XK)(t:TT)(f:En->Res Bool):Prop:=∀ g M ρ env σ H Q,Rep g M ρ env σ H->PostT mg E g M ρ env σ H Q (f env)->t σ H Q
noncomputable def PD (X:Cx)(E:XK)(e:Expr)(f:En->Res R):Prop:=∃ t,PE X e t/\Snd X.mg E t f
noncomputable def rj (X:Cx)(E:XK)(es:List Expr)(f:En->Res (List R)):Prop:=∃ t,PA X es t/\SndA X.mg E t f
noncomputable def tq (X:Cx)(E:XK)(e:Expr)(f:En->Res Bool):Prop:=∃ t,PT X e t/\SndT X.mg E t f
noncomputable def PWD (X:Cx)(E:XK)(e:Expr)(f:En->Res Bool):Prop:=∃ t,PW X e t/\SndT X.mg E t f
theorem PWD.pt {X:Cx}{E:XK}{e:Expr}{f:En->Res Bool}(h:PWD X E e f):tq X E e f:=let ⟨t,a,b⟩:=h;⟨t,a.pt,b⟩
section
variable {mg:Str->Option Value}{E:XK}{g:Gd}{M M':Addr->Prop}{ρ:Pr}{env:En}{σ:St}{H H':Hp}
theorem PostE.ext {Q:VK}{r:Res R}(e:Ext M H M' H')(p:PostE mg E g M ρ env σ H Q r):PostE mg E g M' ρ env σ H' Q r:=by
 cases r with
 |stuck=>exact p
 |exc c=>exact p
 |ok r=>exact fun v M2 H2 e2 rep2 ro=>p v M2 H2 (e.trans e2) rep2 (ro.back e.h)
theorem PostA.ext {Q:List V->Hp->Prop}{r:Res (List R)}(e:Ext M H M' H')(p:PostA mg E g M ρ env σ H Q r):PostA mg E g M' ρ env σ H' Q r:=by
 cases r with
 |stuck=>exact p
 |exc c=>exact p
 |ok r=>exact fun v M2 H2 e2=>p v M2 H2 (e.trans e2)
theorem PostT.ext {Q:Bool->Hp->Prop}{r:Res Bool}(e:Ext M H M' H')(p:PostT mg E g M ρ env σ H Q r):PostT mg E g M' ρ env σ H' Q r:=by
 cases r with
 |stuck=>exact p
 |exc c=>exact p
 |ok r=>exact fun M2 H2 e2=>p M2 H2 (e.trans e2)
theorem PostE.val {Q:VK}{d:D}{fr:Bool}{al:List Nat}{v:V}(p:PostE mg E g M ρ env σ H Q (.ok (mkV d fr al)))(rep:Rep g M ρ env σ H)(h:Is H (vmsk g M fr ρ al) d v):Q v H:=
 p v M H (Ext.refl M H) rep (ROk.mkV h)
theorem PostE.new {Q:VK}{ds:List D}{fr:Bool}{vs:List V}{a:Addr}(p:PostE mg E g M ρ env σ H Q (.ok (.new ds fr)))(rep:Rep g M ρ env σ H)(ha:H a=none)(h:IsAll H (msk g M fr) ds vs):Q (.ref a) (bz H a (.lst vs)):=by
 have s:Same H (bz H a (.lst vs)):=bE ha
 obtain⟨h0,hm,ho⟩:=rep.free ha
 exact p _ M _ ⟨fun _ z=>z,s,fun _ z=>.inl z⟩ (rep.grow s) ⟨a,vs,rfl,aP,hm,ha,ho,IsAll.same s h⟩
theorem PostE.tup {Q:VK}{ds:List D}{fr:Bool}{al:List Nat}{vs:List V}{a:Addr}(p:PostE mg E g M ρ env σ H Q (.ok (mkV (.tup ds) fr al)))(rep:Rep g M ρ env σ H)(ha:H a=none)(h:IsAll H (vmsk g M fr ρ al) ds vs):Q (.ref a) (bz H a (.tup vs)):=by
 have s:Same H (bz H a (.tup vs)):=bE ha
 exact p _ M _ ⟨fun _ z=>z,s,fun _ z=>.inl z⟩ (rep.grow s) (ROk.mkV ⟨a,vs,rfl,aP,IsAll.same s h⟩)
theorem Snd.one {t:TE}{f:En->Res R}(h:Snd mg E t f)(rep:Rep g M ρ env σ H){α:Type}{K:R->Res α}{P:(M:Addr->Prop)->(H:Hp)->Res α->Prop}{Q:VK}
 (hp:P M H ((f env).bind K)) (hs:∀ M H,P M H .stuck->False) (hx:∀ M H c,P M H (.exc c)->vZ mg E g c) (he:∀ M H M' H' r,Ext M H M' H'->P M H r->P M' H' r)
 (k:∀ r v M' H',Ext M H M' H'->Rep g M' ρ env σ H'->Is H' (vmsk g M' r.fr ρ r.al) r.d v->P M' H' (K r)->Q v H'):t σ H Q:=by
 refine h g M ρ env σ H Q rep ?_
 cases e:f env with
 |stuck=>rw[e]at hp;exact hs _ _ hp
 |exc c=>rw[e]at hp;exact hx _ _ c hp
 |ok r=>
  rw[e]at hp
  intro v M1 H1 e1 rep1 ro
  obtain⟨M2,e2,_,rep2,is⟩:=ro.is rep1 e1 rep.same
  exact k r v M2 H1 e2 rep2 is (he _ _ _ _ _ e2 hp)
theorem Snd.oneE {t:TE}{f:En->Res R}(h:Snd mg E t f)(rep:Rep g M ρ env σ H){K:R->Res R}{Q':VK}{Q:VK}(hp:PostE mg E g M ρ env σ H Q' ((f env).bind K))
 (k:∀ r v M' H',Ext M H M' H'->Rep g M' ρ env σ H'->Is H' (vmsk g M' r.fr ρ r.al) r.d v->PostE mg E g M' ρ env σ H' Q' (K r)->Q v H'):t σ H Q:=
 h.one rep (P:=fun M H r=>PostE mg E g M ρ env σ H Q' r) hp (fun _ _ z=>z) (fun _ _ _ z=>z) (fun _ _ _ _ _ e p=>p.ext e) k
theorem Snd.oneA {t:TE}{f:En->Res R}(h:Snd mg E t f)(rep:Rep g M ρ env σ H){K:R->Res (List R)}{Q':List V->Hp->Prop}{Q:VK}(hp:PostA mg E g M ρ env σ H Q' ((f env).bind K))
 (k:∀ r v M' H',Ext M H M' H'->Rep g M' ρ env σ H'->Is H' (vmsk g M' r.fr ρ r.al) r.d v->PostA mg E g M' ρ env σ H' Q' (K r)->Q v H'):t σ H Q:=
 h.one rep (P:=fun M H r=>PostA mg E g M ρ env σ H Q' r) hp (fun _ _ z=>z) (fun _ _ _ z=>z) (fun _ _ _ _ _ e p=>p.ext e) k
theorem Snd.oneT {t:TE}{f:En->Res R}(h:Snd mg E t f)(rep:Rep g M ρ env σ H){K:R->Res Bool}{Q':Bool->Hp->Prop}{Q:VK}(hp:PostT mg E g M ρ env σ H Q' ((f env).bind K))
 (k:∀ r v M' H',Ext M H M' H'->Rep g M' ρ env σ H'->Is H' (vmsk g M' r.fr ρ r.al) r.d v->PostT mg E g M' ρ env σ H' Q' (K r)->Q v H'):t σ H Q:=
 h.one rep (P:=fun M H r=>PostT mg E g M ρ env σ H Q' r) hp (fun _ _ z=>z) (fun _ _ _ z=>z) (fun _ _ _ _ _ e p=>p.ext e) k
theorem Snd.twoE {ta tb:TE}{fa fb:En->Res R}(ha:Snd mg E ta fa)(hb:Snd mg E tb fb)(rep:Rep g M ρ env σ H){K:R->R->Res R}{Q':VK}{S:V->V->Hp->Prop}
 (hp:PostE mg E g M ρ env σ H Q' ((fa env).bind fun ra=>(fb env).bind fun rb=>K ra rb))
 (k:∀ ra rb x y M' H',Rep g M' ρ env σ H'->Is H' (vmsk g M' ra.fr ρ ra.al) ra.d x->Is H' (vmsk g M' rb.fr ρ rb.al) rb.d y->PostE mg E g M' ρ env σ H' Q' (K ra rb)->S x y H') :
 ta σ H fun x H1=>tb σ H1 fun y H2=>S x y H2:=
 ha.oneE rep hp fun ra x M1 H1 e1 rep1 i1 p1=>hb.oneE rep1 p1 fun rb y M2 H2 e2 rep2 i2 p2=>k ra rb x y M2 H2 rep2 (i1.ext e2) i2 p2
end
end L3
namespace L3
open PySem PySem.Spec PyProof.Rows L2
noncomputable def lim:Nat:=1000000
theorem db {n:Nat}(h:n<=lim):n<=sizeLine:=by rw[sizeLine_eq];unfold lim at h;omega
theorem mj {n:Nat}(h:n<lim):n<sizeLine:=by rw[sizeLine_eq];unfold lim at h;omega
noncomputable def kZ (ds:List D)(fr:Bool)(al:List Nat):R:=if D.flats ds then .new ds true else if al.isEmpty then .new ds fr else .val (.lst ds) fr al
section
variable {mg:Str->Option Value}{E:XK}{g:Gd}{M M':Addr->Prop}{ρ:Pr}{env:En}{σ:St}{H H':Hp}
theorem vmsk.nil {fr:Bool}{a:Addr}(h:vmsk g M fr ρ [] a):msk g M fr a:=h.elim id fun⟨_,z,_⟩=>absurd z (by simp)
theorem PostE.lst {Q:VK}{ds:List D}{fr:Bool}{al:List Nat}{vs:List V}{a:Addr}(p:PostE mg E g M ρ env σ H Q (.ok (kZ ds fr al)))(rep:Rep g M ρ env σ H)(ha:H a=none)(h:IsAll H (vmsk g M fr ρ al) ds vs):Q (.ref a) (bz H a (.lst vs)):=by
 unfold kZ at p
 by_cases hf:D.flats ds=true
 ·rw[if_pos hf]at p
  exact p.new rep ha (IsAll.flat hf h)
 ·rw[if_neg hf]at p
  cases al with
  |nil=>
   exact PostE.new (p:=p) rep ha (IsAll.weak (fun _ z=>z.nil) h)
  |cons i al=>
   have p:PostE mg E g M ρ env σ H Q (.ok (.val (.lst ds) fr (i::al))):=p
   have s:Same H (bz H a (.lst vs)):=bE ha
   obtain⟨h0,hm,ho⟩:=rep.free ha
   refine p _ (fun b=>M b\/b=a) _ ⟨fun _=>.inl,s,fun b z=>z.imp id fun(e:b=a)=>by rw[e];exact ha⟩ ((rep.grow s).more aP h0 ho) ⟨a,vs,rfl,.inl ⟨aP,.inl ⟨.inr rfl,fun _=>h0⟩⟩,?_⟩
   exact(IsAll.same s h).weak fun b z=>z.mono fun _=>.inl
theorem Is.rd {m:Addr->Prop}{ds:List D}{v:V}(h:Is H m (.lst ds) v):∃ a vs,v=.ref a/\Rd H a (.lst vs)/\IsAll H m ds vs:=by
 obtain⟨a,vs,e,h1,h2⟩:=h
 exact⟨a,vs,e,h1.imp (·.1) fun⟨o,z,_⟩=>⟨o,z⟩,h2⟩
end
section
variable {X:Cx}{E:XK}
noncomputable def ah (i:Nat):En->Res R:=fun env=>match env[i]? with
 |some (some (.val d fr))=>.ok (mkV d fr [])
 |some (some (.own ds fr))=>.ok (.val (.lst ds) fr [i])
 |some (some (.tre d))=>.ok (.val d true [i])
 |some (some (.pin d))=>.ok (.val d true [i])
 |some (some (.dis d))=>.ok (.val d true [i])
 |_=>.stuck
theorem pF {mg:Str->Option Value}{i:Nat}:Snd mg E (kX i) (ah i):=by
 intro g M ρ env σ H Q rep p
 unfold ah at p
 cases e1:env[i]? with
 |none=>rw[e1]at p;exact p.elim
 |some o=>
  cases o with
  |none=>rw[e1]at p;exact p.elim
  |some sl=>
   obtain⟨v,ev,k⟩:=rep.slot i sl e1
   rw[e1]at p
   refine⟨v,ev,?_⟩
   cases sl with
   |val d fr=>exact PostE.val p rep (Is.weak (fun _ z=>.inl z) k)
   |own ds fr=>
    obtain⟨a,vs,rfl,h1,h2,h4⟩:=k
    exact p _ M H (Ext.refl M H) rep ⟨a,vs,rfl,.inl ⟨h1,.inr ⟨i,by simp,(h2 a).mpr rfl⟩⟩,IsAll.weak (fun _ z=>.inl z) h4⟩
   |tre d=>exact p _ M H (Ext.refl M H) rep (Is.weak (fun a z=>.inr ⟨i,by simp,z⟩) k)
   |mes d=>exact p.elim
   |pin d=>exact p _ M H (Ext.refl M H) rep (Is.weak (fun a z=>.inr ⟨i,by simp,z⟩) k.1)
   |dis d=>exact p _ M H (Ext.refl M H) rep (Is.weak (fun a z=>.inr ⟨i,by simp,z⟩) k.1)
   |kon a=>exact p.elim
theorem yQ {i:Nat}{e:Expr}(h:PE X e (kX i)):PD X E e (ah i):=⟨_,h,pF⟩
noncomputable def vC (d:D):En->Res R:=fun _=>.ok (.val d true [])
theorem tu {mg:Str->Option Value}{d:D}{v:V}(h:∀ H m,Is H m d v):Snd mg E (tC v) (vC d):=fun g M ρ env σ H Q rep p=>p v M H (Ext.refl M H) rep (h H _)
theorem af {i j pos}:PD X E (.Constant (.int i) j pos) (vC (.int i)):=⟨_,yf,tu fun _ _=>rfl⟩
theorem di {b j pos}:PD X E (.Constant (.bool b) j pos) (vC (.bl b)):=⟨_,AO,tu fun _ _=>rfl⟩
theorem aI {x j pos}:PD X E (.Constant (.str x) j pos) (vC (.str x)):=⟨_,yg,tu fun _ _=>rfl⟩
noncomputable def v2 (op:R->R->Res R)(fa fb:En->Res R):En->Res R:=fun env=>(fa env).bind fun ra=>(fb env).bind fun rb=>op ra rb
noncomputable def j8 (X:Cx)(E:XK)(f:Value->Value->Sem Value)(op:R->R->Res R):Prop:=∃ r:R2,OpR X f r/\
 ∀ g M ρ env σ H Q ra rb x y,Rep g M ρ env σ H->Is H (vmsk g M ra.fr ρ ra.al) ra.d x->Is H (vmsk g M rb.fr ρ rb.al) rb.d y->PostE X.mg E g M ρ env σ H Q (op ra rb)->r x y H Q
theorem az {a b:Expr}{fa fb:En->Res R}{op:Operator}{k:R->R->Res R}{pos:Pos}(ho:j8 X E (binaryOp op) k)(ha:PD X E a fa)(hb:PD X E b fb):PD X E (.BinOp a op b pos) (v2 k fa fb):=by
 obtain⟨r,h1,h2⟩:=ho
 obtain⟨ta,pa,sa⟩:=ha
 obtain⟨tb,pb,sb⟩:=hb
 exact⟨_,AY h1 pa pb,fun g M ρ env σ H Q rep p=>sa.twoE sb rep p fun ra rb x y M' H' rep' i1 i2 p'=>h2 g M' ρ env σ H' Q ra rb x y rep' i1 i2 p'⟩
theorem iW {a b:Expr}{fa fb:En->Res R}{op:CmpOp}{k:R->R->Res R}{pos:Pos}(ho:j8 X E (compareOp op) k)(ha:PD X E a fa)(hb:PD X E b fb)(hm:behindInMarks op b=false):PD X E (.Compare a [op] [b] pos) (v2 k fa fb):=by
 obtain⟨r,h1,h2⟩:=ho
 obtain⟨ta,pa,sa⟩:=ha
 obtain⟨tb,pb,sb⟩:=hb
 exact⟨_,vE h1 pa pb hm,fun g M ρ env σ H Q rep p=>sa.twoE sb rep p fun ra rb x y M' H' rep' i1 i2 p'=>h2 g M' ρ env σ H' Q ra rb x y rep' i1 i2 p'⟩
noncomputable def oI (C:Int->Int->Bool)(k:Int->Int->D)(a b:R):Res R:=match a.d,b.d with
 | .int i,.int j=>if C i j then .ok (.val (k i j) true []) else .stuck
 |_,_=>.stuck
theorem nq {f:Value->Value->Sem Value}{C:Int->Int->Prop}{kV:Int->Int->V}(c:Int->Int->Bool)(k:Int->Int->D)(ho:OpR X f (rI C kV))(hc:∀ i j,c i j=true->C i j)(hk:∀ H m i j,Is H m (k i j) (kV i j)):j8 X E f (oI c k):=by
 refine⟨_,ho,fun g M ρ env σ H Q ra rb x y rep i1 i2 p=>?_⟩
 unfold oI at p
 cases e1:ra.d with
 |int i=>
  rw[e1]at p i1
  cases e2:rb.d with
  |int j=>
   rw[e2]at p i2
   cases i1;cases i2
   by_cases h:c i j=true
   ·simp only[h,if_true]at p
    exact⟨i,j,rfl,rfl,hc i j h,p _ M H (Ext.refl M H) rep (hk H _ i j)⟩
   ·simp only[h]at p
    exact p.elim
  |_=>rw[e2]at p;exact p.elim
 |_=>rw[e1]at p;exact p.elim
theorem ml {f:Value->Value->Sem Value}{kV:Int->Int->V}(k:Int->Int->D)(ho:OpR X f (xy kV))(hk:∀ H m i j,Is H m (k i j) (kV i j)):j8 X E f (oI (fun _ _=>true) k):=by
 refine nq (C:=fun _ _=>True) (kV:=kV) _ k (fun pins s σ H x y v u Q I rx ry h=>?_) (fun _ _ _=>True.intro) hk
 obtain⟨i,j,a,b,_,q⟩:=h
 exact ho pins s σ H x y v u Q I rx ry ⟨i,j,a,b,q⟩
noncomputable def nr:R->R->Res R:=oI (fun _ _=>true) fun i j=>.int (i-j)
noncomputable def tw (i j:Int):Bool:=(decide (-(2 ^ 64)<i)&&decide (i<2 ^ 64)) || (decide (-(2 ^ 64)<j)&&decide (j<2 ^ 64))
noncomputable def gm:R->R->Res R:=oI tw fun i j=>.int (i*j)
noncomputable def tz:R->R->Res R:=oI (fun _ j=>decide (0<j)&&decide (j<1073741824)) fun i j=>.int (i / j)
noncomputable def k9:R->R->Res R:=oI (fun _ j=>decide (0<j)) fun i j=>.int (i % j)
theorem iX:j8 X E (binaryOp .Sub) nr:=ml _ yw fun _ _ _ _=>rfl
theorem ci:j8 X E (binaryOp .Mult) gm:=nq _ _ yx (fun i j h=>by
 simp only[tw,Bool.or_eq_true,Bool.and_eq_true,decide_eq_true_eq]at h
 exact h) fun _ _ _ _=>rfl
theorem oD:j8 X E (binaryOp .FloorDiv) tz:=nq _ _ vD (fun i j h=>by
 simp only[Bool.and_eq_true,decide_eq_true_eq]at h
 exact h) fun _ _ _ _=>rfl
theorem gn:j8 X E (binaryOp .Mod) k9:=nq _ _ yz (fun i j h=>by simpa using h) fun _ _ _ _=>rfl
noncomputable def CC:R->R->Res R:=oI (fun _ _=>true) fun i j=>.bl (decide (i<j))
noncomputable def Da:R->R->Res R:=oI (fun _ _=>true) fun i j=>.bl (decide (i<=j))
noncomputable def AL:R->R->Res R:=oI (fun _ _=>true) fun i j=>.bl (decide (j<=i))
theorem xD:j8 X E (compareOp .Lt) CC:=ml _ A1 fun _ _ _ _=>rfl
theorem Bj:j8 X E (compareOp .LtE) Da:=ml _ A2 fun _ _ _ _=>rfl
theorem pG:j8 X E (compareOp .GtE) AL:=ml _ A3 fun _ _ _ _=>rfl
theorem Inv.rdL {pins:List (Addr×Obj)}{σ:St}{H:Hp}{s:Shared}{l:Addr}{xs:List V}(I:L2.Inv X pins σ H s)(h:Rd H l (.lst xs)) :
 xs.length<=sizeLine/\∃(its:List Value)(n:Nat),Vals xs its/\xs.length=its.length/\s.heap.get? l=some { cls:=.type "list",data:=.seq its.toArray n }:=by
 obtain⟨z,its,n,r,e⟩:=(h.ok I.hok:ObjOk X.prog X.w H s.heap l (.lst xs))
 exact⟨z,its,n,r,r.length,e⟩
noncomputable def Bk:R2:=fun x y H Q=>∃ l b xs zs,x=.ref l/\y=.ref b/\Rd H l (.lst xs)/\Rd H b (.lst zs)/\xs.length+zs.length<=sizeLine/\∀ p,H p=none->Q (.ref p) (bz H p (.lst (xs++zs)))
theorem op_catS:OpR X (binaryOp .Add) Bk:=by
 intro pins s σ H x y v u Q I rx ry h
 obtain⟨l,b,xs,zs,rfl,rfl,hH,hB,hz,q⟩:=h
 cases rx
 cases ry
 obtain⟨z,its,n,r,hl,e⟩:=Inv.rdL I hH
 obtain⟨z2,its2,n2,r2,hl2,e2⟩:=Inv.rdL I hB
 refine PySem.P.add_list e e2 ?_ (by rw[List.size_toArray,List.size_toArray];omega)
 have ea:its.toArray++its2.toArray=(its++its2).toArray:=by simp
 rw[ea]
 exact⟨.ref _,_,I.lnew (t':=s.toks) (r.append r2) (by rw[List.length_append];omega),rfl,q _ I.fresh⟩
noncomputable def ba (a b:R):Res R:=match a.d,b.d with
 | .int i,.int j=>.ok (.val (.int (i+j)) true [])
 | .lst xs,.lst ys=>if xs.length+ys.length<=lim then .ok (kZ (xs++ys) (a.fr&&b.fr) (a.al++b.al)) else .stuck
 | .tup xs,.tup ys=>if xs.length+ys.length<=lim/\xs≠[] then .ok (mkV (.tup (xs++ys)) (a.fr&&b.fr) (a.al++b.al)) else .stuck
 | .str x,.str y=>if x.length+y.length<=lim then .ok (.val (.str (x++y)) true []) else .stuck
 |_,_=>.stuck
section
variable {g:Gd}{M:Addr->Prop}{ρ:Pr}{env:En}{σ:St}
theorem vmsk.l {f1 f2:Bool}{l1 l2:List Nat}{a:Addr}(h:vmsk g M f1 ρ l1 a):vmsk g M (f1&&f2) ρ (l1++l2) a:=
 h.imp (fun z=>⟨z.1,fun e=>z.2 (by cases f1<;>simp_all)⟩) fun⟨i,hi,o⟩=>⟨i,by simp[hi],o⟩
theorem vmsk.r {f1 f2:Bool}{l1 l2:List Nat}{a:Addr}(h:vmsk g M f2 ρ l2 a):vmsk g M (f1&&f2) ρ (l1++l2) a:=
 h.imp (fun z=>⟨z.1,fun e=>z.2 (by cases f2<;>simp_all)⟩) fun⟨i,hi,o⟩=>⟨i,by simp[hi],o⟩
end
theorem aM:j8 X E (binaryOp .Add) ba:=by
 refine⟨_,op_add.or (op_catS.or (op_catT.or om)),fun g M ρ env σ H Q ra rb x y rep i1 i2 p=>?_⟩
 unfold ba at p
 cases e1:ra.d with
 |int i=>
  rw[e1]at p i1
  cases e2:rb.d with
  |int j=>
   rw[e2]at p i2
   cases i1;cases i2
   exact .inl ⟨i,j,rfl,rfl,p _ M H (Ext.refl M H) rep rfl⟩
  |_=>rw[e2]at p;exact p.elim
 |lst xs=>
  rw[e1]at p i1
  cases e2:rb.d with
  |lst ys=>
   rw[e2]at p i2
   obtain⟨a,vs,rfl,h1,h2⟩:=i1.rd
   obtain⟨b,ws,rfl,h3,h4⟩:=i2.rd
   by_cases hz:xs.length+ys.length<=lim
   ·simp only[hz,if_true]at p
    refine .inr (.inl ⟨a,b,vs,ws,rfl,rfl,h1,h3,by rw[h2.length,h4.length];exact db hz,fun q hq=>?_⟩)
    exact p.lst rep hq ((h2.weak fun _ z=>z.l).append (h4.weak fun _ z=>z.r))
   ·simp only[hz,if_false]at p
    exact p.elim
  |_=>rw[e2]at p;exact p.elim
 |tup xs=>
  rw[e1]at p i1
  cases e2:rb.d with
  |tup ys=>
   rw[e2]at p i2
   obtain⟨a,vs,rfl,h1,h2⟩:=i1
   obtain⟨b,ws,rfl,h3,h4⟩:=i2
   dsimp only at p
   by_cases hz:xs.length+ys.length<=lim/\xs≠[]
   ·rw[if_pos hz]at p
    have n1:vs≠[]:=fun z=>hz.2 (by have:=h2.length;rw[z]at this;exact List.eq_nil_of_length_eq_zero this.symm)
    refine .inr (.inr (.inl ⟨a,b,vs,ws,rfl,rfl,SqT.of h1,SqT.of h3,n1,by rw[h2.length,h4.length];exact db hz.1,fun z=>?_,fun _ q hq=>?_⟩))
    ·have ey:ys=[]:=by have:=h4.length;rw[z]at this;exact List.eq_nil_of_length_eq_zero this.symm
     rw[ey,List.append_nil]at p
     exact p.val rep (Is.weak (d:=.tup xs) (fun _ z=>z.l) ⟨a,vs,rfl,h1,h2⟩)
    ·exact p.tup rep hq ((h2.weak fun _ z=>z.l).append (h4.weak fun _ z=>z.r))
   ·rw[if_neg hz]at p
    exact p.elim
  |_=>rw[e2]at p;exact p.elim
 |str xs=>
  rw[e1]at p i1
  cases e2:rb.d with
  |str ys=>
   rw[e2]at p i2
   cases i1;cases i2
   by_cases hz:xs.length+ys.length<=lim
   ·simp only[hz,if_true]at p
    exact .inr (.inr (.inr ⟨xs,ys,rfl,rfl,db hz,p _ M H (Ext.refl M H) rep rfl⟩))
   ·simp only[hz,if_false]at p
    exact p.elim
  |_=>rw[e2]at p;exact p.elim
 |_=>rw[e1]at p;exact p.elim
noncomputable def d8 (a b:R):Res R:=if a.d.dep<=50/\b.d.dep<=50 then .ok (.val (.bl (bJ a.d b.d)) true []) else .stuck
noncomputable def mn (a b:R):Res R:=if a.d.dep<=50/\b.d.dep<=50 then .ok (.val (.bl (!bJ a.d b.d)) true []) else .stuck
noncomputable def Db:R2:=fun x y H Q=>∃ d e m m',Is H m d x/\Is H m' e y/\(d.dep<=50/\e.dep<=50)/\Q (.bl (bJ d e)) H
noncomputable def Dc:R2:=fun x y H Q=>∃ d e m m',Is H m d x/\Is H m' e y/\(d.dep<=50/\e.dep<=50)/\Q (.bl (!bJ d e)) H
theorem yR (hu:X.A.units+64<cLine):OpR X (compareOp .Eq) Db:=by
 intro pins s σ H x y v u Q I rx ry h
 obtain⟨d,e,m,m',h1,h2,hd,q⟩:=h
 exact vX I.hok (by omega) (tp I.hok (A:=X.A) (n:=50) (by omega) (by omega)) hd.1 (by omega) (by omega) h1 h2 rx ry X.prog X.w X.xe _ ⟨.bl _,H,I,rfl,q⟩
theorem yS (hu:X.A.units+64<cLine):OpR X (compareOp .NotEq) Dc:=by
 intro pins s σ H x y v u Q I rx ry h
 obtain⟨d,e,m,m',h1,h2,hd,q⟩:=h
 exact vY I.hok (by omega) (tp I.hok (A:=X.A) (n:=50) (by omega) (by omega)) hd.1 (by omega) (by omega) h1 h2 rx ry X.prog X.w X.xe _ ⟨.bl _,H,I,rfl,q⟩
theorem be (hu:X.A.units+64<cLine):j8 X E (compareOp .Eq) d8:=by
 refine⟨_,yR hu,fun g M ρ env σ H Q ra rb x y rep i1 i2 p=>?_⟩
 unfold d8 at p
 by_cases h:ra.d.dep<=50/\rb.d.dep<=50
 ·rw[if_pos h]at p
  exact⟨_,_,_,_,i1,i2,h,p _ M H (Ext.refl M H) rep rfl⟩
 ·rw[if_neg h]at p;exact p.elim
theorem dE (hu:X.A.units+64<cLine):j8 X E (compareOp .NotEq) mn:=by
 refine⟨_,yS hu,fun g M ρ env σ H Q ra rb x y rep i1 i2 p=>?_⟩
 unfold mn at p
 by_cases h:ra.d.dep<=50/\rb.d.dep<=50
 ·rw[if_pos h]at p
  exact⟨_,_,_,_,i1,i2,h,p _ M H (Ext.refl M H) rep rfl⟩
 ·rw[if_neg h]at p;exact p.elim
end
end L3
namespace L3
open PySem PySem.Spec PyProof.Rows L2
section
variable {X:Cx}{E:XK}
noncomputable def D.isNon:D->Bool
 | .non=>true
 |_=>false
noncomputable def yT (fa:En->Res R):En->Res R:=fun env=>(fa env).bind fun ra=>match ra.d with
 | .bl b=>.ok (.val (.bl (!b)) true [])
 |_=>.stuck
noncomputable def tB (fa fb:En->Res R):En->Res R:=fun env=>(fa env).bind fun ra=>match ra.d with
 | .bl true=>fb env
 | .bl false=>.ok (.val (.bl false) true [])
 |_=>.stuck
theorem yU {a:Expr}{fa:En->Res R}{pos:Pos}(ha:PD X E a fa):PD X E (.UnaryOp .Not a pos) (yT fa):=by
 obtain⟨ta,pa,sa⟩:=ha
 refine⟨_,yn pa,fun g M ρ env σ H Q rep p=>sa.oneE rep p fun r v M' H' e rep' i p'=>?_⟩
 cases q:r.d with
 |bl b=>
  rw[q]at i
  simp only[q]at p'
  cases i
  exact⟨b,rfl,p' _ M' H' (Ext.refl _ _) rep' rfl⟩
 |_=>simp only[q]at p';exact p'.elim
theorem oE {op:BoolOp}{a:Expr}{fa:En->Res R}{pos:Pos}(ha:PD X E a fa):PD X E (.BoolOp op [a] pos) fa:=let ⟨t,pa,sa⟩:=ha;⟨t,yk pa,sa⟩
theorem oF {a b:Expr}{bg:List Expr}{fa fb:En->Res R}{pos:Pos}(ha:PD X E a fa)(hb:PD X E (.BoolOp .And (b::bg) pos) fb):PD X E (.BoolOp .And (a::b::bg) pos) (tB fa fb):=by
 obtain⟨ta,pa,sa⟩:=ha
 obtain⟨tb,pb,sb⟩:=hb
 refine⟨_,ym pa pb,fun g M ρ env σ H Q rep p=>sa.oneE rep p fun r v M' H' e rep' i p'=>?_⟩
 cases q:r.d with
 |bl b=>
  rw[q]at i
  simp only[q]at p'
  cases i
  refine⟨b,rfl,?_⟩
  cases b with
  |true=>exact ox (sb g M' ρ env σ H' Q rep' p')
  |false=>exact qZ (p' _ M' H' (Ext.refl _ _) rep' rfl)
 |_=>simp only[q]at p';exact p'.elim
noncomputable def tru:D->Res Bool
 | .non=>.ok false
 | .bl b=>.ok b
 | .int i=>.ok (i != 0)
 | .str y=>if y.length<=lim then .ok ((y.length:Int) != 0) else .stuck
 | .tup ds=>.ok (!ds.isEmpty)
 | .lst ds=>.ok (!ds.isEmpty)
 | .dic _ _=>.stuck
theorem Is.tru {H:Hp}{m:Addr->Prop}{d:D}{v:V}{k:Bool}(h:Is H m d v)(e:tru d=.ok k):yC X.K v H k:=by
 cases d with
 |non=>cases h;cases e;rfl
 |bl b=>cases h;cases e;rfl
 |int b=>cases h;cases e;rfl
 |str b=>
  cases h
  unfold L3.tru at e
  dsimp only at e
  by_cases hl:b.length<=lim
  ·rw[if_pos hl]at e;cases e;exact⟨db hl,rfl⟩
  ·rw[if_neg hl]at e;cases e
 |tup ds=>
  obtain⟨a,vs,rfl,h1,h2⟩:=h
  cases e
  refine .inr (.inl ⟨vs,SqT.of h1,?_⟩)
  have:=h2.length
  cases ds<;>cases vs<;>simp_all
 |lst ds=>
  obtain⟨a,vs,rfl,h1,h2⟩:=h.rd
  cases e
  refine .inl ⟨vs,.inl h1,?_⟩
  have:=h2.length
  cases ds<;>cases vs<;>simp_all
 |dic ks ds=>cases e
noncomputable def cw (fa:En->Res R):En->Res Bool:=fun env=>(fa env).bind fun ra=>tru ra.d
theorem bc {a:Expr}{fa:En->Res R}(ha:PD X E a fa)(he:autoParam (∀ whole,isTrue a X.env whole=(do let v <- whole;standAt a.pos;holding [v] (truthy v))) autoI._auto_1):tq X E a (cw fa):=by
 obtain⟨ta,pa,sa⟩:=ha
 refine⟨_,sI pa he,fun g M ρ env σ H Q rep p=>sa.oneT rep p fun r v M' H' e rep' i p'=>?_⟩
 cases q:tru r.d with
 |stuck=>rw[q]at p';exact p'.elim
 |exc c=>
  exfalso
  unfold tru at q
  cases z:r.d<;>simp only[z]at q<;>first|cases q|(split at q<;>cases q)
 |ok k=>
  rw[q]at p'
  exact⟨k,i.tru q,p' M' H' (Ext.refl _ _) rep'⟩
noncomputable def vB (fa:En->Res R):En->Res Bool:=fun env=>(fa env).bind fun ra=>match ra.d with
 | .bl b=>.ok b
 |_=>.stuck
theorem aw {a b:Expr}{fa fb:En->Res R}{op:CmpOp}{k:R->R->Res R}{pos:Pos}(ho:j8 X E (compareOp op) k)(ha:PD X E a fa)(hb:PD X E b fb)(hm:behindInMarks op b=false):tq X E (.Compare a [op] [b] pos) (vB (v2 k fa fb)):=by
 obtain⟨r,h1,h2⟩:=ho
 obtain⟨ta,pa,sa⟩:=ha
 obtain⟨tb,pb,sb⟩:=hb
 have S:Snd X.mg E (AK r ta tb) (v2 k fa fb):=fun g M ρ env σ H Q rep p=>sa.twoE sb rep p fun ra rb x y M' H' rep' i1 i2 p'=>h2 g M' ρ env σ H' Q ra rb x y rep' i1 i2 p'
 refine⟨_,vF h1 pa pb hm,fun g M ρ env σ H Q rep p=>S.oneT rep p fun r v M' H' e rep' i p'=>?_⟩
 cases q:r.d with
 |bl b=>
  rw[q]at i
  simp only[q]at p'
  cases i
  exact⟨b,rfl,p' M' H' (Ext.refl _ _) rep'⟩
 |_=>simp only[q]at p';exact p'.elim
noncomputable def cX (fa:En->Res Bool):En->Res Bool:=fun env=>(fa env).bind fun b=>.ok (!b)
noncomputable def rl (fa fb:En->Res Bool):En->Res Bool:=fun env=>(fa env).bind fun b=>if b then fb env else .ok false
noncomputable def im (fa fb:En->Res Bool):En->Res Bool:=fun env=>(fa env).bind fun b=>if b then .ok true else fb env
section
variable {mg:Str->Option Value}{g:Gd}{M M':Addr->Prop}{ρ:Pr}{env:En}{σ:St}{H H':Hp}
theorem SndT.oneT {t:TT}{f:En->Res Bool}(h:SndT mg E t f)(rep:Rep g M ρ env σ H){K:Bool->Res Bool}{Q':Bool->Hp->Prop}{Q:Bool->Hp->Prop}(hp:PostT mg E g M ρ env σ H Q' ((f env).bind K))
 (k:∀ b M' H',Ext M H M' H'->Rep g M' ρ env σ H'->PostT mg E g M' ρ env σ H' Q' (K b)->Q b H'):t σ H Q:=by
 refine h g M ρ env σ H Q rep ?_
 cases e:f env with
 |stuck=>rw[e]at hp;exact hp
 |exc c=>rw[e]at hp;exact hp
 |ok b=>rw[e]at hp;exact fun M1 H1 e1 rep1=>k b M1 H1 e1 rep1 (PostT.ext e1 hp)
theorem SndT.oneE {t:TT}{f:En->Res Bool}(h:SndT mg E t f)(rep:Rep g M ρ env σ H){K:Bool->Res R}{Q':VK}{Q:Bool->Hp->Prop}(hp:PostE mg E g M ρ env σ H Q' ((f env).bind K))
 (k:∀ b M' H',Ext M H M' H'->Rep g M' ρ env σ H'->PostE mg E g M' ρ env σ H' Q' (K b)->Q b H'):t σ H Q:=by
 refine h g M ρ env σ H Q rep ?_
 cases e:f env with
 |stuck=>rw[e]at hp;exact hp
 |exc c=>rw[e]at hp;exact hp
 |ok b=>rw[e]at hp;exact fun M1 H1 e1 rep1=>k b M1 H1 e1 rep1 (PostE.ext e1 hp)
end
theorem aY {a:Expr}{fa:En->Res Bool}{pos:Pos}(ha:tq X E a fa):tq X E (.UnaryOp .Not a pos) (cX fa):=by
 obtain⟨ta,pa,sa⟩:=ha
 exact⟨_,yj pa,fun g M ρ env σ H Q rep p=>sa.oneT rep p fun b M' H' e rep' p'=>p' M' H' (Ext.refl _ _) rep'⟩
theorem io {a:Expr}{fa:En->Res Bool}{pos:Pos}(ha:tq X E a fa):PWD X E (.BoolOp .And [a] pos) fa:=let ⟨t,pa,sa⟩:=ha;⟨t,vx pa,sa⟩
theorem bv {a:Expr}{fa:En->Res Bool}{pos:Pos}(ha:tq X E a fa):PWD X E (.BoolOp .Or [a] pos) fa:=let ⟨t,pa,sa⟩:=ha;⟨t,yh pa,sa⟩
theorem jO {a b:Expr}{bg:List Expr}{fa fb:En->Res Bool}{pos:Pos}(ha:tq X E a fa)(hb:PWD X E (.BoolOp .And (b::bg) pos) fb):PWD X E (.BoolOp .And (a::b::bg) pos) (rl fa fb):=by
 obtain⟨ta,pa,sa⟩:=ha
 obtain⟨tb,pb,sb⟩:=hb
 refine⟨_,yi pa pb,fun g M ρ env σ H Q rep p=>sa.oneT rep p fun b M' H' e rep' p'=>?_⟩
 cases b with
 |true=>exact ox (sb g M' ρ env σ H' Q rep' p')
 |false=>exact qZ (p' M' H' (Ext.refl _ _) rep')
theorem bd {a b:Expr}{bg:List Expr}{fa fb:En->Res Bool}{pos:Pos}(ha:tq X E a fa)(hb:PWD X E (.BoolOp .Or (b::bg) pos) fb):PWD X E (.BoolOp .Or (a::b::bg) pos) (im fa fb):=by
 obtain⟨ta,pa,sa⟩:=ha
 obtain⟨tb,pb,sb⟩:=hb
 refine⟨_,AQ pa pb,fun g M ρ env σ H Q rep p=>sa.oneT rep p fun b M' H' e rep' p'=>?_⟩
 cases b with
 |true=>exact ox (p' M' H' (Ext.refl _ _) rep')
 |false=>exact qZ (sb g M' ρ env σ H' Q rep' p')
noncomputable def CD (fc:En->Res Bool)(fa fb:En->Res R):En->Res R:=fun env=>(fc env).bind fun b=>if b then fa env else fb env
theorem xE {c a b:Expr}{fc:En->Res Bool}{fa fb:En->Res R}{pos:Pos}(hc:tq X E c fc)(ha:PD X E a fa)(hb:PD X E b fb):PD X E (.IfExp c a b pos) (CD fc fa fb):=by
 obtain⟨tc,pc,sc⟩:=hc
 obtain⟨ta,pa,sa⟩:=ha
 obtain⟨tb,pb,sb⟩:=hb
 refine⟨_,sD pc pa pb,fun g M ρ env σ H Q rep p=>sc.oneE rep p fun b M' H' e rep' p'=>?_⟩
 cases b with
 |true=>exact ox (sa g M' ρ env σ H' Q rep' p')
 |false=>exact qZ (sb g M' ρ env σ H' Q rep' p')
noncomputable def j9 (a b:R):Res R:=match a.d,b.d with
 | .lst xs,.int i=>match atI xs i with
  |some d=>.ok (mkV d a.fr a.al)
  |none=>.stuck
 | .tup xs,.int i=>match atI xs i with
  |some d=>.ok (mkV d a.fr a.al)
  |none=>.stuck
 | .str z,.int i=>if z.length<=lim then (match atI z.cps.toList i with
  |some c=>.ok (.val (.str ⟨#[c]⟩) true [])
  |none=>.stuck) else .stuck
 |_,_=>.stuck
theorem IsAll.atI {H:Hp}{m:Addr->Prop}{ds:List D}{vs:List V}{i:Int}{d:D}(h:IsAll H m ds vs)(e:L2.atI ds i=some d):∃ v,L2.atI vs i=some v/\Is H m d v:=by
 unfold L2.atI at e ⊢
 rw[h.length]
 cases q:mT ds.length i with
 |none=>rw[q]at e;cases e
 |some j=>
  rw[q]at e
  exact h.get e
theorem xF:∃ r:R2,IxR X r/\∀ g M ρ env σ H Q ra rb x y,Rep g M ρ env σ H->Is H (vmsk g M ra.fr ρ ra.al) ra.d x->Is H (vmsk g M rb.fr ρ rb.al) rb.d y->PostE X.mg E g M ρ env σ H Q (j9 ra rb)->r x y H Q:=by
 refine⟨_,yJ,fun g M ρ env σ H Q ra rb x y rep i1 i2 p=>?_⟩
 unfold j9 at p
 cases e1:ra.d with
 |lst xs=>
  rw[e1]at p i1
  cases e2:rb.d with
  |int i=>
   rw[e2]at p i2
   cases i2
   obtain⟨a,vs,rfl,h1,h2⟩:=i1.rd
   cases q:atI xs i with
   |none=>simp only[q]at p;exact p.elim
   |some d=>
    simp only[q]at p
    obtain⟨v,ev,iv⟩:=h2.atI q
    exact .inl ⟨a,vs,i,v,rfl,rfl,.inl h1,ev,p.val rep iv⟩
  |_=>rw[e2]at p;exact p.elim
 |tup xs=>
  rw[e1]at p i1
  cases e2:rb.d with
  |int i=>
   rw[e2]at p i2
   cases i2
   obtain⟨a,vs,rfl,h1,h2⟩:=i1
   cases q:atI xs i with
   |none=>simp only[q]at p;exact p.elim
   |some d=>
    simp only[q]at p
    obtain⟨v,ev,iv⟩:=h2.atI q
    exact .inr (.inl ⟨a,vs,i,v,rfl,rfl,SqT.of h1,ev,p.val rep iv⟩)
  |_=>rw[e2]at p;exact p.elim
 |str z=>
  rw[e1]at p i1
  cases e2:rb.d with
  |int i=>
   rw[e2]at p i2
   cases i1;cases i2
   by_cases hz:z.length<=lim
   ·simp only[hz,if_true]at p
    cases q:atI z.cps.toList i with
    |none=>simp only[q]at p;exact p.elim
    |some c=>
     simp only[q]at p
     exact .inr (.inr ⟨z,i,c,rfl,rfl,db hz,q,p _ M H (Ext.refl _ _) rep rfl⟩)
   ·simp only[hz,if_false]at p;exact p.elim
  |_=>rw[e2]at p;exact p.elim
 |_=>rw[e1]at p;exact p.elim
theorem gp {a b:Expr}{fa fb:En->Res R}{pos:Pos}(ha:PD X E a fa)(hb:PD X E b fb)(hs:jN b):PD X E (.Subscript a b pos) (v2 j9 fa fb):=by
 obtain⟨r,h1,h2⟩:=xF (X:=X) (E:=E)
 obtain⟨ta,pa,sa⟩:=ha
 obtain⟨tb,pb,sb⟩:=hb
 exact⟨_,sM h1 pa pb hs,fun g M ρ env σ H Q rep p=>sa.twoE sb rep p fun ra rb x y M' H' rep' i1 i2 p'=>h2 g M' ρ env σ H' Q ra rb x y rep' i1 i2 p'⟩
noncomputable def ay (i:Nat)(fb:En->Res R):En->Res R:=fun env=>match env[i]? with
 |some (some (.own ds fr))=>(fb env).bind fun rb=>match rb.d with
  | .int k=>match atI ds k with
   |some d=>.ok (mkV d fr [])
   |none=>.stuck
  |_=>.stuck
 |_=>v2 j9 (ah i) fb env
theorem aj {i:Nat}{a b:Expr}{fb:En->Res R}{pos:Pos}(ha:PE X a (kX i))(hb:PD X E b fb)(hs:jN b):PD X E (.Subscript a b pos) (ay i fb):=by
 obtain⟨r,h1,h2⟩:=xF (X:=X) (E:=E)
 obtain⟨tb,pb,sb⟩:=hb
 refine⟨_,sM (ix_list.or h1) ha pb hs,fun g M ρ env σ H Q rep p=>?_⟩
 have gen:PostE X.mg E g M ρ env σ H Q (v2 j9 (ah i) fb env)->AK (fun x y H Q=>yH X.K x y H Q\/r x y H Q) (kX i) tb σ H Q:=fun p=>
  Snd.twoE pF sb rep p fun ra rb x y M' H' rep' i1 i2 p'=>.inr (h2 g M' ρ env σ H' Q ra rb x y rep' i1 i2 p')
 unfold ay at p
 cases e1:env[i]? with
 |none=>rw[e1]at p;exact gen p
 |some o=>
  cases o with
  |none=>rw[e1]at p;exact gen p
  |some sl=>
   cases sl with
   |val d fr=>rw[e1]at p;exact gen p
   |tre d=>rw[e1]at p;exact gen p
   |mes d=>rw[e1]at p;exact gen p
   |pin d=>rw[e1]at p;exact gen p
   |dis d=>rw[e1]at p;exact gen p
   |kon a=>rw[e1]at p;exact gen p
   |own ds fr=>
    rw[e1]at p
    obtain⟨v,ev,a,vs,rfl,k1,k2,k4⟩:=rep.slot i _ e1
    refine⟨_,ev,sb.oneE rep p fun rb y M' H' e rep' i2 p'=>?_⟩
    cases q:rb.d with
    |int k=>
     rw[q]at i2
     simp only[q]at p'
     cases i2
     cases q2:atI ds k with
     |none=>simp only[q2]at p';exact p'.elim
     |some d=>
      simp only[q2]at p'
      have k5:IsAll H' (vmsk g M' fr ρ []) ds vs:=(IsAll.weak (fun _ z=>.inl z) k4:IsAll H (vmsk g M fr ρ []) ds vs).ext e
      obtain⟨w,ew,iw⟩:=k5.atI q2
      exact .inl ⟨a,vs,k,w,rfl,rfl,.inl (.inl (e.h _ _ k1)),ew,p'.val rep' iw⟩
    |_=>simp only[q]at p';exact p'.elim
end
end L3
namespace L3
open PySem PySem.Spec PyProof.Rows L2
section
variable {mg:Str->Option Value}{E:XK}{g:Gd}{M M':Addr->Prop}{ρ:Pr}{env:En}{σ:St}{H H':Hp}
theorem SndA.one {t:TA}{f:En->Res (List R)}(h:SndA mg E t f)(rep:Rep g M ρ env σ H){α:Type}{K:List R->Res α}{P:(M:Addr->Prop)->(H:Hp)->Res α->Prop}{Q:List V->Hp->Prop}
 (hp:P M H ((f env).bind K)) (hs:∀ M H,P M H .stuck->False) (hx:∀ M H c,P M H (.exc c)->vZ mg E g c) (he:∀ M H M' H' r,Ext M H M' H'->P M H r->P M' H' r)
 (k:∀ rs vs M' H',Ext M H M' H'->Rep g M' ρ env σ H'->IsAll H' (vmsk g M' (bh rs) ρ (bu rs)) (rs.map R.d) vs->P M' H' (K rs)->Q vs H'):t σ H Q:=by
 refine h g M ρ env σ H Q rep ?_
 cases e:f env with
 |stuck=>rw[e]at hp;exact hs _ _ hp
 |exc c=>rw[e]at hp;exact hx _ _ c hp
 |ok r=>
  rw[e]at hp
  exact fun vs M1 H1 e1 rep1 is=>k r vs M1 H1 e1 rep1 is (he _ _ _ _ _ e1 hp)
theorem SndA.oneE {t:TA}{f:En->Res (List R)}(h:SndA mg E t f)(rep:Rep g M ρ env σ H){K:List R->Res R}{Q':VK}{Q:List V->Hp->Prop}(hp:PostE mg E g M ρ env σ H Q' ((f env).bind K))
 (k:∀ rs vs M' H',Ext M H M' H'->Rep g M' ρ env σ H'->IsAll H' (vmsk g M' (bh rs) ρ (bu rs)) (rs.map R.d) vs->PostE mg E g M' ρ env σ H' Q' (K rs)->Q vs H'):t σ H Q:=
 h.one rep (P:=fun M H r=>PostE mg E g M ρ env σ H Q' r) hp (fun _ _ z=>z) (fun _ _ _ z=>z) (fun _ _ _ _ _ e p=>p.ext e) k
theorem SndA.oneA {t:TA}{f:En->Res (List R)}(h:SndA mg E t f)(rep:Rep g M ρ env σ H){K:List R->Res (List R)}{Q':List V->Hp->Prop}{Q:List V->Hp->Prop}(hp:PostA mg E g M ρ env σ H Q' ((f env).bind K))
 (k:∀ rs vs M' H',Ext M H M' H'->Rep g M' ρ env σ H'->IsAll H' (vmsk g M' (bh rs) ρ (bu rs)) (rs.map R.d) vs->PostA mg E g M' ρ env σ H' Q' (K rs)->Q vs H'):t σ H Q:=
 h.one rep (P:=fun M H r=>PostA mg E g M ρ env σ H Q' r) hp (fun _ _ z=>z) (fun _ _ _ z=>z) (fun _ _ _ _ _ e p=>p.ext e) k
theorem IsAll.args {r:R}{rs:List R}{v:V}{vs:List V}(h1:Is H (vmsk g M r.fr ρ r.al) r.d v)(h2:IsAll H (vmsk g M (bh rs) ρ (bu rs)) (rs.map R.d) vs) :
 IsAll H (vmsk g M (bh (r::rs)) ρ (bu (r::rs))) ((r::rs).map R.d) (v::vs):=by
 refine⟨v,vs,rfl,h1.weak fun a z=>?_,h2.weak fun a z=>?_⟩
 ·exact(z.l:vmsk g M (r.fr&&bh rs) ρ (r.al++bu rs) a)
 ·exact(z.r:vmsk g M (r.fr&&bh rs) ρ (r.al++bu rs) a)
end
section
variable {X:Cx}{E:XK}
noncomputable def ak:En->Res (List R):=fun _=>.ok []
noncomputable def ad (f:En->Res R)(fs:En->Res (List R)):En->Res (List R):=fun env=>(f env).bind fun r=>(fs env).bind fun rs=>.ok (r::rs)
theorem ae:rj X E [] ak:=⟨_,ge,fun g M ρ env σ H Q rep p=>p [] M H (Ext.refl _ _) rep rfl⟩
theorem aa {e:Expr}{es:List Expr}{f:En->Res R}{fs:En->Res (List R)}(he:PD X E e f)(hr:rj X E es fs)(hs:autoParam (starEach (e::es) X.env=(false,eval e X.env)::starEach es X.env) autoR._auto_1):rj X E (e::es) (ad f fs):=by
 obtain⟨t,p1,s1⟩:=he
 obtain⟨u,p2,s2⟩:=hr
 refine⟨_,d9 p1 p2 hs,fun g M ρ env σ H Q rep p=>s1.oneA rep p fun r v M1 H1 e1 rep1 i1 q1=>s2.oneA rep1 q1 fun rs vs M2 H2 e2 rep2 i2 q2=>?_⟩
 exact q2 (v::vs) M2 H2 (Ext.refl _ _) rep2 (IsAll.args (i1.ext e2) i2)
noncomputable def bo (fs:En->Res (List R)):En->Res R:=fun env=>(fs env).bind fun rs=>if rs.length<=lim then .ok (mkV (.tup (rs.map R.d)) (bh rs) (bu rs)) else .stuck
theorem aL {es:List Expr}{fs:En->Res (List R)}{k:Nat}{pos:Pos}(h:rj X E es fs):PD X E (.Tuple es k pos) (bo fs):=by
 obtain⟨t,p1,s1⟩:=h
 refine⟨_,yE p1,fun g M ρ env σ H Q rep p=>s1.oneE rep p fun rs vs M1 H1 e1 rep1 i1 q1=>?_⟩
 by_cases hl:rs.length<=lim
 ·rw[if_pos hl]at q1
  exact⟨by rw[i1.length,List.length_map];exact db hl,fun a ha=>q1.tup rep1 ha i1⟩
 ·rw[if_neg hl]at q1;exact q1.elim
noncomputable def bF (fs:En->Res (List R)):En->Res R:=fun env=>(fs env).bind fun rs=>if rs.length<=lim then .ok (kZ (rs.map R.d) (bh rs) (bu rs)) else .stuck
theorem aS {es:List Expr}{fs:En->Res (List R)}{pos:Pos}(h:rj X E es fs):PD X E (.List es pos) (bF fs):=by
 obtain⟨t,p1,s1⟩:=h
 refine⟨_,sJ p1,fun g M ρ env σ H Q rep p=>s1.oneE rep p fun rs vs M1 H1 e1 rep1 i1 q1=>?_⟩
 by_cases hl:rs.length<=lim
 ·rw[if_pos hl]at q1
  exact⟨by rw[i1.length,List.length_map];exact db hl,fun a ha=>q1.lst rep1 ha i1⟩
 ·rw[if_neg hl]at q1;exact q1.elim
end
noncomputable def nl (H0 H':Hp)(a:Addr):Prop:=H0 a=none/\Mu H' a
noncomputable def RetOk (g:Gd)(H':Hp)(v:V):R->Prop
 | .val d fr _=>Is H' (fun a=>nl g.H₀ H' a\/(fr=false/\g.Ma a)) d v
 | .new ds fr=>∃ a vs,v=.ref a/\H' a=some (.lst vs)/\g.H₀ a=none/\IsAll H' (fun b=>b≠a/\(nl g.H₀ H' b\/(fr=false/\g.Ma b))) ds vs
 | .fre d=>Is H' (nl g.H₀ H') d v
noncomputable def Bl (mg:Str->Option Value)(E:XK)(g:Gd)(Q:VK):Res R->Prop
 | .stuck=>False
 | .exc c=>vZ mg E g c
 | .ok r=>∀ v H',Same g.H₀ H'->RetOk g H' v r->Q v H'
noncomputable def g6 (mg:Str->Option Value)(n:Nat)(F:List D->Res R):Sp:=fun vs H Q E=>vs.length=n/\∃ ds Ma,IsAll H Ma ds vs/\Bl mg E (Bi H Ma) Q (F ds)
noncomputable def vn (d:D)(fr:Bool)(rs:List R):R:=if d.flat then .val d true [] else if fr then .fre d else .val d (bh rs) (bu rs)
noncomputable def eZ (rs:List R):R->R
 | .val d fr _=>vn d fr rs
 | .new ds fr=>if D.flats ds then .new ds true else if fr then .fre (.lst ds) else if (bu rs).isEmpty then .new ds (bh rs) else .val (.lst ds) (bh rs) (bu rs)
 | .fre d=>vn d true rs
section
variable {g:Gd}{M:Addr->Prop}{ρ:Pr}{env:En}{σ:St}{H H':Hp}
theorem Rep.came (rep:Rep g M ρ env σ H)(s:Same H H')(p:Addr->Prop):Rep g (fun a=>M a\/(nl H H' a/\p a)) ρ env σ H':=
 (rep.grow s).moreT fun a z=>⟨z.1.2,rep.same.free z.1.1,(rep.free z.1.1).2.2⟩
theorem tD {d:D}{fr:Bool}{v:V}(rs:List R)(rep:Rep g M ρ env σ H)(s:Same H H')(h:Is H' (fun a=>nl H H' a\/(fr=false/\vmsk g M (bh rs) ρ (bu rs) a)) d v) :
 ∃ M',Ext M H M' H'/\Rep g M' ρ env σ H'/\ROk g M' ρ H H' v (vn d fr rs):=by
 unfold vn
 by_cases hf:d.flat=true
 ·rw[if_pos hf]
  exact⟨M,⟨fun _ z=>z,s,fun _ z=>.inl z⟩,rep.grow s,Is.flat hf h⟩
 ·rw[if_neg hf]
  cases fr with
  |true=>
   refine⟨M,⟨fun _ z=>z,s,fun _ z=>.inl z⟩,rep.grow s,nl H H',fun a z=>?_,?_⟩
   ·exact⟨fun w=>rep.froz a w z.1,z.1,z.2,(rep.free z.1).2.2⟩
   ·exact Is.weak (fun a z=>z.elim id fun w=>by cases w.1) h
  |false=>
   refine⟨_,⟨fun _=>.inl,s,fun _ z=>z.imp id (·.1.1)⟩,rep.came s fun _=>True,?_⟩
   refine Is.weak (fun a z=>?_) h
   rcases z with z|⟨_,z⟩
   ·exact .inl ⟨.inr ⟨z,True.intro⟩,fun _=>rep.same.free z.1⟩
   ·exact z.mono fun _=>.inl
theorem RetOk.caller {v:V}{r:R}(rs:List R)(rep:Rep g M ρ env σ H)(s:Same H H')(h:RetOk (Bi H (vmsk g M (bh rs) ρ (bu rs))) H' v r) :
 ∃ M',Ext M H M' H'/\Rep g M' ρ env σ H'/\ROk g M' ρ H H' v (eZ rs r):=by
 cases r with
 |val d fr al=>exact tD rs rep s h
 |fre d=>exact tD rs rep s (Is.weak (fun a z=>.inl z) h)
 |new ds fr=>
  obtain⟨a,vs,rfl,h1,h2,h3⟩:=h
  have h2:H a=none:=h2
  obtain⟨f0,f1,f2⟩:=rep.free h2
  have R1:Rep g (fun b=>M b\/(nl H H' b/\b≠a)) ρ env σ H':=rep.came s fun b=>b≠a
  have nm:¬ (M a\/(nl H H' a/\a≠a)):=fun z=>z.elim f1 fun z=>z.2 rfl
  have X1:Ext M H (fun b=>M b\/(nl H H' b/\b≠a)) H':=⟨fun _=>.inl,s,fun _ z=>z.imp id (·.1.1)⟩
  unfold eZ
  dsimp only
  by_cases hfl:D.flats ds=true
  ·rw[if_pos hfl]
   exact⟨_,X1,R1,a,vs,rfl,h1,nm,h2,f2,IsAll.flat hfl h3⟩
  ·rw[if_neg hfl]
   cases fr with
   |true=>
    refine⟨M,⟨fun _ z=>z,s,fun _ z=>.inl z⟩,rep.grow s,nl H H',fun a z=>?_,?_⟩
    ·exact⟨fun w=>rep.froz a w z.1,z.1,z.2,(rep.free z.1).2.2⟩
    ·exact⟨a,vs,rfl,.inl ⟨h1,h2,Mu.lst h1⟩,IsAll.weak (fun b z=>z.2.elim id fun w=>by cases w.1) h3⟩
   |false=>
    simp only[Bool.false_eq_true,if_false]
    by_cases hc:(bu rs).isEmpty=true
    ·rw[if_pos hc]
     refine⟨_,X1,R1,a,vs,rfl,h1,nm,h2,f2,?_⟩
     refine IsAll.weak (fun b z=>?_) h3
     rcases z with⟨nb,z|⟨hf,z⟩⟩
     ·exact⟨.inr ⟨z,nb⟩,fun _=>rep.same.free z.1⟩
     ·have hl:bu rs=[]:=by simpa using hc
      have z:vmsk g M (bh rs) ρ (bu rs) b:=z
      rw[hl]at z
      exact⟨.inl z.nil.1,z.nil.2⟩
    ·rw[if_neg hc]
     refine⟨fun b=>(M b\/(nl H H' b/\b≠a))\/b=a,⟨fun _ z=>.inl (.inl z),s,fun b z=>z.elim (X1.n b) fun e=>.inr (e▸h2)⟩,R1.more h1 f0 f2,a,vs,rfl,.inl ⟨h1,.inl ⟨.inr rfl,fun _=>f0⟩⟩,?_⟩
     refine IsAll.weak (fun b z=>?_) h3
     rcases z with⟨nb,z|⟨hf,z⟩⟩
     ·exact .inl ⟨.inl (.inr ⟨z,nb⟩),fun _=>rep.same.free z.1⟩
     ·exact vmsk.mono (fun _ w=>.inl (.inl w)) z
end
section
variable {X:Cx}{E:XK}{CX:CXT}{k:Nat}{f:Addr}{fd:FuncData}{ps:List Str}{F:List D->Res R}{x:Str}{p pos:Pos}{e:Expr}{es:List Expr}{fs:En->Res (List R)}
noncomputable def aF (F:List D->Res R)(fs:En->Res (List R)):En->Res R:=fun env=>(fs env).bind fun rs=>(F (rs.map R.d)).bind fun r=>.ok (eZ rs r)
theorem tE {t:TA}(hl:∀ env rs,fs env=.ok rs->rs.length=ps.length)(s:SndA X.mg E t fs):Snd X.mg E (xz (g6 X.mg ps.length F) [] E t) (aF F fs):=by
 intro g M ρ env σ H Q rep p
 refine s g M ρ env σ H _ rep ?_
 unfold aF at p
 cases e:fs env with
 |stuck=>rw[e]at p;exact p
 |exc c=>rw[e]at p;exact p
 |ok rs=>
  rw[e]at p
  intro vs M1 H1 e1 rep1 is
  have p1:PostE X.mg E g M1 ρ env σ H1 Q ((F (rs.map R.d)).bind fun r=>.ok (eZ rs r)):=PostE.ext e1 p
  rw[List.append_nil]
  refine⟨by rw[is.length,List.length_map];exact hl env rs e,rs.map R.d,_,is,?_⟩
  cases q:F (rs.map R.d) with
  |stuck=>rw[q]at p1;exact p1
  |exc c=>rw[q]at p1;exact fun cls dx H' h1 h2=>p1 cls dx H' h1 (rep1.same.trans h2)
  |ok r=>
   rw[q]at p1
   intro v H2 s2 ro
   obtain⟨M3,e3,rep3,ro3⟩:=RetOk.caller rs rep1 s2 ro
   exact p1 v M3 H2 e3 rep3 ro3
theorem aq (G:FnOk X.prog X.w X.K X.mg X.base CX k f fd ps (g6 X.mg ps.length F))(hr:Room k X.A)(hg:Gl X x)(hm:X.mg x=some (.ref f))(hk:PySem.W.keepIn X.K (.ref f)=true)(hb:Binds X.K fd ps [])(hx:jV CX X E)
 (ha:rj X E (e::es) fs) (hl:∀ env rs,fs env=.ok rs->rs.length=ps.length) (hdb:autoParam ((x==("__debug__" : Str))=false) autoD._auto_1) (he:autoParam (starEach (e::es) X.env=(false,eval e X.env)::starEach es X.env) autoR._auto_1) (hpl:autoParam ((backTo pos (starEach es X.env)).any (·.1)=false) autoR._auto_1) :
 PD X E (.Call (.Name x p) (e::es) [] pos) (aF F fs):=by
 obtain⟨t,p1,s1⟩:=ha
 exact⟨_,vH G hr hg hm hk hb .nil hx p1 hdb he hpl,tE hl s1⟩
theorem am:∀ env rs,ak env=.ok rs->rs.length=0:=fun _ _ e=>by cases e;rfl
theorem ac {f:En->Res R}{fs:En->Res (List R)}{n:Nat}(h:∀ env rs,fs env=.ok rs->rs.length=n):∀ env rs,ad f fs env=.ok rs->rs.length=n+1:=fun env rs e=>by
 unfold ad at e
 cases q:f env with
 |stuck=>rw[q]at e;cases e
 |exc c=>rw[q]at e;cases e
 |ok r=>
  rw[q]at e
  cases q2:fs env with
  |stuck=>simp only[Res.bind_ok,q2]at e;cases e
  |exc c=>simp only[Res.bind_ok,q2]at e;cases e
  |ok rs'=>
   simp only[Res.bind_ok,q2]at e
   cases e
   simp[h env rs' q2]
noncomputable def g9 (X:Cx)(E:XK)(f:Value)(k:List R->Res R):Prop:=∃ r,CallR X f r/\
 ∀ g M ρ env σ H Q rs vs,Rep g M ρ env σ H->IsAll H (vmsk g M (bh rs) ρ (bu rs)) (rs.map R.d) vs->PostE X.mg E g M ρ env σ H Q (k rs)->r vs H Q
noncomputable def e_ (k:List R->Res R)(fs:En->Res (List R)):En->Res R:=fun env=>(fs env).bind k
theorem aH {id:String} {k:List R->Res R} (hc:g9 X E (.builtin id) k) (hg:Gl X x) (hm:X.mg x=none) (hv:bootBuiltins x=some (.builtin id)) (ha:rj X E (e::es) fs) (hn:autoParam (x≠"__name__") autoD._auto_1) (hdb:autoParam ((x==("__debug__" : Str))=false) autoD._auto_1)
 (he:autoParam (starEach (e::es) X.env=(false,eval e X.env)::starEach es X.env) autoR._auto_1) (hpl:autoParam ((backTo pos (starEach es X.env)).any (·.1)=false) autoR._auto_1):PD X E (.Call (.Name x p) (e::es) [] pos) (e_ k fs):=by
 obtain⟨r,h1,h2⟩:=hc
 obtain⟨t,p1,s1⟩:=ha
 exact⟨_,m7 h1 hg hm hv p1 hn hdb he hpl,fun g M ρ env σ H Q rep p=>s1.oneE rep p fun rs vs M1 H1 e1 rep1 i1 q1=>h2 g M1 ρ env σ H1 Q rs vs rep1 i1 q1⟩
theorem iY {T:String} {k:List R->Res R} (hc:g9 X E (.type T) k) (hg:Gl X x) (hm:X.mg x=none) (hv:bootBuiltins x=some (.type T)) (ha:rj X E (e::es) fs) (hn:autoParam (x≠"__name__") autoD._auto_1) (hdb:autoParam ((x==("__debug__" : Str))=false) autoD._auto_1)
 (he:autoParam (starEach (e::es) X.env=(false,eval e X.env)::starEach es X.env) autoR._auto_1) (hpl:autoParam ((backTo pos (starEach es X.env)).any (·.1)=false) autoR._auto_1):PD X E (.Call (.Name x p) (e::es) [] pos) (e_ k fs):=by
 obtain⟨r,h1,h2⟩:=hc
 obtain⟨t,p1,s1⟩:=ha
 exact⟨_,qV h1 hg hm hv p1 hn hdb he hpl,fun g M ρ env σ H Q rep p=>s1.oneE rep p fun rs vs M1 H1 e1 rep1 i1 q1=>h2 g M1 ρ env σ H1 Q rs vs rep1 i1 q1⟩
noncomputable def cx:List R->Res R
 | [r]=>match r.d with
  | .lst ds=>.ok (.val (.int ds.length) true [])
  | .tup ds=>.ok (.val (.int ds.length) true [])
  | .str z=>if z.length<=lim then .ok (.val (.int z.length) true []) else .stuck
  |_=>.stuck
 |_=>.stuck
theorem bn:g9 X E (.builtin "len") cx:=by
 refine⟨_,call_len_seq.or l_,fun g M ρ env σ H Q rs vs rep i p=>?_⟩
 match rs,i,p with
 | [r],i,p=>
  obtain⟨v,w,rfl,i1,i2⟩:=i
  cases i2
  have i1:Is H (vmsk g M (bh [r]) ρ (bu [r])) r.d v:=i1
  unfold cx at p
  dsimp only at p
  cases q:r.d with
  |lst ds=>
   rw[q]at p i1
   obtain⟨a,ws,rfl,h1,h2⟩:=i1.rd
   exact .inl ⟨a,ws,rfl,.inl (.inl h1),by rw[h2.length];exact p _ M H (Ext.refl _ _) rep rfl⟩
  |tup ds=>
   rw[q]at p i1
   obtain⟨a,ws,rfl,h1,h2⟩:=i1
   exact .inl ⟨a,ws,rfl,.inr (SqT.of h1),by rw[h2.length];exact p _ M H (Ext.refl _ _) rep rfl⟩
  |str z=>
   rw[q]at p i1
   cases i1
   by_cases hz:z.length<=lim
   ·simp only[hz,if_true]at p
    exact .inr ⟨z,rfl,db hz,p _ M H (Ext.refl _ _) rep rfl⟩
   ·simp only[hz,if_false]at p;exact p.elim
  |_=>rw[q]at p;exact p.elim
 | [],_,p=>exact p.elim
 |_::_::_,_,p=>exact p.elim
theorem pH {g:Gd}{M:Addr->Prop}{ρ:Pr}{r:R}{a:Addr}(h:vmsk g M (bh [r]) ρ (bu [r]) a):vmsk g M r.fr ρ r.al a:=by
 have e1:bh [r]=r.fr:=by simp[bh]
 have e2:bu [r]=r.al:=by simp[bu]
 rw[e1,e2]at h
 exact h
end
end L3
namespace L3
open PySem PySem.Spec PyProof.Rows L2
inductive Fl where
 |nx (env:En)|rt (r:R)|bk (env:En)|ct (env:En)|rm (r:R) (env:En)
structure Frz (M:Addr->Prop) (H:Hp) (M':Addr->Prop) (H':Hp):Prop where
 m:∀ a,M a->M' a
 h:∀ a o,H a=some o->(M a\/fixd o)->H' a=some o
theorem Frz.refl (M:Addr->Prop)(H:Hp):Frz M H M H:=⟨fun _ z=>z,fun _ _ e _=>e⟩
theorem Frz.trans {M M1 M2:Addr->Prop}{H H1 H2:Hp}(a:Frz M H M1 H1)(b:Frz M1 H1 M2 H2):Frz M H M2 H2:=⟨fun x z=>b.m x (a.m x z),fun x o e z=>b.h x o (a.h x o e z) (z.imp (a.m x) id)⟩
theorem Ext.frz {M M':Addr->Prop}{H H':Hp}(e:Ext M H M' H'):Frz M H M' H':=⟨e.m,fun a o q _=>e.h a o q⟩
section
variable (mg:Str->Option Value)(E:XK)(g:Gd)(M:Addr->Prop)(H:Hp)(D:Ends)
noncomputable def PostS:Res Fl->Prop
 | .stuck=>False
 | .exc c=>vZ mg E g c
 | .ok (.nx env)=>∀ σ M' ρ H',Frz M H M' H'->Rep g M' ρ env σ H'->D.nx σ H'
 | .ok (.bk env)=>∀ σ M' ρ H',Frz M H M' H'->Rep g M' ρ env σ H'->D.bk σ H'
 | .ok (.ct env)=>∀ σ M' ρ H',Frz M H M' H'->Rep g M' ρ env σ H'->D.ct σ H'
 | .ok (.rt r)=>∀ v M' H',Frz M H M' H'->Same g.H₀ H'->((∀ a,¬ g.Z a)->RetOk g H' v r)->(r.d.flat=true->Is H' (fun _=>False) r.d v)->D.rt v H'
 | .ok (.rm r env)=>∀ v σ M' ρ H0 H',Frz M H M' H'->Rep g M' ρ env σ H'->Same g.H₀ H0->(∀ a,g.Z a->H0 a≠none)->ROk g M' ρ H0 H' v r->D.rt v H'
end
noncomputable def v5 (mg:Str->Option Value)(E:XK)(t:TS)(f:En->Res Fl):Prop:=∀ g M ρ env σ H D,Rep g M ρ env σ H->PostS mg E g M H D (f env)->t D σ H
noncomputable def rn (X:Cx)(E:XK)(st:Stmt)(f:En->Res Fl):Prop:=∃ t,PS X st t/\v5 X.mg E t f
noncomputable def nu (X:Cx)(E:XK)(st:List Stmt)(f:En->Res Fl):Prop:=∃ t,PSs X st t/\v5 X.mg E t f
section
variable {mg:Str->Option Value}{E:XK}{g:Gd}{M M':Addr->Prop}{ρ:Pr}{env:En}{σ:St}{H H':Hp}{D:Ends}
theorem PostS.frz {r:Res Fl}(e:Frz M H M' H')(p:PostS mg E g M H D r):PostS mg E g M' H' D r:=by
 cases r with
 |stuck=>exact p
 |exc c=>exact p
 |ok r=>cases r with
  |nx env=>exact fun σ M2 ρ2 H2 e2=>p σ M2 ρ2 H2 (e.trans e2)
  |bk env=>exact fun σ M2 ρ2 H2 e2=>p σ M2 ρ2 H2 (e.trans e2)
  |ct env=>exact fun σ M2 ρ2 H2 e2=>p σ M2 ρ2 H2 (e.trans e2)
  |rt r=>exact fun v M2 H2 e2=>p v M2 H2 (e.trans e2)
  |rm r env=>exact fun v σ M2 ρ2 H0 H2 e2=>p v σ M2 ρ2 H0 H2 (e.trans e2)
theorem Snd.oneS {t:TE}{f:En->Res R}(h:Snd mg E t f)(rep:Rep g M ρ env σ H){K:R->Res Fl}{Q:VK}(hp:PostS mg E g M H D ((f env).bind K))
 (k:∀ r v M' H',Ext M H M' H'->Rep g M' ρ env σ H'->ROk g M' ρ H H' v r->PostS mg E g M' H' D (K r)->Q v H'):t σ H Q:=by
 refine h g M ρ env σ H Q rep ?_
 cases e:f env with
 |stuck=>rw[e]at hp;exact hp
 |exc c=>rw[e]at hp;exact hp
 |ok r=>rw[e]at hp;exact fun v M1 H1 e1 rep1 ro=>k r v M1 H1 e1 rep1 ro (PostS.frz e1.frz hp)
theorem SndT.oneS {t:TT}{f:En->Res Bool}(h:SndT mg E t f)(rep:Rep g M ρ env σ H){K:Bool->Res Fl}{Q:Bool->Hp->Prop}(hp:PostS mg E g M H D ((f env).bind K))
 (k:∀ b M' H',Frz M H M' H'->Rep g M' ρ env σ H'->PostS mg E g M' H' D (K b)->Q b H'):t σ H Q:=by
 refine h g M ρ env σ H Q rep ?_
 cases e:f env with
 |stuck=>rw[e]at hp;exact hp
 |exc c=>rw[e]at hp;exact hp
 |ok r=>rw[e]at hp;exact fun M1 H1 e1 rep1=>k r M1 H1 e1.frz rep1 (PostS.frz e1.frz hp)
noncomputable def Bm (ρ:Pr)(i:Nat):Pr:=fun j a=>if j=i then False else ρ j a
theorem oG {j i:Nat}(h:j≠i):Bm ρ i j=ρ j:=by funext a;unfold Bm;rw[if_neg h]
theorem j_ {j i:Nat}{a:Addr}(h:Bm ρ i j a):j≠i/\ρ j a:=by
 unfold Bm at h
 by_cases e:j=i
 ·rw[if_pos e]at h;exact h.elim
 ·rw[if_neg e]at h;exact⟨e,h⟩
noncomputable def mo (ρ:Pr)(i:Nat)(T:Addr->Prop):Pr:=fun j a=>if j=i then T a else ρ j a
theorem cV {j i:Nat}{T:Addr->Prop}(h:j≠i):mo ρ i T j=ρ j:=by funext a;unfold mo;rw[if_neg h]
theorem d_ {i:Nat}{T:Addr->Prop}:mo ρ i T i=T:=by funext a;unfold mo;rw[if_pos rfl]
noncomputable def frz1 (env:En)(i:Nat):En:=match env[i]? with
 |some (some (.own ds fr))=>env.set i (some (.val (.lst ds) fr))
 |some (some (.tre d))=>env.set i (some (.val d true))
 |some (some (.mes _))=>env.set i none
 |some (some (.pin d))=>env.set i (some (.val d true))
 |some (some (.dis d))=>env.set i (some (.val d true))
 |_=>env
noncomputable def frz (env:En)(al:List Nat):En:=al.foldl frz1 env
theorem mq {i j:Nat}(h:j≠i):(frz1 env i)[j]?=env[j]?:=by
 unfold frz1
 split<;>first|rfl|exact List.getElem?_set_ne (Ne.symm h)
theorem nv (i:Nat):(frz1 env i).length=env.length:=by
 unfold frz1
 split<;>simp
theorem tF:∀(al:List Nat){env:En}{j:Nat},¬ j∈al->(frz env al)[j]?=env[j]?
 | [],_,_,_=>rfl
 |i::al,env,j,h=>by
  show(frz (frz1 env i) al)[j]?=_
  rw[tF al fun z=>h (by simp[z]),mq fun z=>h (by simp[z])]
theorem mr:∀(al:List Nat)(env:En),(frz env al).length=env.length
 | [],_=>rfl
 |i::al,env=>by
  show(frz (frz1 env i) al).length=_
  rw[mr al,nv]
theorem Rep.frz1 (rep:Rep g M ρ env σ H)(i:Nat):Rep g (fun a=>M a\/ρ i a) (Bm ρ i) (frz1 env i) σ H where
 same:=rep.same
 froz:=fun b hb=>hb.elim (rep.froz b) fun z=>(rep.priv i b z).2.2.some
 inn:=fun b hb=>hb.elim (rep.inn b) fun z=>.inl (rep.priv i b z).2.1
 fl:=fun b hb h0=>hb.elim (fun z=>rep.fl b z h0) fun z=>.inl (rep.priv i b z).2.2
 slot:=fun j sl ej=>by
  by_cases hj:j=i
  ·subst hj
   cases e:env[j]? with
   |none=>
    have:L3.frz1 env j=env:=by unfold L3.frz1;rw[e]
    rw[this,e]at ej;cases ej
   |some o=>
    have hi:j<env.length:=(List.getElem?_eq_some_iff.mp e).1
    cases o with
    |none=>
     have:L3.frz1 env j=env:=by unfold L3.frz1;rw[e]
     rw[this,e]at ej;cases ej
    |some s0=>
     obtain⟨v,ev,k⟩:=rep.slot j s0 e
     cases s0 with
     |val d fr=>
      have:L3.frz1 env j=env:=by unfold L3.frz1;rw[e]
      rw[this,e]at ej;cases ej
      exact⟨v,ev,Is.weak (fun b z=>msk.mono (fun _=>.inl) z) k⟩
     |own ds fr=>
      have:L3.frz1 env j=env.set j (some (.val (.lst ds) fr)):=by unfold L3.frz1;rw[e]
      rw[this,List.getElem?_set_self hi]at ej;cases ej
      obtain⟨a,vs,rfl,h1,h2,h4⟩:=k
      have ha:=(h2 a).mpr rfl
      exact⟨_,ev,a,vs,rfl,.inl ⟨h1,.inr ha,fun _=>(rep.priv j a ha).2.1⟩,IsAll.weak (fun b z=>msk.mono (fun _=>.inl) z) h4⟩
     |tre d=>
      have:L3.frz1 env j=env.set j (some (.val d true)):=by unfold L3.frz1;rw[e]
      rw[this,List.getElem?_set_self hi]at ej;cases ej
      exact⟨v,ev,Is.weak (fun b z=>⟨.inr z,fun _=>(rep.priv j b z).2.1⟩) k⟩
     |mes d=>
      have:L3.frz1 env j=env.set j none:=by unfold L3.frz1;rw[e]
      rw[this,List.getElem?_set_self hi]at ej;cases ej
     |pin d=>
      have:L3.frz1 env j=env.set j (some (.val d true)):=by unfold L3.frz1;rw[e]
      rw[this,List.getElem?_set_self hi]at ej;cases ej
      exact⟨v,ev,Is.weak (fun b z=>⟨.inr z,fun _=>(rep.priv j b z).2.1⟩) k.1⟩
     |dis d=>
      have:L3.frz1 env j=env.set j (some (.val d true)):=by unfold L3.frz1;rw[e]
      rw[this,List.getElem?_set_self hi]at ej;cases ej
      exact⟨v,ev,Is.weak (fun b z=>⟨.inr z,fun _=>(rep.priv j b z).2.1⟩) k.1⟩
     |kon a=>
      have:L3.frz1 env j=env:=by unfold L3.frz1;rw[e]
      rw[this,e]at ej;cases ej
      exact⟨v,ev,k⟩
  ·rw[mq hj]at ej
   obtain⟨v,ev,k⟩:=rep.slot j sl ej
   exact⟨v,ev,by rw[oG hj];exact SlOk.weak (fun _=>.inl) k⟩
 priv:=fun j a h=>by
  obtain⟨hj,h⟩:=j_ h
  exact⟨fun z=>z.elim (rep.priv j a h).1 fun z=>hj (rep.apart j i a h z),(rep.priv j a h).2⟩
 apart:=fun j k a h1 h2=>rep.apart j k a (j_ h1).2 (j_ h2).2
 ow:=fun j a h=>by
  obtain⟨hj,h⟩:=j_ h
  have:=rep.ow j a h
  unfold isOwn at this ⊢
  rw[mq hj];exact this
 len:=by rw[nv];exact rep.len
 zz:=rep.zz
theorem Rep.frz:∀(al:List Nat){env:En}{M:Addr->Prop}{ρ:Pr},Rep g M ρ env σ H->∃(M':Addr->Prop)(ρ':Pr),(∀ a,M a->M' a)/\Rep g M' ρ' (L3.frz env al) σ H/\(∀ i,i∈al->∀ a,ρ i a->M' a)/\(∀ j a,ρ' j a->ρ j a)/\(∀ j,¬ j∈al->ρ' j=ρ j)
 | [],env,M,ρ,rep=>⟨M,ρ,fun _ z=>z,rep,fun _ z=>absurd z (by simp),fun _ _ o=>o,fun _ _=>rfl⟩
 |i::al,env,M,ρ,rep=>by
  obtain⟨M2,ρ2,e2,rep2,o2,k2,l2⟩:=Rep.frz al (rep.frz1 i)
  refine⟨M2,ρ2,fun a z=>e2 a (.inl z),rep2,fun j hj a o=>?_,fun j a o=>(j_ (k2 j a o)).2,fun j hj=>?_⟩
  ·by_cases hji:j=i
   ·exact e2 a (.inr (hji▸o))
   ·exact o2 j ((List.mem_cons.mp hj).resolve_left hji) a (by rw[oG hji];exact o)
  ·rw[l2 j fun z=>hj (by simp[z]),oG fun z=>hj (by simp[z])]
theorem Is.frozen {fr:Bool}{al:List Nat}{d:L3.D}{v:V}(rep:Rep g M ρ env σ H)(e:∀ a,M a->M' a)(hm:∀ i,i∈al->∀ a,ρ i a->M' a)(h:Is H (vmsk g M fr ρ al) d v):Is H (msk g M' fr) d v:=
 h.weak fun a z=>z.elim (msk.mono e) fun⟨i,hi,o⟩=>⟨hm i hi a o,fun _=>(rep.priv i a o).2.1⟩
theorem Rep.put {i:Nat}{sl:Sl}{v:V}{T:Addr->Prop}(rep:Rep g M ρ env σ H)(hi:i<env.length)(ok:SlOk g M T H v sl)(ht:∀ a,T a->¬ M a/\g.H₀ a=none/\Mu H a/\∀ j,j≠i->¬ ρ j a)(hO:∀ a,T a->sl.isO=true:=by intro _ _;rfl) :
 Rep g M (mo ρ i T) (env.set i (some sl)) (σ.set i (some v)) H:=by
 have hi2:i<σ.length:=by rw[<- rep.len];exact hi
 refine⟨rep.same,rep.froz,rep.inn,rep.fl,fun j s ej=>?_,fun j a h=>?_,fun j k a h1 h2=>?_,fun j a h=>?_,by rw[List.length_set,List.length_set];exact rep.len,rep.zz⟩
 ·by_cases hj:j=i
  ·subst hj
   rw[List.getElem?_set_self hi]at ej
   cases ej
   exact⟨v,List.getElem?_set_self hi2,by rw[d_];exact ok⟩
  ·rw[List.getElem?_set_ne (Ne.symm hj)]at ej
   obtain⟨w,ew,k⟩:=rep.slot j s ej
   exact⟨w,by rw[List.getElem?_set_ne (Ne.symm hj)];exact ew,by rw[cV hj];exact k⟩
 ·by_cases hj:j=i
  ·subst hj;rw[d_]at h
   exact⟨(ht a h).1,(ht a h).2.1,(ht a h).2.2.1⟩
  ·rw[cV hj]at h;exact rep.priv j a h
 ·by_cases hj:j=i
  ·by_cases hk:k=i
   ·rw[hj,hk]
   ·subst hj;rw[d_]at h1;rw[cV hk]at h2
    exact absurd h2 ((ht a h1).2.2.2 k hk)
  ·by_cases hk:k=i
   ·subst hk;rw[d_]at h2;rw[cV hj]at h1
    exact absurd h1 ((ht a h2).2.2.2 j hj)
   ·rw[cV hj]at h1;rw[cV hk]at h2
    exact rep.apart j k a h1 h2
 ·unfold isOwn
  by_cases hj:j=i
  ·subst hj;rw[d_]at h
   rw[List.getElem?_set_self hi]
   exact hO a h
  ·rw[cV hj]at h
   rw[List.getElem?_set_ne (Ne.symm hj)]
   exact rep.ow j a h
noncomputable def put (env:En)(i:Nat):R->En
 | .new ds fr=>env.set i (some (.own ds fr))
 | .val d fr al=>(frz env al).set i (some (.val d fr))
 | .fre d=>env.set i (some (.tre d))
theorem Rep.store {i:Nat}{r:R}{v:V}{H0:Hp}(rep:Rep g M ρ env σ H)(h0:Same g.H₀ H0)(hi:i<env.length)(h:ROk g M ρ H0 H v r):∃ M' ρ',Frz M H M' H/\Rep g M' ρ' (L3.put env i r) (σ.set i (some v)) H:=by
 cases r with
 |new ds fr=>
  obtain⟨a,vs,rfl,h1,h2,h3,h4,h5⟩:=h
  exact⟨M,_,Frz.refl _ _,rep.put (sl:=.own ds fr) (T:=fun b=>b=a) hi ⟨a,vs,rfl,h1,fun _=>Iff.rfl,h5⟩ fun b e=>by subst e;exact⟨h2,h0.free h3,Mu.lst h1,fun j _=>h4 j⟩⟩
 |val d fr al=>
  obtain⟨M1,ρ1,e1,rep1,o1,k1,_⟩:=Rep.frz al rep
  exact⟨M1,_,⟨e1,fun _ _ e _=>e⟩,rep1.put (sl:=.val d fr) (T:=fun _=>False) (by rw[mr];exact hi) (Is.frozen rep e1 o1 h) (fun _ z=>z.elim) fun _ z=>z.elim⟩
 |fre d=>
  obtain⟨T,ht,is⟩:=h
  exact⟨M,_,Frz.refl _ _,rep.put (sl:=.tre d) (T:=T) hi is fun b z=>let ⟨a1,a2,a3,a4⟩:=ht b z;⟨a1,h0.free a2,a3,fun j _=>a4 j⟩⟩
theorem Rep.writeO {i:Nat}{a:Addr}{sl:Sl}{v:V}{u':HO}(hu:Bh u')(rep:Rep g M ρ env σ H)(o:ρ i a)(hi:i<env.length)(ev:σ[i]?=some (some v))(ok:SlOk g M (ρ i) (bz H a u') v sl)(hO:autoParam (sl.isO=true) autoR._auto_1) :
 Frz M H M (bz H a u')/\Rep g M ρ (env.set i (some sl)) σ (bz H a u'):=by
 obtain⟨nm,n0,uo,ha,hmu⟩:=rep.priv i a o
 have nfx:∀ u,H a=some u->¬ fixd u:=fun u e z=>by
  rw[ha]at e;cases e
  cases uo<;>first|exact z|exact hmu
 have kp:∀ b u,H b=some u->(M b\/fixd u)->bz H a u' b=some u:=fun b u q z=>by
  rw[ax]
  ·exact q
  ·rintro rfl
   rcases z with z|z
   ·exact nm z
   ·exact nfx u q z
 have km:∀(fr:Bool) b u,H b=some u->(msk g M fr b\/fixd u)->bz H a u' b=some u:=fun fr b u q z=>kp b u q (z.imp (·.1) id)
 refine⟨⟨fun _ z=>z,kp⟩,fun b u q=>?_,fun b hb=>?_,rep.inn,fun b hb h0=>?_,fun j s ej=>?_,fun j b h=>?_,rep.apart,fun j b h=>?_,by rw[List.length_set];exact rep.len,fun c z e=>by
  by_cases hc:c=a
  ·subst hc;rw[aP]at e;cases e
  ·rw[ax hc]at e;exact rep.zz c z e⟩
 ·rw[ax (fun z=>by rw[z,n0]at q;cases q)]
  exact rep.same b u q
 ·have nb:b≠a:=fun z=>nm (by rw[<- z];exact hb)
  rw[ax nb];exact rep.froz b hb
 ·have nb:b≠a:=fun z=>nm (by rw[<- z];exact hb)
  exact(rep.fl b hb h0).same fun o e=>by rw[ax nb];exact e
 ·by_cases hj:j=i
  ·subst hj
   rw[List.getElem?_set_self hi]at ej
   cases ej
   exact⟨v,ev,ok⟩
  ·rw[List.getElem?_set_ne (Ne.symm hj)]at ej
   obtain⟨w,ew,k⟩:=rep.slot j s ej
   refine⟨w,ew,?_⟩
   have nj:∀ b,ρ j b->b≠a:=fun b hb e=>hj (rep.apart j i a (e▸hb) o)
   cases s with
   |val d fr=>exact Is.mono (km fr) (fun _ _ _ z=>z) k
   |own ds' fr'=>
    obtain⟨b,ws,rfl,h1,h2,h4⟩:=k
    exact⟨b,ws,rfl,by rw[ax (nj b ((h2 b).mpr rfl))];exact h1,h2,IsAll.mono (km fr') (fun _ _ _ z=>z) h4⟩
   |tre d=>
    refine Is.mono (fun b u q z=>?_) (fun _ _ _ z=>z) k
    rw[ax]
    ·exact q
    ·rcases z with z|z
     ·exact nj b z
     ·intro e;rw[e]at q;exact nfx u q z
   |mes d=>
    refine IsSh.mono (fun b u q z=>kp b u q (.inr z)) (fun b ws z q=>⟨ws,by rw[ax (nj b z)];exact q⟩) (fun _ z=>z) k
   |pin d=>
    refine⟨Is.mono (fun b u q z=>?_) (fun _ _ _ z=>z) k.1,k.2⟩
    rw[ax]
    ·exact q
    ·rcases z with z|z
     ·exact nj b z
     ·intro e;rw[e]at q;exact nfx u q z
   |dis d=>
    refine⟨Is.mono (fun b u q z=>?_) (fun _ _ _ z=>z) k.1,k.2.mono (fun b u z q=>by rw[ax (nj b z)];exact q) fun _ z=>z⟩
    rw[ax]
    ·exact q
    ·rcases z with z|z
     ·exact nj b z
     ·intro e;rw[e]at q;exact nfx u q z
   |kon a=>exact k
 ·obtain⟨b1,b2,b3⟩:=rep.priv j b h
  refine⟨b1,b2,?_⟩
  by_cases e:b=a
  ·exact⟨u',by rw[e,aP],hu⟩
  ·exact b3.same fun o z=>by rw[ax e];exact z
 ·unfold isOwn
  by_cases hj:j=i
  ·subst hj;rw[List.getElem?_set_self hi];exact hO
  ·rw[List.getElem?_set_ne (Ne.symm hj)];exact rep.ow j b h
theorem Rep.write {i:Nat}{a:Addr}{sl:Sl}{v:V}{vs':List V}(rep:Rep g M ρ env σ H)(o:ρ i a)(hi:i<env.length)(ev:σ[i]?=some (some v))(ok:SlOk g M (ρ i) (bz H a (.lst vs')) v sl)(hO:autoParam (sl.isO=true) autoR._auto_1) :
 Frz M H M (bz H a (.lst vs'))/\Rep g M ρ (env.set i (some sl)) σ (bz H a (.lst vs')):=rep.writeO (u':=.lst vs') True.intro o hi ev ok hO
end
section
variable {X:Cx}{E:XK}
noncomputable def bj:En->Res Fl:=fun env=>.ok (.nx env)
noncomputable def aD (f k:En->Res Fl):En->Res Fl:=fun env=>(f env).bind fun r=>match r with
 | .nx bf=>k bf
 |r=>.ok r
theorem ar:nu X E [] bj:=⟨_,vy,fun g M ρ env σ H D rep p=>p σ M ρ H (Frz.refl _ _) rep⟩
theorem ai {st:Stmt}{f:En->Res Fl}(h:rn X E st f):nu X E [st] f:=let ⟨t,a,b⟩:=h;⟨t,vz a,b⟩
theorem ag {st:Stmt}{bg:List Stmt}{f k:En->Res Fl}(h1:rn X E st f)(h2:nu X E bg k):nu X E (st::bg) (aD f k):=by
 obtain⟨t,a,b⟩:=h1
 obtain⟨u,c,d⟩:=h2
 refine⟨_,sE a c,fun g M ρ env σ H D rep p=>b g M ρ env σ H _ rep ?_⟩
 unfold aD at p
 cases q:f env with
 |stuck=>rw[q]at p;exact p
 |exc c=>rw[q]at p;exact p
 |ok r=>
  rw[q]at p
  cases r with
  |nx bf=>exact fun σ' M' ρ' H' e rep'=>d g M' ρ' bf σ' H' D rep' (PostS.frz e p)
  |bk bf=>exact p
  |ct bf=>exact p
  |rt r=>exact p
  |rm r bf=>exact p
noncomputable def cY (c:En->Res Bool)(a b:En->Res Fl):En->Res Fl:=fun env=>(c env).bind fun k=>if k then a env else b env
theorem aJ {c:Expr}{a b:List Stmt}{fc:En->Res Bool}{fa fb:En->Res Fl}{pos:Pos}(hc:tq X E c fc)(ha:nu X E a fa)(hb:nu X E b fb):rn X E (.If c a b pos) (cY fc fa fb):=by
 obtain⟨tc,p1,s1⟩:=hc
 obtain⟨ta,p2,s2⟩:=ha
 obtain⟨tb,p3,s3⟩:=hb
 refine⟨_,AV p1 p2 p3,fun g M ρ env σ H D rep p=>s1.oneS rep p fun b M' H' e rep' p'=>?_⟩
 cases b with
 |true=>exact ox (s2 g M' ρ env σ H' D rep' p')
 |false=>exact qZ (s3 g M' ρ env σ H' D rep' p')
noncomputable def aQ (f:En->Res R):En->Res Fl:=fun env=>(f env).bind fun r=>.ok (.rt r)
theorem ROk.ret {g:Gd}{M:Addr->Prop}{ρ:Pr}{env:En}{σ:St}{H H0:Hp}{v:V}{r:R}(rep:Rep g M ρ env σ H)(h0:Same g.H₀ H0)(h:ROk g M ρ H0 H v r)(hz:∀ a,¬ g.Z a):RetOk g H v r:=by
 have mu:∀ a,M a->g.H₀ a=none->Mu H a:=fun a h1 h2=>(rep.fl a h1 h2).elim id fun z=>(hz a z.1).elim
 have key:∀{fr:Bool}{a:Addr},msk g M fr a->nl g.H₀ H a\/(fr=false/\g.Ma a):=fun{fr a} z=>by
  cases fr with
  |true=>exact .inl ⟨z.2 rfl,mu a z.1 (z.2 rfl)⟩
  |false=>exact(rep.inn a z.1).imp (fun w=>⟨w,mu a z.1 w⟩) fun w=>⟨rfl,w⟩
 cases r with
 |val d fr al=>exact Is.weak (fun a z=>z.elim key fun⟨i,_,o⟩=>.inl (rep.priv i a o).2) h
 |new ds fr=>
  obtain⟨a,vs,rfl,h1,h2,h3,h4,h5⟩:=h
  exact⟨a,vs,rfl,h1,h0.free h3,IsAll.weak (fun b z=>⟨fun e=>h2 (e▸z.1),key z⟩) h5⟩
 |fre d=>
  obtain⟨T,ht,is⟩:=h
  exact Is.weak (fun a z=>let ⟨_,a2,a3,_⟩:=ht a z;⟨h0.free a2,a3⟩) is
theorem ROk.flatIs {g:Gd}{M:Addr->Prop}{ρ:Pr}{H H0:Hp}{v:V}{r:R}(h:ROk g M ρ H0 H v r)(hf:r.d.flat=true):Is H (fun _=>False) r.d v:=by
 cases r with
 |val d fr al=>exact Is.flat hf h
 |new ds fr=>simp[D.flat,R.d]at hf
 |fre d=>obtain⟨T,_,is⟩:=h;exact Is.flat hf is
theorem ao {e:Expr}{f:En->Res R}{pos:Pos}(h:PD X E e f):rn X E (.Return (some e) pos) (aQ f):=by
 obtain⟨t,p1,s1⟩:=h
 exact⟨_,yo p1,fun g M ρ env σ H D rep p=>s1.oneS rep p fun r v M' H' e rep' ro p'=>p' v M' H' (Frz.refl _ _) rep'.same (fun hz=>ro.ret rep' rep.same hz) fun hf=>ro.flatIs hf⟩
noncomputable def bN (i:Nat)(f:En->Res R):En->Res Fl:=fun env=>(f env).bind fun r=>if i<env.length then .ok (.nx (put env i r)) else .stuck
theorem v6 {mg:Str->Option Value}{i:Nat}{t:TE}{f:En->Res R}(s:Snd mg E t f):v5 mg E (AW t (lr i)) (bN i f):=by
 intro g M ρ env σ H D rep p
 refine s.oneS rep p fun r v M' H' e rep' ro p'=>?_
 by_cases hi:i<env.length
 ·rw[if_pos hi]at p'
  obtain⟨M2,ρ2,e2,rep2⟩:=rep'.store rep.same hi ro
  exact p' _ M2 ρ2 H' e2 rep2
 ·rw[if_neg hi]at p';exact p'.elim
theorem aO {i:Nat}{x:Str}{e:Expr}{f:En->Res R}{pos pos':Pos}(hN:X.N.Nodup)(hi:X.N[i]?=some x)(hx:yd X.env.scope x)(h:PD X E e f)(hs:autoParam (swapsWith e (some (.Name x pos')) pos.line X.env=pure false) autoR._auto_1)
 (hf:X.fn x=true\/X.env.scope.names.lookup x=some .local:=by first|exact .inl rfl|exact .inr rfl|assumption):rn X E (.Assign [.Name x pos'] e pos) (bN i f):=by
 obtain⟨t,p1,s1⟩:=h
 exact⟨_,sF hN hi hx p1 hs hf,v6 s1⟩
noncomputable def ff (env:En)(i:Nat):Option (List D×Bool):=match env[i]? with
 |some (some (.own ds fr))=>some (ds,fr)
 |some (some (.tre (.lst ds)))=>some (ds,true)
 |_=>none
mutual
noncomputable def D.sz:D->Nat
 | .tup ds=>D.szs ds+1
 | .lst ds=>D.szs ds+1
 | .dic _ ds=>D.szs ds+1
 |_=>0
noncomputable def D.szs:List D->Nat
 | []=>0
 |d::ds=>d.sz+D.szs ds+1
end
section
variable {H:Hp}{m m':Addr->Prop}
mutual
theorem Is.avoid {a:Addr}{e:D}(ha:Is H m' e (.ref a)):∀{d:D}{v:V},d.sz<e.sz->Is H m d v->Is H (fun b=>m b/\b≠a) d v
 | .non,_,_,h=>h
 | .bl _,_,_,h=>h
 | .int _,_,_,h=>h
 | .str _,_,_,h=>h
 | .tup ds,_,hs,h=>by
  obtain⟨b,vs,rfl,h1,h2⟩:=h
  simp only[D.sz]at hs
  exact⟨b,vs,rfl,h1,IsAll.avoid ha (by omega) h2⟩
 | .lst ds,_,hs,h=>by
  have h':=h
  obtain⟨b,vs,rfl,h1,h2⟩:=h
  have nb:b≠a:=fun z=>by
   subst z
   have q:=Is.inj h' ha
   rw[q]at hs;omega
  simp only[D.sz]at hs
  refine⟨b,vs,rfl,?_,IsAll.avoid ha (by omega) h2⟩
  rcases h1 with⟨h1,h3⟩|⟨o,h1,h3⟩
  ·exact .inl ⟨h1,h3,nb⟩
  ·exact .inr ⟨o,h1,h3,nb⟩
 | .dic ks ds,_,hs,h=>by
  have h':=h
  obtain⟨b,kvs,rfl,h1,h2⟩:=h
  have nb:b≠a:=fun z=>by
   subst z
   have q:=Is.inj h' ha
   rw[q]at hs;omega
  simp only[D.sz]at hs
  exact⟨b,kvs,rfl,⟨h1.1,h1.2,nb⟩,IsAll.avoid ha (by omega) h2⟩
theorem IsAll.avoid {a:Addr}{e:D}(ha:Is H m' e (.ref a)):∀{ds:List D}{vs:List V},D.szs ds<e.sz->IsAll H m ds vs->IsAll H (fun b=>m b/\b≠a) ds vs
 | [],_,_,h=>h
 |d::ds,_,hs,h=>by
  obtain⟨v,r,rfl,h1,h2⟩:=h
  simp only[D.szs]at hs
  exact⟨v,r,rfl,Is.avoid ha (by omega) h1,IsAll.avoid ha (by omega) h2⟩
end
end
theorem Rep.toOwn {g:Gd}{M:Addr->Prop}{ρ:Pr}{env:En}{σ:St}{H:Hp}{i:Nat}{ds:List D}{fr:Bool}(rep:Rep g M ρ env σ H)(e:ff env i=some (ds,fr)) :
 ∃(M':Addr->Prop)(ρ':Pr)(a:Addr)(vs:List V),(∀ b,M b->M' b)/\Rep g M' ρ' (env.set i (some (.own ds fr))) σ H/\σ[i]?=some (some (.ref a))/\H a=some (.lst vs)/\(∀ b,ρ' i b↔b=a)/\IsAll H (msk g M' fr) ds vs/\i<env.length/\(∀ j b,ρ' j b->ρ j b)/\(∀ j,j≠i->ρ' j=ρ j):=by
 unfold ff at e
 cases q:env[i]? with
 |none=>rw[q]at e;cases e
 |some o=>
  have hi:i<env.length:=(List.getElem?_eq_some_iff.mp q).1
  have hself:env.set i (env[i])=env:=List.set_getElem_self hi
  cases o with
  |none=>rw[q]at e;cases e
  |some sl=>
   obtain⟨v,ev,k⟩:=rep.slot i sl q
   rw[q]at e
   cases sl with
   |val d f=>cases e
   |mes d=>cases e
   |pin d=>cases e
   |dis d=>cases e
   |kon a=>cases e
   |own ds' f'=>
    cases e
    obtain⟨a,vs,rfl,h1,h2,h4⟩:=k
    have eq:env.set i (some (.own ds fr))=env:=by
     have:env[i]=some (.own ds fr):=by
      have:=(List.getElem?_eq_some_iff.mp q).2;exact this
     rw[<- this];exact hself
    rw[eq]
    exact⟨M,ρ,a,vs,fun _ z=>z,rep,ev,h1,h2,h4,hi,fun _ _ z=>z,fun _ _=>rfl⟩
   |tre d=>
    cases d with
    |lst ds'=>
     cases e
     have k':=k
     obtain⟨a,vs,rfl,h1,h2⟩:=k
     have pa:ρ i a:=by rcases h1 with⟨_,z⟩|⟨_,_,z⟩<;>exact z
     obtain⟨pm,p0,uo,pl,pmu⟩:=rep.priv i a pa
     have hl:H a=some (.lst vs):=by
      rcases h1 with⟨h1,_⟩|⟨o,h1,_⟩
      ·exact h1
      ·rw[h1]at pl;cases pl;exact pmu.elim
     have inner:IsAll H (fun b=>ρ i b/\b≠a) ds vs:=IsAll.avoid k' (by simp only[D.sz];omega) h2
     let M':Addr->Prop:=fun b=>M b\/(ρ i b/\b≠a)
     let ρ':Pr:=mo ρ i fun b=>b=a
     have rr:Rep g M' ρ' (env.set i (some (.own ds true))) (σ.set i (some (.ref a))) H:=by
      have r1:Rep g M' (fun j b=>if j=i then b=a else ρ j b) (env.set i (some (.own ds true))) σ H:=by
       refine⟨rep.same,fun b hb=>hb.elim (rep.froz b) fun z=>?_,fun b hb=>hb.elim (rep.inn b) fun z=>.inl (rep.priv i b z.1).2.1,fun b hb h0=>hb.elim (fun z=>rep.fl b z h0) fun z=>.inl (rep.priv i b z.1).2.2,fun j s ej=>?_,fun j b h=>?_,fun j k b w1 w2=>?_,fun j b h=>?_,by rw[List.length_set];exact rep.len,rep.zz⟩
       ·exact(rep.priv i b z.1).2.2.some
       ·by_cases hj:j=i
        ·subst hj
         rw[List.getElem?_set_self hi]at ej;cases ej
         exact⟨_,ev,a,vs,rfl,hl,fun b=>by simp,IsAll.weak (fun b z=>⟨.inr z,fun _=>(rep.priv j b z.1).2.1⟩) inner⟩
        ·rw[List.getElem?_set_ne (Ne.symm hj)]at ej
         obtain⟨v',ev',k2⟩:=rep.slot j s ej
         have eT:(fun b=>if j=i then b=a else ρ j b)=ρ j:=by funext b;rw[if_neg hj]
         exact⟨v',ev',by show SlOk g M' (fun b=>if j=i then b=a else ρ j b) H v' s;rw[eT];exact SlOk.weak (fun _=>.inl) k2⟩
       ·by_cases hj:j=i
        ·rw[if_pos hj]at h;subst h
         exact⟨fun z=>z.elim pm fun z=>z.2 rfl,p0,Mu.lst hl⟩
        ·rw[if_neg hj]at h
         exact⟨fun z=>z.elim (rep.priv j b h).1 fun z=>hj (rep.apart j i b h z.1),(rep.priv j b h).2⟩
       ·by_cases hj:j=i
        ·by_cases hk:k=i
         ·rw[hj,hk]
         ·rw[if_pos hj]at w1;rw[if_neg hk]at w2;subst w1
          exact absurd (rep.apart k i b w2 pa) hk
        ·by_cases hk:k=i
         ·rw[if_pos hk]at w2;rw[if_neg hj]at w1;subst w2
          exact absurd (rep.apart j i b w1 pa) hj
         ·rw[if_neg hj]at w1;rw[if_neg hk]at w2;exact rep.apart j k b w1 w2
       ·unfold isOwn
        by_cases hj:j=i
        ·subst hj;rw[List.getElem?_set_self hi];rfl
        ·rw[if_neg hj]at h
         rw[List.getElem?_set_ne (Ne.symm hj)];exact rep.ow j b h
      have hi2:i<σ.length:=by rw[<- rep.len];exact hi
      have es:σ.set i (some (.ref a))=σ:=by
       have:σ[i]=some (.ref a):=(List.getElem?_eq_some_iff.mp ev).2
       rw[<- this];exact List.set_getElem_self hi2
      rw[es];exact r1
     have hi2:i<σ.length:=by rw[<- rep.len];exact hi
     have es:σ.set i (some (.ref a))=σ:=by
      have:σ[i]=some (.ref a):=(List.getElem?_eq_some_iff.mp ev).2
      rw[<- this];exact List.set_getElem_self hi2
     rw[es]at rr
     refine⟨M',ρ',a,vs,fun _=>.inl,rr,ev,hl,fun b=>by show mo ρ i (fun b=>b=a) i b↔b=a;rw[d_],IsAll.weak (fun b z=>⟨.inr z,fun _=>(rep.priv i b z.1).2.1⟩) inner,hi,fun j b z=>?_,fun j hj=>cV hj⟩
     by_cases hj:j=i
     ·subst hj
      have z:mo ρ j (fun b=>b=a) j b:=z
      rw[d_]at z;rw[z];exact pa
     ·have z:mo ρ i (fun b=>b=a) j b:=z
      rw[cV hj]at z;exact z
    |_=>cases e
noncomputable def nw (i:Nat)(f:En->Res R):En->Res Fl:=fun env=>match ff env i with
 |some (ds,fr)=>(f env).bind fun r=>if ds.length<lim/\¬ i∈r.al then .ok (.nx ((frz env r.al).set i (some (.own (ds++[r.d]) (fr&&r.fr))))) else .stuck
 |none=>.stuck
theorem jP {i:Nat}{a e:Expr}{f:En->Res R}{apos cpos pos:Pos}(ha:PE X a (kX i))(h:PD X E e f)
 (hbase:autoParam (attributeBase a "append" X.env (eval a X.env)=eval a X.env) autoR._auto_1)
 (hfew:autoParam (((backTo cpos (starEach [e] X.env)).all (fun x=>!x.1)&&(backToKw cpos (keywordEach [] X.env)).all (fun x=>x.1.isSome)
   && decide (([e]:List Expr).length+([]:List Keyword).length+(if ([]:List Keyword).isEmpty then 0 else 1)<30))=true) autoR._auto_1)
 (hline:autoParam ((apos.endLine==cpos.line)=true) autoR._auto_1) (hs:autoParam (starEach [e] X.env=(false,eval e X.env)::starEach [] X.env) autoR._auto_1) (hplain:autoParam ((backTo cpos (starEach [] X.env)).any (·.1)=false) autoR._auto_1)
 (hsw:autoParam (swapsWith (.Call (.Attribute a "append" apos) [e] [] cpos) none pos.line X.env=pure false) autoR._auto_1) :
 rn X E (.Expr (.Call (.Attribute a "append" apos) [e] [] cpos) pos) (nw i f):=by
 obtain⟨t,p1,s1⟩:=h
 refine⟨_,jM (m9 PySem.F.plainAttrs_list PySem.F.slot_list_append PySem.F.type_list_append iU ha (d9 p1 ge hs) hbase hfew hline hs hplain) hsw,fun g M ρ env σ H D rep p=>?_⟩
 unfold nw at p
 cases e1:ff env i with
 |none=>rw[e1]at p;exact p.elim
 |some o=>
  obtain⟨ds,fr⟩:=o
  rw[e1]at p
  dsimp only at p
  obtain⟨M0,ρ0,l,vs,m0,rep0,ev,k1,k2,k4,hi,_⟩:=rep.toOwn e1
  refine⟨_,ev,.inl ⟨rfl,vs,SqL.of k1⟩,s1.oneS rep p fun r y M' H' e rep' ro p'=>?_⟩
  by_cases hc:ds.length<lim/\¬ i∈r.al
  ·rw[if_pos hc]at p'
   obtain⟨M1,x1,x1m,rep1,is1⟩:=ro.is rep' e rep.same
   obtain⟨M2,ρ2,x2,rep2,o2,k5,k6⟩:=Rep.frz r.al rep1
   have is2:Is H' (msk g M2 r.fr) r.d y:=Is.frozen rep1 x2 o2 is1
   have e2:ff (frz env r.al) i=some (ds,fr):=by
    unfold ff
    rw[tF _ hc.2]
    exact e1
   obtain⟨M3,ρ3,l3,vs3,m3,rep3,ev3,j1,j2,j4,hi3,_⟩:=rep2.toOwn e2
   rw[ev]at ev3;cases ev3
   have hl:H' l=some (.lst vs):=e.h _ _ k1
   rw[hl]at j1;cases j1
   have pl:ρ3 i l:=(j2 l).mpr rfl
   obtain⟨nl3,_⟩:=rep3.priv i l pl
   have is4:IsAll H' (msk g M3 (fr&&r.fr)) (ds++[r.d]) (vs++[y]):=by
    refine IsAll.snoc (IsAll.weak (fun b z=>⟨z.1,fun q=>z.2 (by cases fr<;>simp_all)⟩) j4) (Is.weak (fun b z=>⟨m3 b z.1,fun q=>z.2 (by cases fr<;>simp_all)⟩) is2)
   have kp:∀ b u,H' b=some u->(msk g M3 (fr&&r.fr) b\/fixd u)->bz H' l (.lst (vs++[y])) b=some u:=fun b u q z=>by
    rw[ax]
    ·exact q
    ·rintro rfl
     rcases z with z|z
     ·exact nl3 z.1
     ·rw[hl]at q;cases q;exact z
   obtain⟨f1,rep4⟩:=rep3.write (sl:=.own (ds++[r.d]) (fr&&r.fr)) (vs':=vs++[y]) pl (by rw[List.length_set];exact hi3) ev ⟨l,vs++[y],rfl,aP,j2,IsAll.mono kp (fun _ _ _ z=>z) is4⟩
   rw[List.set_set]at rep4
   refine⟨l,vs,y,rfl,rfl,hl,by rw[k4.length];exact mj hc.1,?_⟩
   exact p' σ M3 ρ3 _ (Frz.trans ⟨fun a z=>m3 a (x2 a (x1m a z)),fun _ _ q _=>q⟩ f1) rep4
  ·rw[if_neg hc]at p';exact p'.elim
end
end L3
namespace L3
open PySem PySem.Spec PyProof.Rows L2
noncomputable def yV (ix:List Nat)(t:TG)(asg:D->Bool->En->Option En):Prop:=∀(g:Gd)(M:Addr->Prop)(ρ:Pr)(env bf:En)(σ:St)(H:Hp)(d:D)(fr:Bool)(v:V)(Q:St->Hp->Prop),
 Rep g M ρ env σ H->Is H (msk g M fr) d v->asg d fr env=some bf->(∀(σ':St)(ρ':Pr),Rep g M ρ' bf σ' H->(∀ j,¬ j∈ix->σ'[j]?=σ[j]?)->(∀ j a,ρ' j a->ρ j a)->Q σ' H)->t v σ H Q
noncomputable def Bn (ix:List Nat)(t:xw)(asg:List D->Bool->En->Option En):Prop:=∀(g:Gd)(M:Addr->Prop)(ρ:Pr)(env bf:En)(σ:St)(H:Hp)(ds:List D)(fr:Bool)(vs:List V)(Q:St->Hp->Prop),
 Rep g M ρ env σ H->IsAll H (msk g M fr) ds vs->asg ds fr env=some bf->(∀(σ':St)(ρ':Pr),Rep g M ρ' bf σ' H->(∀ j,¬ j∈ix->σ'[j]?=σ[j]?)->(∀ j a,ρ' j a->ρ j a)->Q σ' H)->t vs σ H Q
noncomputable def yW (X:Cx)(ix:List Nat)(tg:Expr)(asg:D->Bool->En->Option En):Prop:=∃ t,PG X tg t/\yV ix t asg
noncomputable def v7 (X:Cx)(ix:List Nat)(ts:List Expr)(asg:List D->Bool->En->Option En):Prop:=∃ t,yp X ts t/\Bn ix t asg
section
variable {X:Cx}{E:XK}
noncomputable def gN (i:Nat):D->Bool->En->Option En:=fun d fr env=>if i<env.length then some (env.set i (some (.val d fr))) else none
theorem rp {i:Nat}:yV [i] (lr i) (gN i):=by
 intro g M ρ env bf σ H d fr v Q rep is e k
 unfold gN at e
 by_cases hi:i<env.length
 ·rw[if_pos hi]at e
  cases e
  exact k _ _ (rep.put (sl:=.val d fr) (T:=fun _=>False) hi is (fun _ z=>z.elim) fun _ z=>z.elim) (fun j hj=>List.getElem?_set_ne fun e=>hj (by simp[e])) fun j a z=>by
   by_cases hj:j=i
   ·subst hj;rw[d_]at z;exact z.elim
   ·rw[cV hj]at z;exact z
 ·rw[if_neg hi]at e;cases e
theorem au {i:Nat}{x:Str}{pos:Pos}(hN:X.N.Nodup)(hi:X.N[i]?=some x)(hx:yd X.env.scope x)(hf:X.fn x=true\/X.env.scope.names.lookup x=some .local:=by first|exact .inl rfl|exact .inr rfl|assumption):yW X [i] (.Name x pos) (gN i):=
 ⟨_,ph hN hi hx hf,rp⟩
noncomputable def bO:List D->Bool->En->Option En:=fun ds _ env=>match ds with
 | []=>some env
 |_=>none
noncomputable def aE (f:D->Bool->En->Option En)(fs:List D->Bool->En->Option En):List D->Bool->En->Option En:=fun ds fr env=>match ds with
 |d::r=>(f d fr env).bind fun bf=>fs r fr bf
 | []=>none
theorem bp:v7 X [] [] bO:=⟨_,vA,fun g M ρ env bf σ H ds fr vs Q rep is e k=>by
 cases ds with
 |nil=>cases e;cases is;exact⟨rfl,k σ ρ rep (fun _ _=>rfl) fun _ _ z=>z⟩
 |cons d ds=>cases e⟩
theorem aB {e:Expr}{es:List Expr}{f:D->Bool->En->Option En}{fs:List D->Bool->En->Option En}{ix jx:List Nat}(h1:yW X ix e f)(h2:v7 X jx es fs)
 (hs:∀ t,PG X e t->∀ u,yp X es u->yp X (e::es) (xx t u)):v7 X (ix++jx) (e::es) (aE f fs):=by
 obtain⟨t,p1,s1⟩:=h1
 obtain⟨u,p2,s2⟩:=h2
 refine⟨_,hs t p1 u p2,fun g M ρ env bf σ H ds fr vs Q rep is e k=>?_⟩
 cases ds with
 |nil=>cases e
 |cons d ds=>
  obtain⟨v,r,rfl,i1,i2⟩:=is
  unfold aE at e
  dsimp only at e
  cases q:f d fr env with
  |none=>rw[q]at e;cases e
  |some env1=>
   rw[q]at e
   refine⟨v,r,rfl,s1 g M ρ env env1 σ H d fr v _ rep i1 q fun σ1 ρ1 rep1 c1 d1=>?_⟩
   exact s2 g M ρ1 env1 bf σ1 H ds fr r Q rep1 i2 e fun σ2 ρ2 rep2 c2 d2=>k σ2 ρ2 rep2 (fun j hj=>(c2 j fun z=>hj (by simp[z])).trans (c1 j fun z=>hj (by simp[z]))) fun j a z=>d1 j a (d2 j a z)
noncomputable def gT (n:Nat)(fs:List D->Bool->En->Option En):D->Bool->En->Option En:=fun d fr env=>match d with
 | .tup ds=>if ds.length=n then fs ds fr env else none
 |_=>none
theorem bC {ix:List Nat}{es:List Expr}{k:Nat}{pos:Pos}{n:Nat}{fs:List D->Bool->En->Option En}(hc:X.calm=true)(h:v7 X ix es fs)(hn:autoParam ((assignEach es X.env).length=n) autoR._auto_1)(hst:autoParam ((assignEach es X.env).findIdx? (·.1)=none) autoR._auto_1):yW X ix (.Tuple es k pos) (gT n fs):=by
 obtain⟨t,p1,s1⟩:=h
 refine⟨_,yq hc p1 hn hst,fun g M ρ env bf σ H d fr v Q rep is e kk=>?_⟩
 unfold gT at e
 cases d with
 |tup ds=>
  obtain⟨a,vs,rfl,h1,h2⟩:=is
  dsimp only at e
  by_cases hl:ds.length=n
  ·rw[if_pos hl]at e
   exact⟨a,vs,rfl,SqT.of h1,h2.length.trans hl,s1 g M ρ env bf σ H ds fr vs Q rep h2 e kk⟩
  ·rw[if_neg hl]at e;cases e
 |_=>cases e
end
structure Src where
 xs:List D
 fr:Bool
 al:List Nat
structure Walk (J:It) (m:Addr->Prop) (H:Hp) (xs:List D):Prop where
 go:∀ H' i d,(∀ a o,H a=some o->(m a\/fixd o)->H' a=some o)->xs[i]?=some d->J.go i H'/\∀ x H'',J.yld i H' x H''->Same H' H''/\Is H'' m d x
 stop:∀ H',(∀ a o,H a=some o->(m a\/fixd o)->H' a=some o)->J.stop xs.length H'
theorem Walk.weak {J:It}{m m':Addr->Prop}{H:Hp}{xs:List D}(w:Walk J m H xs)(h:∀ a,m a->m' a):Walk J m' H xs:=
 ⟨fun H' i d k e=>let ⟨a,b⟩:=w.go H' i d (fun a o q z=>k a o q (z.imp (h a) id)) e;⟨a,fun x H'' y=>let ⟨c,d⟩:=b x H'' y;⟨c,d.weak h⟩⟩,fun H' k=>w.stop H' fun a o q z=>k a o q (z.imp (h a) id)⟩
noncomputable def PostI (mg:Str->Option Value)(E:XK)(g:Gd)(M:Addr->Prop)(ρ:Pr)(env:En)(σ:St)(H:Hp)(R:It->Hp->Prop):Res Src->Prop
 | .stuck=>False
 | .exc c=>vZ mg E g c
 | .ok s=>∀ J M' H',Ext M H M' H'->Rep g M' ρ env σ H'->Walk J (vmsk g M' s.fr ρ s.al) H' s.xs->R J H'
noncomputable def Bo (mg:Str->Option Value)(E:XK)(wi:TI)(f:En->Res Src):Prop:=∀ g M ρ env σ H R,Rep g M ρ env σ H->PostI mg E g M ρ env σ H R (f env)->wi σ H R
noncomputable def yX (X:Cx)(E:XK)(tg iter:Expr)(f:En->Res Src):Prop:=∃ wi,PI X tg iter wi/\Bo X.mg E wi f
section
variable {X:Cx}{E:XK}{tg:Expr}
noncomputable def Dd (K:PySem.W.Frag)(tl:TE):TI:=fun σ H R=>tl σ H fun x H1=>∃ a,x=.ref a/\(((∃ xs,SqL K H1 a xs)/\R (CV K a) H1)\/((∃ xs,SqT K H1 a xs)/\R (CW K a) H1))
theorem yY {l:Expr}{tl:TE}(hl:PE X l tl):PI X tg l (Dd X.K tl):=by
 intro pins s σ H R I h
 refine da (hl pins s σ H _ I h) fun v s1 ⟨x,H1,I1,r1,q1⟩=>?_
 obtain⟨a,e,q⟩:=q1
 subst e
 cases r1
 rcases q with⟨⟨xs,hq⟩,q⟩|⟨⟨xs,hq⟩,q⟩
 ·obtain⟨its,rv,p,hz⟩:=I1.list hq
  refine wpAny_pyIter_list p.isList ?_
  refine⟨s1.heap.objs.size,[s1.heap.objs.size],_,_,H1,rfl,I1.kept (t':=s1.toks) fun b o e=>Heap.get?_push_of_some _ e,qN a _,⟨_,Heap.get?_push_size _ rfl,rfl,rfl⟩,fun b hb=>?_,q⟩
  have e:b=s1.heap.objs.size:=by simpa using hb
  subst e
  exact I1.fpOk (Nat.le_refl _) (I1.hok.fresh (Nat.le_refl _))
 ·obtain⟨its,rv,p,hz⟩:=I1.tuple hq
  refine wpAny_pyIter_tuple (show s1.heap.IsTuple a its.toArray from p) ?_
  refine⟨s1.heap.objs.size,[s1.heap.objs.size],_,_,H1,rfl,I1.kept (t':=s1.toks) fun b o e=>Heap.get?_push_of_some _ e,oh a _,⟨_,Heap.get?_push_size _ rfl,rfl,rfl⟩,fun b hb=>?_,q⟩
  have e:b=s1.heap.objs.size:=by simpa using hb
  subst e
  exact I1.fpOk (Nat.le_refl _) (I1.hok.fresh (Nat.le_refl _))
theorem rq {K:PySem.W.Frag}{a:Addr}{m:Addr->Prop}{H:Hp}{ds:List D}{vs:List V}(h:(H a=some (.lst vs)/\m a)\/∃ o,H a=some (.frz o (.lst vs))/\m a)(is:IsAll H m ds vs):Walk (CV K a) m H ds:=by
 have st:∀ H',(∀ a o,H a=some o->(m a\/fixd o)->H' a=some o)->SqL K H' a vs:=fun H' k=>by
  rcases h with⟨h,hm⟩|⟨o,h,_⟩
  ·exact .inl (.inl (k a _ h (.inl hm)))
  ·exact .inl (.inr ⟨o,k a _ h (.inr True.intro)⟩)
 refine⟨fun H' i d k e=>?_,fun H' k=>⟨vs,st H' k,by rw[is.length];exact Nat.le_refl _⟩⟩
 obtain⟨v,ev,iv⟩:=(is.mono k fun _ _ _ z=>z:IsAll H' m ds vs).get e
 refine⟨⟨vs,v,st H' k,ev⟩,fun x H'' y=>?_⟩
 obtain⟨rfl,y⟩:=y
 have:=y vs (st _ k)
 rw[ev]at this;cases this
 exact⟨Same.refl _,iv⟩
theorem tG {K:PySem.W.Frag}{a:Addr}{m:Addr->Prop}{H:Hp}{ds:List D}{vs:List V}(h:H a=some (.tup vs))(is:IsAll H m ds vs):Walk (CW K a) m H ds:=by
 have st:∀ H',(∀ a o,H a=some o->(m a\/fixd o)->H' a=some o)->SqT K H' a vs:=fun H' k=>SqT.of (k a _ h (.inr True.intro))
 refine⟨fun H' i d k e=>?_,fun H' k=>⟨vs,st H' k,by rw[is.length];exact Nat.le_refl _⟩⟩
 obtain⟨v,ev,iv⟩:=(is.mono k fun _ _ _ z=>z:IsAll H' m ds vs).get e
 refine⟨⟨vs,v,st H' k,ev⟩,fun x H'' y=>?_⟩
 obtain⟨rfl,y⟩:=y
 have:=y vs (st _ k)
 rw[ev]at this;cases this
 exact⟨Same.refl _,iv⟩
noncomputable def et (lo:Int)(n:Nat):List D:=(List.range n).map fun k=>.int (lo+(k:Nat))
theorem oH {m:Addr->Prop}{H:Hp}(lo:Int)(n:Nat):Walk (Cw lo n) m H (et lo n):=by
 refine⟨fun H' i d k e=>?_,fun H' k=>by show n<=(et lo n).length;simp[et]⟩
 have hi:i<n:=by have:=(List.getElem?_eq_some_iff.mp e).1;simpa[et] using this
 refine⟨hi,fun x H'' y=>?_⟩
 obtain⟨rfl,rfl⟩:=y
 refine⟨Same.refl _,?_⟩
 have:(et lo n)[i]?=some (.int (lo+(i:Nat))):=by simp[et,hi]
 rw[this]at e;cases e
 rfl
noncomputable def fg (f:En->Res R):En->Res Src:=fun env=>(f env).bind fun r=>match r.d with
 | .lst ds=>.ok ⟨ds,r.fr,r.al⟩
 | .tup ds=>.ok ⟨ds,r.fr,r.al⟩
 |_=>.stuck
theorem bq {l:Expr}{f:En->Res R}(h:PD X E l f):yX X E tg l (fg f):=by
 obtain⟨t,p1,s1⟩:=h
 refine⟨_,yY p1,fun g M ρ env σ H R rep p=>?_⟩
 refine s1.one rep (P:=fun M H r=>PostI X.mg E g M ρ env σ H R r) p (fun _ _ z=>z) (fun _ _ _ z=>z) (fun M H M' H' r e p=>?_) fun r v M1 H1 e1 rep1 is q=>?_
 ·cases r with
  |stuck=>exact p
  |exc c=>exact p
  |ok s=>exact fun J M2 H2 e2=>p J M2 H2 (e.trans e2)
 ·cases z:r.d with
  |lst ds=>
   rw[z]at is
   simp only[z]at q
   obtain⟨a,vs,rfl,h1,h2⟩:=is
   exact⟨a,rfl,.inl ⟨⟨vs,.inl (h1.imp (·.1) fun⟨o,z,_⟩=>⟨o,z⟩)⟩,q _ M1 H1 (Ext.refl _ _) rep1 (rq h1 h2)⟩⟩
  |tup ds=>
   rw[z]at is
   simp only[z]at q
   obtain⟨a,vs,rfl,h1,h2⟩:=is
   exact⟨a,rfl,.inr ⟨⟨vs,SqT.of h1⟩,q _ M1 H1 (Ext.refl _ _) rep1 (tG h1 h2)⟩⟩
  |_=>simp only[z]at q;exact q.elim
noncomputable def cR (i:Int):Bool:=decide (-(2 ^ 62)<=i)&&decide (i<2 ^ 62)
noncomputable def xG (fs:En->Res (List R)):En->Res Src:=fun env=>(fs env).bind fun rs=>match rs.map R.d with
 | [.int j]=>if cR j then .ok ⟨et 0 j.toNat,true,[]⟩ else .stuck
 |_=>.stuck
theorem PostI.ext {mg:Str->Option Value}{g:Gd}{M M':Addr->Prop}{ρ:Pr}{env:En}{σ:St}{H H':Hp}{R:It->Hp->Prop}{r:Res Src}(e:Ext M H M' H')(p:PostI mg E g M ρ env σ H R r):PostI mg E g M' ρ env σ H' R r:=by
 cases r with
 |stuck=>exact p
 |exc c=>exact p
 |ok s=>exact fun J M2 H2 e2=>p J M2 H2 (e.trans e2)
theorem cM {a:Expr} {fs:En->Res (List R)} {p pos:Pos} (hg:Gl X "range") (hm:X.mg "range"=none) (ha:rj X E [a] fs) (hs:autoParam (starEach [a] X.env=[(false,eval a X.env)]) autoR._auto_1):yX X E tg (.Call (.Name "range" p) [a] [] pos) (xG fs):=by
 obtain⟨t,p1,s1⟩:=ha
 refine⟨_,qO hg hm p1 hs,fun g M ρ env σ H Rq rep p=>s1.one rep (P:=fun M H r=>PostI X.mg E g M ρ env σ H Rq r) p (fun _ _ z=>z) (fun _ _ _ z=>z) (fun _ _ _ _ _ e p=>p.ext e) fun rs vs M1 H1 e1 rep1 is q=>?_⟩
 generalize hd:rs.map R.d=ds at is q
 match ds,is,q with
 | [.int j],is,q=>
  obtain⟨v,w,rfl,i1,i2⟩:=is
  cases i1;cases i2
  dsimp only at q
  by_cases hc:cR j=true
  ·rw[if_pos hc]at q
   simp only[cR,Bool.and_eq_true,decide_eq_true_eq]at hc
   exact⟨j,rfl,hc.1,hc.2,q _ M1 H1 (Ext.refl _ _) rep1 (oH 0 j.toNat)⟩
  ·rw[if_neg hc]at q;exact q.elim
 | [],_,q=>exact q.elim
 | [.non],_,q=>exact q.elim
 | [.bl _],_,q=>exact q.elim
 | [.str _],_,q=>exact q.elim
 | [.tup _],_,q=>exact q.elim
 | [.lst _],_,q=>exact q.elim
 | [.dic _ _],_,q=>exact q.elim
 | .int _::_::_,_,q=>exact q.elim
 | .non::_::_,_,q=>exact q.elim
 | .bl _::_::_,_,q=>exact q.elim
 | .str _::_::_,_,q=>exact q.elim
 | .tup _::_::_,_,q=>exact q.elim
 | .lst _::_::_,_,q=>exact q.elim
 | .dic _ _::_::_,_,q=>exact q.elim
noncomputable def bP (asg:D->Bool->En->Option En)(fr:Bool)(body:En->Res Fl):List D->En->Res Fl
 | [],env=>.ok (.nx env)
 |x::xs,env=>match asg x fr env with
  |none=>.stuck
  |some env1=>(body env1).bind fun r=>match r with
   | .nx bf=>bP asg fr body xs bf
   | .ct bf=>bP asg fr body xs bf
   | .bk bf=>.ok (.nx bf)
   | .rt r=>.ok (.rt r)
   | .rm r e=>.ok (.rm r e)
noncomputable def fC (src:En->Res Src)(asg:D->Bool->En->Option En)(body:En->Res Fl):En->Res Fl:=fun env=>(src env).bind fun s=>bP asg s.fr body s.xs (frz env s.al)
noncomputable def Bp (J:It)(u:TG)(tb:TS)(D:Ends)(σ:St)(H1:Hp):Prop:=∃ W:Nat->Nat->St->Hp->Prop,(∃ m,W 0 m σ H1)/\∀ i m σ H,W i m σ H->(J.stop i H/\D.nx σ H)\/(J.go i H/\∃ N:St->Hp->Prop,(∀ σ' H',N σ' H'->∃ m',m'<m/\W (i+1) m' σ' H')/\∀ x H',J.yld i H x H'->u x σ H' fun σ2 H2=>tb { D with nx:=N,ct:=N,bk:=D.nx } σ2 H2)
theorem tH {J:It}{u:TG}{tb:TS}{ix:List Nat}{asg:D->Bool->En->Option En}{fb:En->Res Fl}{fr:Bool}{xs:List D}{g:Gd}{M2:Addr->Prop}{ρ2:Pr}{env2:En}{σ:St}{H1:Hp}{D:Ends}(s2:yV ix u asg)(s3:v5 X.mg E tb fb)(rep2:Rep g M2 ρ2 env2 σ H1)(wk2:Walk J (msk g M2 fr) H1 xs)(p2':PostS X.mg E g M2 H1 D (bP asg fr fb xs env2)):Bp J u tb D σ H1:=by
 refine⟨fun i m σ' H'=>m=xs.length-i/\i<=xs.length/\∃ M' ρ' bf,Rep g M' ρ' bf σ' H'/\Frz M2 H1 M' H'/\PostS X.mg E g M' H' D (bP asg fr fb (xs.drop i) bf),⟨_,rfl,Nat.zero_le _,M2,ρ2,_,rep2,Frz.refl _ _,p2'⟩,?_⟩
 rintro i m σ' H' ⟨rfl,hle,M',ρ',bf,rep',f',p'⟩
 have kp:∀ a o,H1 a=some o->(msk g M2 fr a\/fixd o)->H' a=some o:=fun a o e z=>f'.h a o e (z.imp (·.1) id)
 by_cases hlt:i<xs.length
 ·have ed:xs[i]?=some xs[i]:=by simp[hlt]
  obtain⟨go,yl⟩:=wk2.go H' i _ kp ed
  have edrop:xs.drop i=xs[i]::xs.drop (i+1):=List.drop_eq_getElem_cons hlt
  rw[edrop]at p'
  unfold bP at p'
  refine .inr ⟨go,fun σ'' H''=>∃ M'' ρ'' env'',Rep g M'' ρ'' env'' σ'' H''/\Frz M2 H1 M'' H''/\PostS X.mg E g M'' H'' D (bP asg fr fb (xs.drop (i+1)) env''),fun σ'' H'' z=>⟨xs.length-(i+1),by omega,rfl,hlt,z⟩,fun x H'' y=>?_⟩
  obtain⟨sm,is⟩:=yl x H'' y
  have rep'':=rep'.grow sm
  have fx:Frz M' H' M' H'':=⟨fun _ z=>z,fun a o e _=>sm a o e⟩
  have is':Is H'' (msk g M' fr) xs[i] x:=is.weak fun a z=>msk.mono f'.m z
  cases qa:asg xs[i] fr bf with
  |none=>simp only[qa]at p';exact p'.elim
  |some env1=>
   simp only[qa]at p'
   refine s2 g M' ρ' bf env1 σ' H'' _ fr x _ rep'' is' qa fun σ1 ρ1 rep1' _ _=>?_
   refine s3 g M' ρ1 env1 σ1 H'' _ rep1' ?_
   have p'':=PostS.frz fx p'
   cases qb:fb env1 with
   |stuck=>rw[qb]at p'';exact p''
   |exc c=>rw[qb]at p'';exact p''
   |ok r=>
    rw[qb]at p''
    cases r with
    |nx e3=>exact fun σ3 M3 ρ3 H3 f3 rep3=>⟨M3,ρ3,e3,rep3,(f'.trans fx).trans f3,PostS.frz f3 p''⟩
    |ct e3=>exact fun σ3 M3 ρ3 H3 f3 rep3=>⟨M3,ρ3,e3,rep3,(f'.trans fx).trans f3,PostS.frz f3 p''⟩
    |bk e3=>exact p''
    |rt r=>exact p''
    |rm r e3=>exact p''
 ·have e:i=xs.length:=by omega
  subst e
  rw[List.drop_length]at p'
  exact .inl ⟨wk2.stop H' kp,p' σ' M' ρ' H' (Frz.refl _ _) rep'⟩
theorem bD {ix:List Nat}{iter:Expr}{body:List Stmt}{src:En->Res Src}{asg:D->Bool->En->Option En}{fb:En->Res Fl}{pos:Pos}(hp:PassesOwn (model X.prog X.w) X.A X.env X.xe)(hc:X.calm=true)
 (hi:yX X E tg iter src) (hg:yW X ix tg asg) (hb:nu X E body fb) (hs:autoParam (∀ x,foldedSetIterable iter X.env x=pure x) autoI._auto_1):rn X E (.For tg iter body [] pos) (fC src asg fb):=by
 obtain⟨wi,p1,s1⟩:=hi
 obtain⟨u,p2,s2⟩:=hg
 obtain⟨tb,p3,s3⟩:=hb
 refine⟨_,yr hp hc p1 p2 p3 hs,fun g M ρ env σ H D rep p=>?_⟩
 refine s1 g M ρ env σ H _ rep ?_
 unfold fC at p
 cases q:src env with
 |stuck=>rw[q]at p;exact p
 |exc c=>rw[q]at p;exact p
 |ok s=>
  rw[q]at p
  intro J M1 H1 e1 rep1 wk
  obtain⟨M2,ρ2,x2,rep2,o2,_,_⟩:=Rep.frz s.al rep1
  have wk2:Walk J (msk g M2 s.fr) H1 s.xs:=wk.weak fun a z=>z.elim (msk.mono x2) fun⟨i,hi,o⟩=>⟨o2 i hi a o,fun _=>(rep1.priv i a o).2.1⟩
  have p2':PostS X.mg E g M2 H1 D (bP asg s.fr fb s.xs (frz env s.al)):=PostS.frz (e1.frz.trans ⟨x2,fun _ _ q _=>q⟩) p
  exact tH s2 s3 rep2 wk2 p2'
end
end L3
namespace L3
open PySem PySem.Spec PyProof.Rows L2
theorem fD {env:Env}:∀(names:List (Str×NameKind))(cs:List (Str×Addr)),(∀ x∈names,x.2=.free->∃ c,env.cells.lookup x.1=some c)->(∀ y c,cs.lookup y=some c->env.cells.lookup y=some c)->
 ∃ cl,(forIn names cs fun(x:Str×NameKind)(r:List (Str×Addr))=>(do
  if (x.2==.free)=true then
   let c <- cellOf env x.1
   pure (ForInStep.yield ((x.1,c)::r))
  else pure (ForInStep.yield r):Sem (ForInStep (List (Str×Addr)))))=pure cl/\(∀ y c,cl.lookup y=some c->env.cells.lookup y=some c)/\(∀ x∈names,x.2=.free->∃ c,cl.lookup x.1=some c)/\(∀ y c,cs.lookup y=some c->∃ c',cl.lookup y=some c')
 | [],cs,_,h=>⟨cs,by simp,h,fun _ z=>absurd z (by simp),fun y c e=>⟨c,e⟩⟩
 |(n,k)::r,cs,hf,h=>by
  by_cases hk:k=.free
  ·subst hk
   obtain⟨c,hc⟩:=hf (n,.free) (by simp) rfl
   have hco:cellOf env n=pure c:=by simp[cellOf,hc]
   have h':∀ y c',((n,c)::cs).lookup y=some c'->env.cells.lookup y=some c':=fun y c' e=>by
    rw[List.lookup_cons]at e
    cases hy:y==n with
    |true=>rw[hy]at e;cases e;rw[eq_of_beq hy];exact hc
    |false=>rw[hy]at e;exact h y c' e
   obtain⟨cl,e1,e2,e3,e4⟩:=fD r ((n,c)::cs) (fun x hx=>hf x (by simp[hx])) h'
   have self:∃ c',cl.lookup n=some c':=e4 n c (by simp[List.lookup_cons])
   refine⟨cl,?_,e2,fun x hx hxf=>?_,fun y c' e=>?_⟩
   ·rw[List.forIn_cons]
    simp only[beq_self_eq_true,if_true,hco,pure_bind]
    exact e1
   ·rcases List.mem_cons.mp hx with rfl|hx
    ·exact self
    ·exact e3 x hx hxf
   ·by_cases hy:y=n
    ·rw[hy];exact self
    ·refine e4 y c' ?_
     have hb:(y==n)=false:=by simpa using hy
     rw[List.lookup_cons,hb]
     exact e
  ·obtain⟨cl,e1,e2,e3,e4⟩:=fD r cs (fun x hx=>hf x (by simp[hx])) h
   refine⟨cl,?_,e2,fun x hx hxf=>?_,e4⟩
   ·rw[List.forIn_cons]
    have hkb:(k==NameKind.free)=false:=by simpa using hk
    simp only[hkb,Bool.false_eq_true,if_false,pure_bind]
    exact e1
   ·rcases List.mem_cons.mp hx with rfl|hx
    ·exact absurd hxf hk
    ·exact e3 x hx hxf
theorem k_ {scope:Scope}{env:Env}(h:∀ x∈scope.names,x.2=.free->∃ c,env.cells.lookup x.1=some c) :
 ∃ cl,closureFor scope env=pure cl/\(∀ y c,cl.lookup y=some c->env.cells.lookup y=some c)/\(∀ x∈scope.names,x.2=.free->∃ c,cl.lookup x.1=some c):=by
 obtain⟨cl,e1,e2,e3,_⟩:=fD scope.names [] h (fun _ _ e=>by simp at e)
 refine⟨cl,?_,e2,e3⟩
 unfold closureFor
 refine Eq.trans ?_ (show((pure cl:Sem (List (Str×Addr))) >>= fun cs=>pure cs)=pure cl by simp)
 rw[<- e1]
 all_goals first
  |rfl
  |(congr 1;congr 1;funext x r;obtain⟨n,k⟩:=x;first|rfl|(dsimp only;split<;>simp_all))
theorem jq {f:Str->NameKind->NameKind}:∀(names:List (Str×NameKind))(y:Str),(names.map fun x=>(x.1,f x.1 x.2)).lookup y=(names.lookup y).map (f y)
 | [],y=>rfl
 |(n,k)::r,y=>by
  rw[List.map_cons,List.lookup_cons,List.lookup_cons]
  cases h:y==n with
  |true=>rw[eq_of_beq h];rfl
  |false=>exact jq r y
theorem gq (scope:Scope)(env:Env)(y:Str):(relabel scope env).names.lookup y=(scope.names.lookup y).map fun k=>if (k==.free&&env.scope.kind==.function&&env.kindOf y==some .cell)=true then .cell else k:=by
 have e:(relabel scope env).names=scope.names.map fun x=>(x.1,(fun n k=>if (k==NameKind.free&&env.scope.kind==.function&&env.kindOf n==some .cell)=true then NameKind.cell else k) x.1 x.2):=by
  unfold relabel
  refine List.map_congr_left fun x _=>?_
  obtain⟨n,k⟩:=x
  dsimp only
  split<;>rfl
 rw[e]
 exact jq (f:=fun n k=>if (k==NameKind.free&&env.scope.kind==.function&&env.kindOf n==some .cell)=true then NameKind.cell else k) scope.names y
theorem mt {scope:Scope}{env:Env}{y:Str}(h:scope.names.lookup y=some .free):(relabel scope env).names.lookup y=some .cell\/(relabel scope env).names.lookup y=some .free:=by
 rw[gq,h]
 simp only[Option.map_some]
 split
 ·exact .inl rfl
 ·exact .inr rfl
noncomputable def cp (X:Cx)(scope:Scope)(N:List Str)(cl:List (Str×Addr))(C:Addr)(s:Shared)(H:Hp)(ex:List Addr):Cx:=
 { X with N:=N,s₀:=s,H₀:=H,env:=compEnvC scope cl C X.env,outer:=X.stack,ex:=ex,fn:=fun _=>false,pn:=[],xe:=fun _ _=>False }
section
variable {X:Cx}{pins:List (Addr×Obj)}{σ:St}{H:Hp}{s:Shared}{scope:Scope}{N:List Str}{cl:List (Str×Addr)}{C:Addr}{ex:List Addr}
theorem v8 (I:L2.Inv X pins σ H s)(hkind:scope.kind=.function)(hcell:∀ y∈scope.names,y.2≠.cell)(hcl:∀ y c,cl.lookup y=some c->X.env.cells.lookup y=some c)(hhas:∀ x∈scope.names,x.2=.free->∃ c,cl.lookup x.1=some c)
 (hC:s.heap.objs.size<=C) (hex:∀ b∈ex,FpOk X pins H b/\b<s.heap.objs.size):(cp X scope N cl C s H ex).Ok where
 mod:=I.ok.mod
 kind:=hkind
 glob:=I.ok.glob
 blt:=I.ok.blt
 above:=hC
 inj:=fun x y c h1 h2=>I.ok.inj x y c (hcl x c h1) (hcl y c h2)
 has:=fun y hy=>by
  have key:∀ k,(relabel scope X.env).names.lookup y=some k->(k=.cell\/k=.free)->∃ c,cl.lookup y=some c:=fun k e hk=>by
   rw[gq]at e
   cases q:scope.names.lookup y with
   |none=>rw[q]at e;cases e
   |some k0=>
    have hm:=PySem.mem_of_lookup q
    have h0:=hcell _ hm
    have hf:k0=.free:=by
     rw[q]at e
     simp only[Option.map_some,Option.some.injEq]at e
     split at e
     ·rename_i z
      simp only[Bool.and_eq_true,beq_iff_eq]at z
      exact z.1.1
     ·rcases hk with hk|hk
      ·exact absurd (e.trans hk) h0
      ·exact e.trans hk
    exact hhas _ hm hf
  rcases hy with hy|hy
  ·exact key _ hy (.inl rfl)
  ·exact key _ hy (.inr rfl)
 cab:=fun _ _ h=>by cases h
 hd:=I.ok.hd
 frames:=I.ok.frames
 stk:=.inl rfl
 exf:=fun b hb=>⟨Nat.ne_of_lt (Nat.lt_of_lt_of_le (hex b hb).2 hC),fun x c e=>(hex b hb).1.2.2.2.2.1 x c (hcl x c e)⟩
 bs:=fun b o e=>I.bs b o e
 bsz:=Nat.le_trans I.ok.bsz I.sz
 noex:=fun b o e hb=>by
  rcases (hex b hb).1.2.2.2.1 with z|z
  ·exact I.ok.noex b o e z
  ·exact absurd (Nat.lt_of_lt_of_le (Heap.lt_size e) (Nat.le_trans I.ok.bsz z)) (Nat.lt_irrefl _)
 exfs:=fun b hb hfs=>by
  rcases List.mem_cons.mp (I.stkSub b hfs) with z|z
  ·exact(hex b hb).1.2.1 z
  ·exact(hex b hb).1.2.2.1 z
 funs:=I.stack
 frf:=I.stkFree
 kt:=I.kt
structure Caps (X:Cx) (scope:Scope) (capN:List Str) (caps:List Nat):Prop where
 at':∀(k:Nat)(y:Str),capN[k]?=some y->∃ j:Nat,caps[k]?=some j/\X.N[j]?=some y
 out:∀ y∈capN,X.env.kindOf y=some .cell\/X.env.kindOf y=some .free
 inn:∀ y∈capN,scope.names.lookup y=some .free
 len:caps.length=capN.length
noncomputable def iZ (σ:St)(caps:List Nat):St:=caps.map fun j=>(σ[j]?).join
theorem tI {tN:List Str}{capN:List Str}{caps:List Nat}{h4:Heap}{tk:Nat}{m4:Str->Option Value}(I:L2.Inv X pins σ H s)(hkind:scope.kind=.function)(hcell:∀ y∈scope.names,y.2≠.cell)(hcl:∀ y c,cl.lookup y=some c->X.env.cells.lookup y=some c)(hhas:∀ x∈scope.names,x.2=.free->∃ c,cl.lookup x.1=some c)
 (hC:s.heap.objs.size<=C) (hex:∀ b∈ex,FpOk X pins H b/\b<s.heap.objs.size) (hc:Caps X scope capN caps) (kp:∀ b o,s.heap.get? b=some o->h4.get? b=some o) (ns:h4.Ns C m4) :
 L2.Inv (cp X scope (tN++capN) cl C s H ex) [] (List.replicate tN.length none++iZ σ caps) H { s with heap:=h4,toks:=tk } where
 ok:=v8 I hkind hcell hcl hhas hC hex
 os:=rfl
 bare:=I.bare
 base:=Un.kept kp
 loc:=by
  refine⟨m4,ns,fun i y v e1 e2 e3=>?_⟩
  by_cases hlt:i<tN.length
  ·rw[List.getElem?_append_left (by simpa using hlt),List.getElem?_replicate]at e2
   rw[if_pos hlt]at e2;cases e2
  ·obtain⟨k,rfl⟩ : ∃ k,i=tN.length+k:=⟨i-tN.length,by omega⟩
   have e1:capN[k]?=some y:=by
    have e1:(tN++capN)[tN.length+k]?=some y:=e1
    rwa [List.getElem?_append_right (by omega),Nat.add_sub_cancel_left]at e1
   have e2:(iZ σ caps)[k]?=some (some v):=by
    rwa [List.getElem?_append_right (by simp),List.length_replicate,Nat.add_sub_cancel_left]at e2
   obtain⟨j,ej,eN⟩:=hc.at' k y e1
   have e4:σ[j]?=some (some v):=by
    unfold iZ at e2
    rw[List.getElem?_map,ej]at e2
    have e2:(σ[j]?).join=some v:=by simpa using e2
    cases q:σ[j]? with
    |none=>rw[q]at e2;cases e2
    |some o=>rw[q]at e2;cases o with
     |none=>cases e2
     |some w=>cases e2;rfl
   have hm:=List.mem_of_getElem? e1
   obtain⟨m,hn,hl⟩:=I.loc
   have hout:=hc.out y hm
   obtain⟨u,r,l⟩:=hl j y v eN e4 (.inr hout)
   refine⟨u,r,.inr ⟨mt (hc.inn y hm),?_⟩⟩
   obtain⟨c,hcl2⟩:=hhas (y,.free) (PySem.mem_of_lookup (hc.inn y hm)) rfl
   refine⟨c,hcl2,?_⟩
   rcases l with⟨l,_⟩|⟨_,c',e5,z⟩
   ·rcases hout with h|h<;>(rw[h]at l;cases l)
   ·have:=hcl y c hcl2
    rw[e5]at this;cases this
    obtain⟨o,ho,hd⟩:=z
    exact⟨o,kp _ o ho,hd⟩
 cell:=fun y c e=>by
  obtain⟨v,o,ho,hd⟩:=I.cell y c (hcl y c e)
  exact⟨v,o,kp _ o ho,hd⟩
 free:=I.hok.fresh hC
 freeC:=fun y c e=>I.freeC y c (hcl y c e)
 pin:=fun p hp=>absurd (show p∈([]:List (Addr×Obj)) from hp) (by simp)
 hok:=I.hok.kept kp
 len:=by simp[cp,iZ,hc.len]
theorem rz {X':Cx}{pl:List (Addr×Obj)}{σ':St}{H':Hp}{s':Shared}(I:L2.Inv X pins σ H s)(hX:X'=cp X scope N cl C s H ex)(hC:s.heap.objs.size<=C)(hex:∀ b∈ex,FpOk X pins H b/\b<s.heap.objs.size)
 (I':L2.Inv X' pl σ' H' s'):L2.Inv X pins σ H' s'/\FpOk X pins H' C:=by
 subst hX
 refine⟨I.call' (ch:=ex) I'.os I'.base I'.hok I'.bare fun b hb=>?_,I.fpOk hC I'.free⟩
 obtain⟨_,h2,h3,h4,h5,h6⟩:=(hex b hb).1
 exact⟨h4,h2,h5,h6⟩
theorem pI {H:Hp}{h':Heap}(I:L2.Inv X pins σ H s)(hf:FpOk X pins H C)(sb:Heap.SameBut C s.heap h'):L2.Inv X pins σ H { s with heap:=h' }:=
 I.turned (t':=s.toks) (it:=C) (fun b o hb e=>(sb.2 b hb).trans e) hf.1 hf.2.1 hf.2.2.2.1 hf.2.2.2.2.1 hf.2.2.2.2.2
end
end L3
namespace L3
open PySem PySem.Spec PyProof.Rows L2
section
variable {X:Cx}{pins:List (Addr×Obj)}{σ:St}{H3:Hp}{s3:Shared}{scope:Scope}{tg:Expr}{tN:List Str}{capN:List Str}{cl:List (Str×Addr)}{C:Addr}{fp:List Addr}{elt iter:Expr}{pos:Pos}{ifs:List Expr}
noncomputable def CF (X:Cx)(ifs:List Expr)(tt:TT):Prop:=∀(pins:List (Addr×Obj))(s:Shared)(σ:St)(H:Hp)(Q:Bool->Hp->Prop),L2.Inv X pins σ H s->tt σ H Q->
 wpAny (model X.prog X.w) X.A (forIn ifs true fun c r=>if r=true then do let ok <- isTrue c X.env (eval c X.env);pure (ForInStep.yield ok) else pure (ForInStep.yield r)) (TP X pins σ Q) X.xe s
theorem pJ:CF X [] (fun _ H Q=>Q true H):=fun _ _ σ H Q I q=>wpAny_tests_nil ⟨H,I,q⟩
theorem rA {J:It}{it Dl:Addr}{tn:Nat->Heap->Prop}{X':Cx}(hX:X'=cp X scope (tN++capN) cl C s3 H3 fp)(T:Turn X.prog X.w X.K tg J fp it tn)(hcalm:X.calm=true)
 {σc:St} {s4:Shared} (I4:L2.Inv X' [] (List.replicate tN.length none++σc) H3 s4) (bX:X'.N.length=tN.length+σc.length) (st4:tn 0 s4.heap) (hf:∀ b∈fp,FpOk X' [] H3 b)
 {tt:TT} {te:TE} {gt:TG} (hg:PG X' tg gt) (ht:CF X' ifs tt) (he:PE X' elt te)
 (W:Nat->Nat->List V->Hp->Prop) (Fin:List V->Hp->Prop) (w0:∃ m,W 0 m [] H3)
 (turn:∀ i m acc H,W i m acc H->H Dl=some (.lst acc)/\((J.stop i H/\Fin acc H)\/(J.go i H/\∀ xv H' o,J.yld i H xv H'->o.length=tN.length->gt xv (o++σc) H' fun σ2 H1=>(∀ j:Nat,tN.length<=j->σ2[j]?=(o++σc)[j]?)/\tt σ2 H1 fun b H2=>if b=true then
   te σ2 H2 fun y H5=>H5 Dl=some (.lst acc)/\acc.length<sizeLine/\∃ m',m'<m/\W (i+1) m' (acc++[y]) (bz H5 Dl (.lst (acc++[y]))) else ∃ m',m'<m/\W (i+1) m' acc H2)))
 (R:Result->Shared->Prop) (hR:∀ σ' H' acc s',L2.Inv X' [] σ' H' s'->H' Dl=some (.lst acc)->Fin acc H'->R (.ok .next) s') :
 codeAny (model X.prog X.w) X.A (.compLoop (.ListComp elt [⟨tg,iter,ifs,0⟩] scope pos) 0 (.ref it) (.ref Dl) (compEnvC scope cl C X.env)) R s4:=by
 obtain⟨m0,w0⟩:=w0
 have eA:X'.A=X.A:=by rw[hX];rfl
 have eP:X'.prog=X.prog:=by rw[hX];rfl
 have eW:X'.w=X.w:=by rw[hX];rfl
 have eK:X'.K=X.K:=by rw[hX];rfl
 have eE:X'.env=compEnvC scope cl C X.env:=by rw[hX];rfl
 have eX:X'.xe=fun _ _=>False:=by rw[hX];rfl
 have eC:X'.calm=true:=by rw[hX];exact hcalm
 have stat:∀{H':Hp},(∀ b∈fp,H' b=none)->∀ b∈fp,FpOk X' [] H' b:=fun hn b hb=>⟨hn b hb,(hf b hb).2⟩
 refine codeAny_loop rfl (fun n s=>∃ i o acc H,L2.Inv X' [] (o++σc) H s/\o.length=tN.length/\tn i s.heap/\(∀ b∈fp,H b=none)/\W i n acc H) ?_ m0 ⟨0,List.replicate tN.length none,[],H3,I4,by simp,st4,fun b hb=>(hf b hb).1,w0⟩
 rintro n s5 ⟨i,o,acc,H5,I5,lo,st5,fr5,w5⟩
 show wpAny _ X.A ((compTurn (.ListComp elt [⟨tg,iter,ifs,0⟩] scope pos) 0 (.ref it) (.ref Dl) (compEnvC scope cl C X.env)).onRaise (fun x=>do noteFrame x (compEnvC scope cl C X.env);theTreesLotGoes x)) _ _ s5
 refine wpAny_noted ?_
 rw[compTurn_list]
 obtain⟨hD,alt⟩:=turn i n acc H5 w5
 rcases alt with⟨stop,fin⟩|⟨go,step⟩
 ·refine wpAny_bind (wpAny_standAt (wpAny_bind (wpAny_mono (eA▸T.done X' eP eW eK eC i [] s5 _ H5 _ I5 (stat fr5) st5 stop) (fun r s6 ⟨hr,I6⟩=>?_) fun _ _ z=>z)))
  subst hr
  exact wpAny_pure (hR _ H5 acc s6 I6 hD fin)
 ·refine wpAny_bind (wpAny_standAt (wpAny_bind (wpAny_mono (eA▸T.item X' eP eW eK eC i [] s5 _ H5 _ I5 (stat fr5) st5 go) (fun r s6 ⟨u,hr,h6⟩=>?_) fun _ _ z=>z)))
  subst hr
  refine wpAny_bind (wpAny_mono h6 (fun _ s7 ⟨xv,H7,I7,r7,y7,st7,fr7⟩=>?_) fun _ _ z=>z)
  have I7':=I7.pinned (stat fr7) (T.obj _ _ st7)
  have hg':=hg _ s7 _ H7 xv u _ I7' r7 (step xv H7 o y7 lo)
  rw[eP,eW,eA,eE,eX]at hg'
  refine wpAny_bind (wpAny_mono hg' (fun _ s8 ⟨σ8,H8,I8,shp,q8⟩=>?_) fun _ _ z=>z.elim)
  obtain⟨o2,lo2,eσ⟩ : ∃ o2:St,o2.length=tN.length/\σ8=o2++σc:=by
   have l8:σ8.length=tN.length+σc.length:=I8.len.trans bX
   refine⟨σ8.take tN.length,by rw[List.length_take];omega,?_⟩
   have ed:σ8.drop tN.length=σc:=by
    apply List.ext_getElem?
    intro j
    rw[List.getElem?_drop,shp (tN.length+j) (by omega),List.getElem?_append_right (by omega),lo,Nat.add_sub_cancel_left]
   rw[<- ed,List.take_append_drop]
  subst eσ
  have ht':=ht _ s8 _ H8 _ I8 q8
  rw[eP,eW,eA,eE,eX]at ht'
  refine wpAny_bind (wpAny_mono ht' (fun ok s9 ⟨H9,I9,q9⟩=>?_) fun _ _ z=>z.elim)
  have again:∀{s':Shared}{H':Hp},L2.Inv X' ([]++jT fp s7.heap) (o2++σc) H' s'->L2.Inv X' [] (o2++σc) H' s'/\tn (i+1) s'.heap/\∀ b∈fp,H' b=none:=fun{s' H'} J'=>by
   refine⟨J'.unpinned,T.keep _ _ _ st7 fun b hb ob e=>(J'.pin (b,ob) (List.mem_append_right _ (List.mem_append_right _ (fB hb e)))).1,fun b hb=>?_⟩
   obtain⟨ob,e,d⟩:=T.obj _ _ st7 b hb
   exact(J'.pin (b,ob) (List.mem_append_right _ (List.mem_append_right _ (fB hb e)))).2.1
  cases ok with
  |false=>
   obtain⟨m',hm,w9⟩:=(show ∃ m',m'<n/\W (i+1) m' acc H9 from by simpa using q9)
   obtain⟨a1,a2,a3⟩:=again I9
   exact wpAny_pure ⟨rfl,m',hm,i+1,o2,acc,H9,a1,lo2,a2,a3,w9⟩
  |true=>
   have q9:te (o2++σc) H9 fun y H5=>H5 Dl=some (.lst acc)/\acc.length<sizeLine/\∃ m',m'<n/\W (i+1) m' (acc++[y]) (bz H5 Dl (.lst (acc++[y]))):=by simpa using q9
   have he':=he _ s9 _ H9 _ I9 q9
   rw[eP,eW,eA,eE,eX]at he'
   refine wpAny_bind (wpAny_bind (wpAny_mono he' (fun v s10 ⟨y,H10,I10,ry,eD,hl,m',hm,w10⟩=>?_) fun _ _ z=>z.elim))
   have hm':=iU (X:=X') _ s10 _ H10 (.ref Dl) [y] (.ref Dl) [v] (fun w H'=>w=.non/\H'=bz H10 Dl (.lst (acc++[y]))) I10 rfl (.cons ry .nil) ⟨Dl,acc,y,rfl,rfl,eD,hl,rfl,rfl⟩
   rw[eP,eW,eA,eX]at hm'
   refine wpAny_bind (wpAny_mono hm' (fun _ s11 ⟨w,H11,I11,_,_,eH⟩=>?_) fun _ _ z=>z.elim)
   subst eH
   obtain⟨a1,a2,a3⟩:=again I11
   exact wpAny_pure (wpAny_pure ⟨rfl,m',hm,i+1,o2,acc++[y],_,a1,lo2,a2,a3,w10⟩)
end
end L3
namespace L3
open PySem PySem.Spec PyProof.Rows L2
structure CScope (X:Cx) (scope:Scope) (tN:List Str) (capN:List Str) (caps:List Nat):Prop where
 kind:scope.kind=.function
 ncell:∀ y∈scope.names,y.2≠.cell
 names:∀ y∈scope.names,y.2=.local->scope.names.lookup y.1=some .local
 own:∀ x∈tN,scope.names.lookup x=some .local
 free:∀ y∈scope.names,y.2=.free->X.env.kindOf y.1=some .cell\/X.env.kindOf y.1=some .free
 cap:Caps X scope capN caps
 nd:(tN++capN).Nodup
section
variable {X:Cx}{pins:List (Addr×Obj)}{σ:St}{H:Hp}{s:Shared}{scope:Scope}{tg:Expr}{tN:List Str}{capN:List Str}{caps:List Nat}{elt iter:Expr}{pos:Pos}{ifs:List Expr}{wi:TI}
noncomputable def fj (X:Cx)(scope:Scope)(tg:Expr)(tN:List Str)(capN:List Str)(caps:List Nat)(elt:Expr)(ifs:List Expr)(σ:St)(Fin:Addr->List V->Hp->Prop)(J:It)(H2:Hp):Prop:=
 ∀(Dl:Addr),H2 Dl=none->∀(cl:List (Str×Addr))(C:Addr)(s3:Shared)(fp:List Addr),∃(gt:TG)(tt:TT)(te:TE)(W:Nat->Nat->List V->Hp->Prop),
  PG (cp X scope (tN++capN) cl C s3 (bz H2 Dl (.lst [])) fp) tg gt/\CF (cp X scope (tN++capN) cl C s3 (bz H2 Dl (.lst [])) fp) ifs tt/\PE (cp X scope (tN++capN) cl C s3 (bz H2 Dl (.lst [])) fp) elt te/\(∃ m,W 0 m [] (bz H2 Dl (.lst [])))/\
  ∀ i m acc H,W i m acc H->H Dl=some (.lst acc)/\((J.stop i H/\Fin Dl acc H)\/(J.go i H/\∀ xv H' (o:St),J.yld i H xv H'->o.length=tN.length->gt xv (o++iZ σ caps) H' fun σ2 H1=>(∀ j:Nat,tN.length<=j->σ2[j]?=(o++iZ σ caps)[j]?)/\tt σ2 H1 fun b H2=>if b=true then
   te σ2 H2 fun y H5=>H5 Dl=some (.lst acc)/\acc.length<sizeLine/\∃ m',m'<m/\W (i+1) m' (acc++[y]) (bz H5 Dl (.lst (acc++[y]))) else ∃ m',m'<m/\W (i+1) m' acc H2))
theorem lF {use:Option (Value->Sem Unit)}{Qv:Value->Shared->Prop}{Fin:Addr->List V->Hp->Prop}(hc:X.calm=true)(S:CScope X scope tN capN caps)(I:L2.Inv X pins σ H s)(hi:PI X tg iter wi)
 (h:wi σ H (fj X scope tg tN capN caps elt ifs σ Fin))
 (hu:∀(Dl C:Addr)(acc:List V)(H':Hp)(s':Shared),L2.Inv X pins σ H' s'->FpOk X pins H' C->H' Dl=some (.lst acc)->Fin Dl acc H'->(∃ m,s'.heap.Ns C m)->compPost (model X.prog X.w) X.A X.xe use Qv (.ref Dl) C (.ok .next) s')
 (hs:autoParam (∀ x,foldedSetIterable iter X.env x=pure x) autoI._auto_1) :
 wpAny (model X.prog X.w) X.A (comprehension (.ListComp elt [⟨tg,iter,ifs,0⟩] scope pos) scope X.env (firstIterPos [⟨tg,iter,ifs,0⟩] pos) (newList []) false (eval iter X.env) use) Qv X.xe s:=by
 obtain⟨cl,ecl,hcl,hhas⟩:=k_ (scope:=scope) (env:=X.env) fun y hy hf=>I.ok.has y.1 (S.free y hy hf)
 refine wpAny_comprehension_free rfl hs ecl S.kind S.names (da (hi pins s σ H _ I h) fun v s1 h1=>da h1 fun itv s2 h2=>?_)
 obtain⟨it,fp,tn,J,H2,rfl,I2,T,st2,f2,goal⟩:=h2
 refine wpAny_newObj_type (wpAny_newFunctionEnv S.ncell (by intro y hy;simp at hy) (fun h₁ hns₁ hsb₁=>?_) S.kind)
 dsimp only at hns₁ hsb₁ ⊢
 have hD:H2 s2.heap.objs.size=none:=I2.hok.fresh (Nat.le_refl _)
 have I3:L2.Inv X pins σ (bz H2 s2.heap.objs.size (.lst [])) { s2 with heap:=s2.heap.push { cls:=.type "list",dict:=none,data:=.seq ([]:List Value).toArray } }:=
  I2.laid (t':=s2.toks) (fun b u e=>Heap.get?_push_of_some _ e) (Nat.le_refl _) ⟨Nat.zero_le _,[],0,.nil,Heap.get?_push_size _ rfl⟩
 generalize hs3:({ s2 with heap:=s2.heap.push { cls:=.type "list",dict:=none,data:=.seq ([]:List Value).toArray } }:Shared)=s3 at I3
 have e3:s2.heap.push { cls:=.type "list",dict:=none,data:=.seq ([]:List Value).toArray }=s3.heap:=by rw[<- hs3]
 rw[e3]at hns₁ hsb₁ ⊢
 have kp:∀ b o,s3.heap.get? b=some o->h₁.get? b=some o:=fun b o e=>hsb₁.extBut b o (Nat.ne_of_lt (Heap.lt_size e)) (Heap.get?_push_of_some _ e)
 have k23:∀ b o,s2.heap.get? b=some o->s3.heap.get? b=some o:=fun b o e=>by rw[<- e3];exact Heap.get?_push_of_some _ e
 have hex:∀ b∈fp,FpOk X pins (bz H2 s2.heap.objs.size (.lst [])) b/\b<s3.heap.objs.size:=fun b hb=>by
  obtain⟨o,ho,_⟩:=T.obj 0 _ st2 b hb
  have hlt:b<s2.heap.objs.size:=Heap.lt_size ho
  refine⟨⟨?_,(f2 b hb).2⟩,Heap.lt_size (k23 b o ho)⟩
  rw[ax (Nat.ne_of_lt hlt)]
  exact(f2 b hb).1
 have es:({ s2 with heap:=h₁,toks:=s2.toks+([]:List (Str×Value)).length }:Shared)={ s3 with heap:=h₁,toks:=s2.toks+([]:List (Str×Value)).length }:=by rw[<- hs3]
 have I4:L2.Inv (cp X scope (tN++capN) cl s3.heap.objs.size s3 (bz H2 s2.heap.objs.size (.lst [])) fp) [] (List.replicate tN.length none++iZ σ caps) (bz H2 s2.heap.objs.size (.lst [])) { s3 with heap:=h₁,toks:=s2.toks+([]:List (Str×Value)).length }:=
  tI I3 S.kind S.ncell hcl hhas (Nat.le_refl _) hex S.cap kp hns₁
 obtain⟨gt,tt,te,W,hg,ht,he,w0,turn⟩:=goal s2.heap.objs.size hD cl s3.heap.objs.size s3 fp
 have st4:tn 0 h₁:=T.keep 0 _ _ st2 fun b hb o e=>kp b o (k23 b o e)
 have f4:∀ b∈fp,FpOk (cp X scope (tN++capN) cl s3.heap.objs.size s3 (bz H2 s2.heap.objs.size (.lst [])) fp) [] (bz H2 s2.heap.objs.size (.lst [])) b:=fun b hb=>by
  obtain⟨f,hlt⟩:=hex b hb
  refine⟨f.1,Nat.ne_of_lt hlt,fun hfs=>?_,.inl hb,fun y c e=>f.2.2.2.2.1 y c (hcl y c e),fun p hp=>absurd (show p∈([]:List (Addr×Obj)) from hp) (by simp)⟩
  rcases List.mem_cons.mp (I3.stkSub b hfs) with z|z
  ·exact f.2.1 z
  ·exact f.2.2.1 z
 have loop:codeAny (model X.prog X.w) X.A (.compLoop (.ListComp elt [⟨tg,iter,ifs,0⟩] scope pos) 0 (.ref it) (.ref s2.heap.objs.size) (compEnvC scope cl s3.heap.objs.size X.env)) (compPost (model X.prog X.w) X.A X.xe use Qv (.ref s2.heap.objs.size) s3.heap.objs.size)
  { s3 with heap:=h₁,toks:=s2.toks+([]:List (Str×Value)).length }:=by
  refine rA rfl T hc I4 (by show(tN++capN).length=_;simp[iZ,S.cap.len]) st4 f4 hg ht he W (Fin s2.heap.objs.size) w0 turn _ fun σ' H' acc s' I' hD' fin=>?_
  obtain⟨Io,fo⟩:=rz I3 rfl (Nat.le_refl _) hex I'
  obtain⟨m',hn',_⟩:=I'.loc
  exact hu _ _ acc H' s' Io fo hD' fin ⟨m',hn'⟩
 rw[es]
 exact codeAny_compStart_list loop (T.self _ 0 _ _ _ st4 loop)
theorem tJ {Q:VK}(hc:X.calm=true)(S:CScope X scope tN capN caps)(I:L2.Inv X pins σ H s)(hi:PI X tg iter wi)(h:wi σ H (fj X scope tg tN capN caps elt ifs σ fun Dl _ H'=>Q (.ref Dl) H'))
 (hs:autoParam (∀ x,foldedSetIterable iter X.env x=pure x) autoI._auto_1):wpAny (model X.prog X.w) X.A (eval (.ListComp elt [⟨tg,iter,ifs,0⟩] scope pos) X.env) (EP X pins σ Q) X.xe s:=by
 rw[eval_ListComp]
 refine lF (use:=none) hc S I hi h (fun Dl C acc H' s' Io fo hD fin hn=>?_) hs
 obtain⟨m,hn⟩:=hn
 exact⟨m,hn,fun h' sb=>⟨.ref Dl,H',pI Io fo sb,rfl,fin⟩⟩
theorem tL {D:Ends}{i:Nat}{y:Str}{py spos:Pos}(hc:X.calm=true)(S:CScope X scope tN capN caps)(hN:X.N.Nodup)(hi':X.N[i]?=some y)(hy:X.env.scope.names.lookup y=some .local)
 (hsw:swapsWith (.ListComp elt [⟨tg,iter,ifs,0⟩] scope pos) (some (.Name y py)) spos.line X.env=pure true) (I:L2.Inv X pins σ H s) (hi:PI X tg iter wi)
 (h:wi σ H (fj X scope tg tN capN caps elt ifs σ fun Dl _ H'=>D.nx (σ.set i (some (.ref Dl))) H')) (hs:autoParam (∀ x,foldedSetIterable iter X.env x=pure x) autoI._auto_1) :
 wpAny (model X.prog X.w) X.A (exec (.Assign [.Name y py] (.ListComp elt [⟨tg,iter,ifs,0⟩] scope pos) spos) X.env) (SP X pins D) X.xe s:=by
 rw[exec_Assign_Name_used _ _ _ _ hsw]
 refine wpAny_bind (wpAny_standAt (wpAny_bind ?_))
 show wpAny _ X.A (do let _ <- comprehension (.ListComp elt [⟨tg,iter,ifs,0⟩] scope pos) scope X.env _ (newList []) false (eval iter X.env) (some (assign (.Name y py) X.env))) _ _ s
 refine wpAny_bind (wpAny_mono (lF (use:=some (assign (.Name y py) X.env)) (Qv:=fun _ s'=>SP X pins D .next s') hc S I hi h (fun Dl C acc H' s' Io fo hD fin hn=>?_) hs) (fun _ s' hq=>wpAny_pure (wpAny_pure hq)) fun _ _ e=>e)
 obtain⟨m,hn⟩:=hn
 show wpAny _ X.A (assign (.Name y py) X.env (.ref Dl)) _ _ _
 refine wpAny_assign_Name (lq (v:=.ref Dl) Io hN hi' (.inl hy) rfl (fun s'' I'' ⟨a,sb,ha⟩=>?_) (.inr hy))
 have nca:C≠a:=by
  rcases ha with z|z
  ·rw[z];exact fo.2.1
  ·exact Ne.symm (fo.2.2.2.2.1 y a z)
 refine⟨m,hn.sameBut sb nca,fun h' sb'=>?_⟩
 exact⟨_,H',pI I'' fo sb',fin⟩
end
end L3
namespace L3
open PySem PySem.Spec PyProof.Rows L2
noncomputable def Res.noX {α:Type}:Res α->Res α
 | .exc _=>.stuck
 |r=>r
noncomputable def v9 (env:En)(j:Nat):Option Sl:=match env[j]? with
 |some (some (.val d fr))=>some (.val d fr)
 |some (some (.own ds fr))=>some (.val (.lst ds) fr)
 |some (some (.tre d))=>some (.val d true)
 |some (some (.pin d))=>some (.val d true)
 |some (some (.dis d))=>some (.val d true)
 |_=>none
noncomputable def cI (env:En)(n:Nat)(caps:List Nat):En:=List.replicate n none++caps.map (v9 env)
noncomputable def fm (mk:D->Option En)(test:En->Res Bool)(elt:En->Res R):List D->Res (List R)
 | []=>.ok []
 |x::xs=>match mk x with
  |none=>.stuck
  |some e=>(test e).bind fun b=>if b then (elt e).bind fun r=>(fm mk test elt xs).bind fun rs=>.ok (r::rs) else fm mk test elt xs
noncomputable def cJ (n:Nat)(caps:List Nat)(src:En->Res Src)(asg:D->Bool->En->Option En)(test:En->Res Bool)(elt:En->Res R):En->Res R:=fun env=>(src env).bind fun s=>if s.xs.length<=lim then
 (fm (fun d=>asg d s.fr (cI env n caps)) test elt s.xs).noX.bind fun rs=>.ok (kZ (rs.map R.d) (bh rs) (s.al++caps.filter (isOwn env))) else .stuck
noncomputable def v_ (X:Cx)(E:XK)(ifs:List Expr)(f:En->Res Bool):Prop:=∃ t,CF X ifs t/\SndT X.mg E t f
section
variable {X:Cx}{E:XK}
theorem bw:v_ X E [] (fun _=>.ok true):=⟨_,pJ,fun g M ρ env σ H Q rep p=>p M H (Ext.refl _ _) rep⟩
end
section
variable {g:Gd}{M M1:Addr->Prop}{ρ:Pr}{env:En}{σ:St}{H H1:Hp}
theorem Bq {n:Nat}{caps:List Nat}{M':Addr->Prop}{o:St}(rep:Rep g M1 ρ env σ H1)(s:Same H1 H)(ho:o.length=n)(hM:∀ a,(M1 a\/∃ i,i∈caps/\ρ i a)->M' a)(hf:∀ a,M' a->H a≠none)(hi:∀ a,M' a->g.H₀ a=none\/g.Ma a)(hfl:∀ a,M' a->g.H₀ a=none->MuZ g H a) :
 Rep g M' (fun _ _=>False) (cI env n caps) (o++iZ σ caps) H where
 same:=rep.same.trans s
 froz:=hf
 inn:=hi
 fl:=hfl
 slot:=fun i sl e=>by
  by_cases hlt:i<n
  ·unfold cI at e
   rw[List.getElem?_append_left (by simpa using hlt),List.getElem?_replicate,if_pos hlt]at e
   cases e
  ·obtain⟨k,rfl⟩ : ∃ k,i=n+k:=⟨i-n,by omega⟩
   have e:(caps.map (v9 env))[k]?=some (some sl):=by
    unfold cI at e
    rwa [List.getElem?_append_right (by simp),List.length_replicate,Nat.add_sub_cancel_left]at e
   rw[List.getElem?_map]at e
   cases q:caps[k]? with
   |none=>rw[q]at e;cases e
   |some j=>
    rw[q]at e
    have e:v9 env j=some sl:=by simpa using e
    have hj:j∈caps:=List.mem_of_getElem? q
    unfold v9 at e
    cases q2:env[j]? with
    |none=>rw[q2]at e;cases e
    |some o=>
     cases o with
     |none=>rw[q2]at e;cases e
     |some sl0=>
      obtain⟨v,ev,k2⟩:=rep.slot j sl0 q2
      have el:(o++iZ σ caps)[n+k]?=some (some v):=by
       rw[List.getElem?_append_right (by omega),ho,Nat.add_sub_cancel_left]
       unfold iZ
       rw[List.getElem?_map,q]
       simp[ev]
      rw[q2]at e
      cases sl0 with
      |val d' fr'=>
       cases e
       exact⟨v,el,Is.mono (fun a o q _=>s a o q) (fun a _ _ z=>⟨hM a (.inl z.1),z.2⟩) k2⟩
      |own ds' fr'=>
       cases e
       obtain⟨a,vs,rfl,h1,h2,h4⟩:=k2
       have ha:=(h2 a).mpr rfl
       exact⟨_,el,a,vs,rfl,.inl ⟨s _ _ h1,hM a (.inr ⟨j,hj,ha⟩),fun _=>(rep.priv j a ha).2.1⟩,IsAll.mono (fun a o q _=>s a o q) (fun a _ _ z=>⟨hM a (.inl z.1),z.2⟩) h4⟩
      |tre d'=>
       cases e
       exact⟨v,el,Is.mono (fun a o q _=>s a o q) (fun a _ _ z=>⟨hM a (.inr ⟨j,hj,z⟩),fun _=>(rep.priv j a z).2.1⟩) k2⟩
      |mes d'=>cases e
      |kon a'=>cases e
      |pin d'=>
       cases e
       exact⟨v,el,Is.mono (fun a o q _=>s a o q) (fun a _ _ z=>⟨hM a (.inr ⟨j,hj,z⟩),fun _=>(rep.priv j a z).2.1⟩) k2.1⟩
      |dis d'=>
       cases e
       exact⟨v,el,Is.mono (fun a o q _=>s a o q) (fun a _ _ z=>⟨hM a (.inr ⟨j,hj,z⟩),fun _=>(rep.priv j a z).2.1⟩) k2.1⟩
 priv:=fun _ _ z=>z.elim
 apart:=fun _ _ _ z=>z.elim
 ow:=fun _ _ z=>z.elim
 len:=by simp[cI,iZ,ho]
 zz:=fun a z e=>rep.zz a z (s.free e)
end
noncomputable def xH (X:Cx)(scope:Scope)(tg:Expr)(tN:List Str)(capN:List Str)(caps:List Nat)(elt:Expr)(ifs:List Expr)(wi:TI):TE:=fun σ H Q=>wi σ H (fj X scope tg tN capN caps elt ifs σ fun Dl _ H'=>Q (.ref Dl) H')
section
variable {X:Cx}{E:XK}{scope:Scope}{tg:Expr}{tN:List Str}{capN:List Str}{caps:List Nat}{ix:List Nat}{asg:D->Bool->En->Option En}{elt iter:Expr}{pos:Pos}{ifs:List Expr}{wi:TI}{src:En->Res Src}{ft:En->Res Bool}{fe:En->Res R}
theorem rB {g:Gd}{M1:Addr->Prop}{ρ:Pr}{env:En}{σ:St}{H1:Hp}{Q:VK}{J:It}{s:Src}{full:List R}(hix:∀ j∈ix,j<tN.length)(hg:∀ cl C s3 H3 fp,yW (cp X scope (tN++capN) cl C s3 H3 fp) ix tg asg)(ht:∀ cl C s3 H3 fp,v_ (cp X scope (tN++capN) cl C s3 H3 fp) E0 ifs ft)(he:∀ cl C s3 H3 fp,PD (cp X scope (tN++capN) cl C s3 H3 fp) E0 elt fe)(rep1:Rep g M1 ρ env σ H1)(wk:Walk J (vmsk g M1 s.fr ρ s.al) H1 s.xs)(hlim:s.xs.length<=lim)(qc:fm (fun d=>asg d s.fr (cI env tN.length caps)) ft fe s.xs=.ok full)
 (p:PostE X.mg E g M1 ρ env σ H1 Q (.ok (kZ (full.map R.d) (bh full) (s.al++caps.filter (isOwn env))))):fj X scope tg tN capN caps elt ifs σ (fun Dl _ H'=>Q (.ref Dl) H') J H1:=by
 intro Dl hDl cl C s3 fp
 obtain⟨gt,pg,sg⟩:=hg cl C s3 (bz H1 Dl (.lst [])) fp
 obtain⟨tt,pt,st⟩:=ht cl C s3 (bz H1 Dl (.lst [])) fp
 obtain⟨te,pe,se⟩:=he cl C s3 (bz H1 Dl (.lst [])) fp
 obtain⟨d0,dm,dow⟩:=rep1.free hDl
 refine⟨gt,tt,te,fun i m acc H=>m=s.xs.length-i/\i<=s.xs.length/\∃(M':Addr->Prop)(rs bg:List R),Same H1 H/\H Dl=some (.lst acc)/\(∀ a,(M1 a\/∃ j,j∈s.al++caps/\ρ j a)->M' a)/\
  (∀ a,M' a->(M1 a\/∃ j,j∈s.al++caps/\ρ j a)\/H1 a=none)/\¬ M' Dl/\(∀ a,M' a->H a≠none)/\(∀ a,M' a->g.H₀ a=none->MuZ g H a)/\rs.length<=i/\IsAll H (msk g M' (bh rs)) (rs.map R.d) acc/\fm (fun d=>asg d s.fr (cI env tN.length caps)) ft fe (s.xs.drop i)=.ok bg/\full=rs++bg,
  pg,pt,pe,⟨_,rfl,Nat.zero_le _,(fun a=>M1 a\/∃ j,j∈s.al++caps/\ρ j a),[],full,bE hDl,aP,fun _ z=>z,fun _ z=>.inl z,?_,?_,?_,Nat.le_refl _,rfl,qc,rfl⟩,?_⟩
 ·rintro (z|⟨j,_,z⟩)
  ·exact dm z
  ·exact dow j z
 ·rintro a (z|⟨j,_,z⟩) hn
  ·exact rep1.froz a z ((bE hDl).free hn)
  ·obtain⟨_,_,uo,hz,_⟩:=rep1.priv j a z
   rw[(bE hDl) a _ hz]at hn;cases hn
 ·rintro a (z|⟨j,_,z⟩) h0
  ·exact(rep1.fl a z h0).same fun o e=>bE hDl _ _ e
  ·exact .inl ((rep1.priv j a z).2.2.same fun o e=>bE hDl _ _ e)
 ·rintro i m acc H2 ⟨rfl,hle,M',rs,bg,sm,hD2,hMi,hMo,nD,frz2,fl2,hrs,isA,qr,efull⟩
  refine⟨hD2,?_⟩
  have kp:∀ a o,H1 a=some o->(vmsk g M1 s.fr ρ s.al a\/fixd o)->H2 a=some o:=fun a o e _=>sm a o e
  have inn2:∀{M'':Addr->Prop}{a:Addr},(M1 a\/∃ j,j∈s.al++caps/\ρ j a)\/H1 a=none->g.H₀ a=none\/g.Ma a:=fun{M'' a} z=>by
   rcases z with(z|⟨j,_,z⟩)|z
   ·exact rep1.inn a z
   ·exact .inl (rep1.priv j _ z).2.1
   ·exact .inl (rep1.same.free z)
  by_cases hlt:i<s.xs.length
  ·have ed:s.xs[i]?=some s.xs[i]:=by simp[hlt]
   obtain⟨go,yl⟩:=wk.go H2 i _ kp ed
   refine .inr ⟨go,fun xv H3 o y lo=>?_⟩
   obtain⟨s23,isx⟩:=yl xv H3 y
   have edrop:s.xs.drop i=s.xs[i]::s.xs.drop (i+1):=List.drop_eq_getElem_cons hlt
   rw[edrop]at qr
   unfold fm at qr
   have isx':Is H3 (msk g M' s.fr) s.xs[i] xv:=isx.weak fun a z=>by
    rcases z with z|⟨j,hj,z⟩
    ·exact⟨hMi a (.inl z.1),z.2⟩
    ·exact⟨hMi a (.inr ⟨j,by simp[hj],z⟩),fun _=>(rep1.priv j _ z).2.1⟩
   have repI:Rep g M' (fun _ _=>False) (cI env tN.length caps) (o++iZ σ caps) H3:=Bq rep1 (sm.trans s23) lo (fun a z=>hMi a (z.imp id fun⟨j,hj,w⟩=>⟨j,by simp[hj],w⟩)) (fun a z hn=>frz2 a z (s23.free hn)) (fun a z=>inn2 (M'':=M') (hMo a z)) (fun a z h0=>(fl2 a z h0).same fun o e=>s23 _ _ e)
   cases qa:asg s.xs[i] s.fr (cI env tN.length caps) with
   |none=>simp only[qa]at qr;cases qr
   |some envT=>
   simp only[qa]at qr
   refine sg g M' _ _ envT _ H3 _ s.fr xv _ repI isx' qa fun σ2 ρ2 repT shp nρ=>⟨fun j hj=>shp j fun z=>absurd (hix j z) (by omega),?_⟩
   refine st g M' ρ2 _ _ H3 _ repT ?_
   cases qt:ft envT with
   |stuck=>rw[qt]at qr;cases qr
   |exc c=>rw[qt]at qr;cases qr
   |ok b=>
    rw[qt]at qr
    intro M4 H4 e4 rep4
    cases b with
    |false=>
     refine qZ ⟨s.xs.length-(i+1),by omega,rfl,hlt,M',rs,bg,(sm.trans s23).trans e4.h,e4.h _ _ (s23 _ _ hD2),hMi,hMo,nD,fun a z hn=>frz2 a z (s23.free (e4.h.free hn)),fun a z h0=>(fl2 a z h0).same fun o e=>e4.h _ _ (s23 _ _ e),by omega,?_,by simpa using qr,efull⟩
     exact IsAll.same e4.h (IsAll.same s23 isA)
    |true=>
     refine ox ?_
     simp only[Res.bind_ok,if_true]at qr
     refine se g M4 ρ2 _ _ H4 _ rep4 ?_
     cases qe:fe envT with
     |stuck=>rw[qe]at qr;cases qr
     |exc c=>rw[qe]at qr;cases qr
     |ok r=>
      rw[qe]at qr
      simp only[Res.bind_ok]at qr
      cases qd:fm (fun d=>asg d s.fr (cI env tN.length caps)) ft fe (s.xs.drop (i+1)) with
      |stuck=>rw[qd]at qr;cases qr
      |exc c=>rw[qd]at qr;cases qr
      |ok rest'=>
       rw[qd]at qr
       have qr:r::rest'=bg:=by simpa using qr
       intro yv M5 H5 e5 rep5 ro
       obtain⟨M6,e6,m56,rep6,is6⟩:=ro.is rep5 e5 rep4.same
       have D3:H3 Dl=some (.lst acc):=s23 _ _ hD2
       have D4:H4 Dl=some (.lst acc):=e4.h _ _ D3
       have D5:H5 Dl=some (.lst acc):=e5.h _ _ D4
       have nD4:¬ M4 Dl:=fun z=>(e4.n Dl z).elim nD fun w=>by rw[D3]at w;cases w
       have nD6:¬ M6 Dl:=fun z=>(e6.n Dl z).elim nD4 fun w=>by rw[D4]at w;cases w
       have M46:∀ a,M4 a->M6 a:=e6.m
       have up:∀ a o,H5 a=some o->a≠Dl->bz H5 Dl (.lst (acc++[yv])) a=some o:=fun a o e n=>by rw[ax n];exact e
       have kp5:∀(fr:Bool) a o,H5 a=some o->(msk g M6 fr a\/fixd o)->bz H5 Dl (.lst (acc++[yv])) a=some o:=fun fr a o e z=>up a o e fun w=>by
        subst w
        rcases z with z|z
        ·exact nD6 z.1
        ·rw[D5]at e;cases e;exact z
       refine⟨D5,?_,s.xs.length-(i+1),by omega,rfl,hlt,M6,rs++[r],rest',?_,aP,fun a z=>M46 a (e4.m a (hMi a z)),fun a z=>?_,nD6,fun a z=>?_,fun a z h0=>?_,by simp;omega,?_,qd,by rw[efull,<- qr];simp⟩
       ·have:acc.length=rs.length:=by rw[isA.length,List.length_map]
        exact mj (by omega)
       ·intro b o e
        exact up b o (e5.h _ _ (e4.h _ _ (s23 _ _ (sm _ _ e)))) (ap e hDl)
       ·rcases e6.n a z with z|z
        ·rcases e4.n a z with z|z
         ·exact hMo a z
         ·exact .inr (sm.free (s23.free z))
        ·exact .inr (sm.free (s23.free (e4.h.free z)))
       ·by_cases hw:a=Dl
        ·rw[hw,aP];simp
        ·rw[ax hw];exact rep6.froz a z
       ·have hw:a≠Dl:=fun e=>nD6 (e▸z)
        exact(rep6.fl a z h0).same fun o e=>by rw[ax hw];exact e
       ·rw[List.map_append]
        refine IsAll.append ?_ ⟨yv,[],rfl,?_,rfl⟩
        ·have i5:IsAll H5 (msk g M' (bh rs)) (rs.map R.d) acc:=((isA.same s23).same e4.h).same e5.h
         refine(i5.weak fun a z=>(⟨M46 a (e4.m a z.1),fun e=>z.2 (by simp[bh]at e ⊢;exact e.1)⟩ : msk g M6 (bh (rs++[r])) a)).mono (kp5 _) fun _ _ _ z=>z
        ·refine(is6.weak fun a z=>?_:Is H5 (msk g M6 (bh (rs++[r]))) r.d yv).mono (kp5 _) fun _ _ _ z=>z
         rcases z with z|⟨j,_,z⟩
         ·exact⟨z.1,fun e=>z.2 (by simp[bh]at e;exact e.2)⟩
         ·exact(nρ _ _ z).elim
  ·have ei:i=s.xs.length:=by omega
   subst ei
   refine .inl ⟨wk.stop H2 kp,?_⟩
   rw[List.drop_length]at qr
   unfold fm at qr
   cases qr
   rw[List.append_nil]at efull
   subst efull
   have RM:Rep g (fun a=>M1 a\/(nl H1 H2 a/\M' a)) ρ env σ H2:=rep1.came sm M'
   have XM:Ext M1 H1 (fun a=>M1 a\/(nl H1 H2 a/\M' a)) H2:=⟨fun _=>.inl,sm,fun _ z=>z.imp id (·.1.1)⟩
   have nDl:¬ (M1 Dl\/(nl H1 H2 Dl/\M' Dl)):=fun z=>z.elim dm fun z=>nD z.2
   have nwD:∀ b,V.ref Dl=.ref b->H1 b=none:=fun b e=>by cases e;exact hDl
   unfold kZ at p
   by_cases hfl:D.flats (full.map R.d)=true
   ·rw[if_pos hfl]at p
    exact p _ _ H2 XM RM ⟨Dl,acc,rfl,hD2,nDl,hDl,dow,IsAll.flat hfl isA⟩
   ·rw[if_neg hfl]at p
    by_cases hal:(s.al++caps.filter (isOwn env)).isEmpty=true
    ·rw[if_pos hal]at p
     refine p _ _ H2 XM RM ⟨Dl,acc,rfl,hD2,nDl,hDl,dow,isA.weak fun a z=>⟨?_,z.2⟩⟩
     rcases hMo a z.1 with(w|⟨j,hj,w⟩)|w
     ·exact .inl w
     ·exfalso
      have he:s.al++caps.filter (isOwn env)=[]:=by simpa using hal
      rcases List.mem_append.mp hj with hj|hj
      ·have:j∈s.al++caps.filter (isOwn env):=List.mem_append_left _ hj
       rw[he]at this;simp at this
      ·have:j∈s.al++caps.filter (isOwn env):=List.mem_append_right _ (List.mem_filter.mpr ⟨hj,rep1.ow j a w⟩)
       rw[he]at this;simp at this
     ·exact .inr ⟨⟨w,(fl2 a z.1 (rep1.same.free w)).elim id fun q=>(rep1.zz a q.1 w).elim⟩,z.1⟩
    ·rw[if_neg hal]at p
     refine p _ (fun a=>(M1 a\/(nl H1 H2 a/\M' a))\/a=Dl) H2 ⟨fun _ z=>.inl (.inl z),sm,fun a z=>z.elim (XM.n a) fun e=>.inr (e▸hDl)⟩ (RM.more hD2 d0 dow) ⟨Dl,acc,rfl,.inl ⟨hD2,.inl ⟨.inr rfl,fun _=>d0⟩⟩,isA.weak fun a z=>?_⟩
     rcases hMo a z.1 with(w|⟨j,hj,w⟩)|w
     ·exact .inl ⟨.inl (.inl w),z.2⟩
     ·refine .inr ⟨j,?_,w⟩
      rcases List.mem_append.mp hj with hj|hj
      ·exact List.mem_append_left _ hj
      ·exact List.mem_append_right _ (List.mem_filter.mpr ⟨hj,rep1.ow j a w⟩)
     ·exact .inl ⟨.inl (.inr ⟨⟨w,(fl2 a z.1 (rep1.same.free w)).elim id fun q=>(rep1.zz a q.1 w).elim⟩,z.1⟩),z.2⟩
theorem tM (si:Bo X.mg E wi src)(hix:∀ j∈ix,j<tN.length)(hg:∀ cl C s3 H3 fp,yW (cp X scope (tN++capN) cl C s3 H3 fp) ix tg asg)(ht:∀ cl C s3 H3 fp,v_ (cp X scope (tN++capN) cl C s3 H3 fp) E0 ifs ft)(he:∀ cl C s3 H3 fp,PD (cp X scope (tN++capN) cl C s3 H3 fp) E0 elt fe) :
 Snd X.mg E (xH X scope tg tN capN caps elt ifs wi) (cJ tN.length caps src asg ft fe):=by
 intro g M ρ env σ H Q rep p
 refine si g M ρ env σ H _ rep ?_
 unfold cJ at p
 cases q:src env with
 |stuck=>rw[q]at p;exact p
 |exc c=>rw[q]at p;exact p
 |ok s=>
  rw[q]at p
  simp only[Res.bind_ok]at p
  intro J M1 H1 e1 rep1 wk Dl hDl cl C s3 fp
  by_cases hlim:s.xs.length<=lim
  ·rw[if_pos hlim]at p
   cases qc:fm (fun d=>asg d s.fr (cI env tN.length caps)) ft fe s.xs with
   |stuck=>rw[qc]at p;exact p.elim
   |exc c=>rw[qc]at p;exact p.elim
   |ok full=>
    rw[qc]at p
    have p:PostE X.mg E g M1 ρ env σ H1 Q (.ok (kZ (full.map R.d) (bh full) (s.al++caps.filter (isOwn env)))):=PostE.ext e1 p
    exact rB hix hg ht he rep1 wk hlim qc p Dl hDl cl C s3 fp
  ·rw[if_neg hlim]at p;exact p.elim
theorem bT (hc:X.calm=true)(S:CScope X scope tN capN caps)(hi:yX X E tg iter src)(hix:∀ j∈ix,j<tN.length)(hg:∀ cl C s3 H3 fp,yW (cp X scope (tN++capN) cl C s3 H3 fp) ix tg asg)(ht:∀ cl C s3 H3 fp,v_ (cp X scope (tN++capN) cl C s3 H3 fp) E0 ifs ft)(he:∀ cl C s3 H3 fp,PD (cp X scope (tN++capN) cl C s3 H3 fp) E0 elt fe)
 (hs:autoParam (∀ x,foldedSetIterable iter X.env x=pure x) autoI._auto_1):PD X E (.ListComp elt [⟨tg,iter,ifs,0⟩] scope pos) (cJ tN.length caps src asg ft fe):=by
 obtain⟨wi,p1,s1⟩:=hi
 exact⟨xH X scope tg tN capN caps elt ifs wi,fun pins s σ H Q I h=>tJ hc S I p1 h hs,tM s1 hix hg ht he⟩
end
end L3
namespace L3
open PySem PySem.Spec PyProof.Rows L2
noncomputable def hZ (N:List Str)(ds:List D):En:=ds.map (fun d=>some (.val d false))++List.replicate (N.length-ds.length) none
noncomputable def fY:Res Fl->Res R
 | .ok (.nx _)=>.ok (.val .non true [])
 | .ok (.rt r)=>.ok r
 | .ok _=>.stuck
 | .exc c=>.exc c
 | .stuck=>.stuck
noncomputable def cj (N:List Str)(FB:En->Res Fl)(ds:List D):Res R:=fY (FB (hZ N ds))
theorem rC {H:Hp}{Ma:Addr->Prop}{ds:List D}{vs:List V}{N:List Str}(is:IsAll H Ma ds vs):Rep (Bi H Ma) (fun a=>Ma a/\H a≠none) (fun _ _=>False) (hZ N ds) (L2.fW N vs) H where
 same:=Same.refl H
 froz:=fun a z=>z.2
 inn:=fun a z=>.inr z.1
 fl:=fun a z h=>absurd h z.2
 slot:=fun i sl e=>by
  have hl:=is.length
  unfold hZ at e
  by_cases hi:i<ds.length
  ·rw[List.getElem?_append_left (by simpa using hi),List.getElem?_map]at e
   obtain⟨v,ev,iv⟩:=is.get (i:=i) (d:=ds[i]) (by simp[hi])
   have e1:ds[i]?=some ds[i]:=by simp[hi]
   rw[e1]at e
   cases e
   refine⟨v,?_,Is.mono (fun _ _ q _=>q) (fun a o q z=>⟨⟨z,by rw[q];simp⟩,fun z=>by cases z⟩) iv⟩
   unfold L2.fW
   rw[List.getElem?_append_left (by simp;omega),List.getElem?_map,ev];rfl
  ·rw[List.getElem?_append_right (by simpa using hi),List.getElem?_replicate]at e
   split at e<;>cases e
 priv:=fun _ _ z=>z.elim
 apart:=fun _ _ _ z=>z.elim
 ow:=fun _ _ z=>z.elim
 len:=by
  have hl:=is.length
  unfold hZ L2.fW
  simp[hl]
 zz:=fun _ z=>z.elim
section
variable {P:Program}{w:World}{K:PySem.W.Frag}{mg:Str->Option Value}{base:Heap}
end
section
variable {X:Cx}{E:XK}
theorem sl_tupW:SlR X (fun x lo hi H Q=>∃ a xs,x=.ref a/\SqT X.K H a xs/\(HT.sIx xs.length 0 lo=0/\HT.sIx xs.length xs.length hi=xs.length)/\Q x H):=by
 intro pins s σ H x v vl vu lo hi sl Q I rx hs pl pu h
 obtain⟨a,xs,rfl,hx,hw,q⟩:=h
 cases rx
 obtain⟨its,r,ht,hz⟩:=I.tuple hx
 have bX:its.toArray.size=xs.length:=by rw[List.size_toArray];exact r.length.symm
 refine⟨"tuple",_,PyProof.Rows.slot_tuple_getitem.lookup,ht.typeIs,?_⟩
 obtain⟨os,hos,hcs,hds⟩:=id hs
 have hTs:s.TypeIs (.ref sl) "slice":=⟨os,hos,hcs⟩
 unfold getItem
 try with_reducible refine wpAny_holding ?_
 first|refine wpAny_bind (wpAny_pure ?_)|skip
 refine wpAny_bind (wpAny_sequenceKey ht.typeIs (by decide) ?_)
 refine wpAny_bind (wpAny_callSpecial?_slot (name:=Str.ofString "__getitem__") ht.typeIs PyProof.Rows.slot_tuple_getitem
  (wpAny_call_entry PyProof.Rows.slot_tuple_getitem ht.typeIs entry_tuple_getitem ?_ (args_tuple_getitem _ _)))
 show wpAny _ _ (Builtin.Tuple.tupleItemsOf (.ref a) >>= _) _ _ s
 refine wpAny_bind (tupleItemsOf_ ht ?_)
 refine wpAny_bind (wpAny_typeOf hTs ?_)
 rw[if_pos (by decide)]
 refine wpAny_bind (HT.sliceApplied_gen hs pl pu ?_)
 have hyes:((((HT.sIx its.toArray.size 0 lo:Nat):Int)==0&&(1:Int)==1&&(HT.sIx its.toArray.size its.toArray.size hi-HT.sIx its.toArray.size 0 lo)==its.toArray.size)=true):=by
  rw[bX,hw.1,hw.2];simp
 show wpAny _ _ (if (((HT.sIx its.toArray.size 0 lo:Nat):Int)==0&&(1:Int)==1&&(HT.sIx its.toArray.size its.toArray.size hi-HT.sIx its.toArray.size 0 lo)==its.toArray.size)=true then _ else _) _ _ s
 rw[if_pos hyes]
 have fin:EP X pins σ Q (.ref a) s:=⟨.ref a,H,I,rfl,q⟩
 refine wpAny_bind (m:=Builtin.Tuple.tupleIsExact (.ref a)) ?_
 unfold Builtin.Tuple.tupleIsExact
 refine wpAny_bind (wpAny_typeOf ht.typeIs ?_)
 refine wpAny_pure ?_
 rw[if_pos (by decide)]
 exact wpAny_bind (wpAny_rule (wpAny_pure ⟨_,rfl,wpAny_pure fin⟩))
end
end L3
namespace L3
open PySem PySem.Spec PyProof.Rows L2
section
variable {X:Cx}{E:XK}
noncomputable def eL {α:Type}(xs:List α)(lo hi:Option Int):List α:=(xs.drop (HT.sIx xs.length 0 lo)).take (HT.sIx xs.length xs.length hi-HT.sIx xs.length 0 lo)
theorem IsAll.cut {H:Hp}{m:Addr->Prop}{ds:List D}{vs:List V}(h:IsAll H m ds vs)(lo hi:Option Int):IsAll H m (eL ds lo hi) (m8 vs lo hi):=by
 unfold eL m8
 rw[h.length]
 exact(h.drop _).take _
noncomputable def xI (mg:Str->Option Value)(E:XK)(g:Gd)(M:Addr->Prop)(ρ:Pr)(env:En)(σ:St)(H:Hp)(Q:Option Int->Hp->Prop):Res (Option Int)->Prop
 | .stuck=>False
 | .exc c=>vZ mg E g c
 | .ok o=>∀ M' H',Ext M H M' H'->Rep g M' ρ env σ H'->Q o H'
noncomputable def CG (X:Cx)(E:XK)(e:Option Expr)(f:En->Res (Option Int)):Prop:=∃ t,PO X e t/\∀ g M ρ env σ H Q,Rep g M ρ env σ H->xI X.mg E g M ρ env σ H Q (f env)->t σ H Q
noncomputable def ip:En->Res (Option Int):=fun _=>.ok none
noncomputable def gr (f:En->Res R):En->Res (Option Int):=fun env=>(f env).bind fun r=>match r.d with
 | .int i=>.ok (some i)
 |_=>.stuck
theorem dF:CG X E none ip:=⟨_,vJ,fun g M ρ env σ H Q rep p=>p M H (Ext.refl _ _) rep⟩
theorem cy {e:Expr}{f:En->Res R}(h:PD X E e f):CG X E (some e) (gr f):=by
 obtain⟨t,p1,s1⟩:=h
 refine⟨_,vK p1,fun g M ρ env σ H Q rep p=>s1.one rep (P:=fun M H r=>xI X.mg E g M ρ env σ H Q r) p (fun _ _ z=>z) (fun _ _ _ z=>z) (fun M H M' H' r e p=>?_) fun r v M1 H1 e1 rep1 is q=>?_⟩
 ·cases r with
  |stuck=>exact p
  |exc c=>exact p
  |ok o=>exact fun M2 H2 e2=>p M2 H2 (e.trans e2)
 ·cases z:r.d with
  |int i=>
   rw[z]at is;simp only[z]at q
   cases is
   exact⟨i,rfl,q M1 H1 (Ext.refl _ _) rep1⟩
  |_=>simp only[z]at q;exact q.elim
noncomputable def D.ty:D->String
 | .non=>"NoneType" | .bl _=>"bool" | .int _=>"int" | .str _=>"str" | .tup _=>"tuple" | .lst _=>"list" | .dic _ _=>"dict"
noncomputable def DV (K:PySem.W.Frag) (H:Hp) (x:V) (t:Value):Prop:=TyOf K H x t\/(t=.type "dict"/\∃ a,x=.ref a/\DT H a)
theorem Is.ty {H:Hp}{m:Addr->Prop}{d:D}{v:V}{K:PySem.W.Frag}(h:Is H m d v):DV K H v (.type d.ty):=by
 cases d with
 |non=>cases h;exact .inl .non
 |bl b=>cases h;exact .inl (.bl b)
 |int b=>cases h;exact .inl (.int b)
 |str b=>cases h;exact .inl (.str b)
 |tup ds=>obtain⟨a,vs,rfl,h1,_⟩:=h;exact .inl (.tup h1)
 |lst ds=>
  obtain⟨a,vs,rfl,h1,_⟩:=h
  rcases h1 with⟨h1,_⟩|⟨o,h1,_⟩
  ·exact .inl (.lst h1)
  ·exact .inl (.frz h1)
 |dic ks ds=>
  obtain⟨a,kvs,rfl,h1,_⟩:=h
  exact .inr ⟨rfl,a,rfl,h1.1.imp (fun⟨kvs,e,_⟩=>⟨kvs,e⟩) fun⟨kvs,e,_⟩=>⟨kvs,e⟩⟩
noncomputable def sC (T:String)(d:D):Bool:=match d with
 | .non=>T=="NoneType"
 | .bl _=>T=="bool" || T=="int"
 | .int _=>T=="int"
 | .str _=>T=="str"
 | .tup _=>T=="tuple"
 | .lst _=>T=="list"
 | .dic _ _=>T=="dict"
noncomputable def rD (T:String):Prop:=∀(K:PySem.W.Frag)(d:D),PySem.W.kitOne K (.type d.ty) (.type T)=some (sC T d)
theorem ny:rD "int":=fun K d=>by cases d<;>kernel_rfl
theorem rE:rD "bool":=fun K d=>by cases d<;>kernel_rfl
theorem gQ:rD "list":=fun K d=>by cases d<;>kernel_rfl
theorem ck:rD "tuple":=fun K d=>by cases d<;>kernel_rfl
theorem kc:rD "str":=fun K d=>by cases d<;>kernel_rfl
noncomputable def fE (T:String)(fa:En->Res R):En->Res R:=fun env=>(fa env).bind fun r=>.ok (.val (.bl (sC T r.d)) true [])
theorem tO:CallR X (.builtin "isinstance") (fun xs H Q=>∃ x T t b,xs=[x,.ty T]/\DV X.K H x t/\PySem.W.kitOne X.K t (.type T)=some b/\Q (.bl b) H):=by
 intro pins s σ H xs us Q I r h
 obtain⟨x,T,t,b,rfl,ty,e,q⟩:=h
 obtain⟨u,c,rfl,ru,rc⟩:=m5 r
 obtain rfl:c=Value.type T:=rc
 rcases ty with ty|⟨rfl,a,rfl,hd⟩
 ·exact qT I ru ty e fun tk=>⟨.bl b,H,I.tok tk,rfl,q⟩
 ·obtain rfl:u=Value.ref a:=ru
  obtain⟨t1,_⟩:=yL I hd
  exact PySem.W.kia_one PySem.W.kitx_dict I.kIn t1 e (fun z=>nomatch z) fun tk=>⟨.bl b,H,I.tok tk,rfl,q⟩
theorem bW {T:Str} {T':String} {e:Expr} {fa:En->Res R} {p q pos:Pos} (hK:rD T') (hg:Gl X "isinstance") (hm:X.mg "isinstance"=none) (hgT:Gl X T) (hmT:X.mg T=none) (hvT:bootBuiltins T=some (.type T')) (ha:PD X E e fa)
 (hnT:autoParam (T≠"__name__") autoD._auto_1) (hdT:autoParam ((T==("__debug__" : Str))=false) autoD._auto_1)
 (he:autoParam (starEach [e,.Name T q] X.env=(false,eval e X.env)::starEach [.Name T q] X.env) autoR._auto_1) (he2:autoParam (starEach [.Name T q] X.env=(false,eval (.Name T q) X.env)::starEach [] X.env) autoR._auto_1) (hpl:autoParam ((backTo pos (starEach [.Name T q] X.env)).any (·.1)=false) autoR._auto_1) :
 PD X E (.Call (.Name "isinstance" p) [e,.Name T q] [] pos) (fE T' fa):=by
 obtain⟨ta,p1,s1⟩:=ha
 refine⟨_,m7 tO hg hm (by decide +kernel) (d9 p1 (d9 (vw hgT hmT hvT (v:=.ty T') rfl hnT hdT) ge he2) he) (by decide) (by decide) he hpl,fun g M ρ env σ H Q rep p=>s1.oneE rep p fun r v M1 H1 e1 rep1 is q=>?_⟩
 exact⟨v,T',_,_,rfl,is.ty,hK X.K r.d,q _ M1 H1 (Ext.refl _ _) rep1 rfl⟩
end
end L3
namespace L3
open PySem PySem.Spec PyProof.Rows L2
section
variable {X:Cx}{E:XK}
noncomputable def dG:List D->Option (List Bool)
 | []=>some []
 | .bl b::r=>(dG r).map fun bs=>b::bs
 |_::_=>none
noncomputable def oJ:List R->Res R
 | [r]=>match r.d with
  | .lst ds=>match dG ds with
   |some bs=>.ok (.val (.bl (bs.all id)) true [])
   |none=>.stuck
  |_=>.stuck
 |_=>.stuck
theorem lG:∀{ds:List D}{bs:List Bool}{i:Nat}{d:D},dG ds=some bs->ds[i]?=some d->∃ b,d=.bl b/\bs[i]?=some b
 | [],_,_,_,_,e=>by simp at e
 | .bl b::r,bs,0,d,h,e=>by
  simp at e;subst e
  unfold dG at h
  cases q:dG r with
  |none=>rw[q]at h;cases h
  |some bs'=>rw[q]at h;cases h;exact⟨b,rfl,rfl⟩
 | .bl b::r,bs,i+1,d,h,e=>by
  unfold dG at h
  cases q:dG r with
  |none=>rw[q]at h;cases h
  |some bs'=>
   rw[q]at h;cases h
   obtain⟨b',e1,e2⟩:=lG (i:=i) q (by simpa using e)
   exact⟨b',e1,by simpa using e2⟩
 | .non::_,_,_,_,h,_=>by cases h
 | .int _::_,_,_,_,h,_=>by cases h
 | .str _::_,_,_,_,h,_=>by cases h
 | .tup _::_,_,_,_,h,_=>by cases h
 | .lst _::_,_,_,_,h,_=>by cases h
theorem lH:∀{ds:List D}{bs:List Bool},dG ds=some bs->bs.length=ds.length
 | [],_,h=>by cases h;rfl
 | .bl b::r,bs,h=>by
  unfold dG at h
  cases q:dG r with
  |none=>rw[q]at h;cases h
  |some bs'=>rw[q]at h;cases h;simp[lH q]
 | .non::_,_,h=>by cases h
 | .int _::_,_,h=>by cases h
 | .str _::_,_,h=>by cases h
 | .tup _::_,_,h=>by cases h
 | .lst _::_,_,h=>by cases h
theorem rF (hc:X.calm=true):CallR X (.builtin "all") (fun xs H Q=>∃(p:Addr)(vs:List V)(bs:List Bool),xs=[.ref p]/\SqL X.K H p vs/\vs=bs.map V.bl/\Q (.bl (bs.all id)) H):=by
 intro pins s σ H xs us Q I r h
 obtain⟨p,vs,bs,rfl,hq,rfl,q⟩:=h
 obtain⟨u,rfl,rx⟩:=jj r
 cases rx
 obtain⟨its,rv,pl,hz⟩:=I.list hq
 have hh:X.A.in1.handled=none:=I.ok.hd hc
 obtain⟨o,ho,_⟩:=pl.isList
 have hlt:p<s.heap.objs.size:=Heap.lt_size ho
 refine call_all_walk (wpAny_pyIter_list pl.isList ?_)
 refine⟨s.heap.objs.size,_,_,_,_,_,fun i=>(bs[i]?).getD true,rfl,Walks.list hh s.heap.objs.size p (Nat.ne_of_lt hlt) its.toArray,⟨⟨_,Heap.get?_push_size _ rfl,rfl,rfl⟩,?_⟩,?_,fun h' tk hk=>?_⟩
 ·exact pl.isList.at fun o e=>Heap.get?_push_of_some _ e
 ·intro i v s' Q' E' hv hQ'
  have hv:its[i]?=some v:=by simpa using hv
  have hi:i<its.length:=(List.getElem?_eq_some_iff.mp hv).1
  have hl:=rv.length
  have hb:i<bs.length:=by simpa using (by rw[List.length_map]at hl;omega:i<bs.length)
  obtain⟨u',hu,ru⟩:=rv.get (i:=i) (x:=.bl bs[i]) (by simp[hb])
  rw[hv]at hu;cases hu
  cases ru
  have eb:bs[i]?=some bs[i]:=by simp[hb]
  dsimp only at hQ'
  rw[eb]at hQ'
  exact wpAny_truthy_bool hQ'
 ·have hl:=rv.length
  rw[List.length_map]at hl
  have e:((List.range its.toArray.size).all fun i=>(bs[i]?).getD true)=bs.all id:=by
   rw[List.size_toArray,<- hl]
   rw[Bool.eq_iff_iff,List.all_eq_true,List.all_eq_true]
   constructor
   ·intro h b hb
    obtain⟨i,hi⟩:=List.mem_iff_getElem?.mp hb
    have:=h i (by simp;exact(List.getElem?_eq_some_iff.mp hi).1)
    rw[hi]at this;exact this
   ·intro h i hi
    have hi:i<bs.length:=by simpa using hi
    have eb:bs[i]?=some bs[i]:=by simp[hi]
    rw[eb]
    exact h _ (List.getElem_mem hi)
  rw[e]
  refine⟨.bl _,H,?_,rfl,q⟩
  have I1:L2.Inv X pins σ H { s with heap:=s.heap.push { cls:=.type "list_iterator",data:=.fields #[.ref p,.int 0 0] } }:=I.kept (t':=s.toks) fun b o e=>Heap.get?_push_of_some _ e
  have fo:=I.fpOk (H':=H) (Nat.le_refl s.heap.objs.size) (I.hok.fresh (Nat.le_refl _))
  exact I1.turned (t':=tk) (it:=s.heap.objs.size) (fun b o hb e=>hk b o (by simpa using hb) e) fo.1 fo.2.1 fo.2.2.2.1 fo.2.2.2.2.1 fo.2.2.2.2.2
theorem mw (hc:X.calm=true):g9 X E (.builtin "all") oJ:=by
 refine⟨_,rF hc,fun g M ρ env σ H Q rs vs rep i p=>?_⟩
 match rs,i,p with
 | [r],i,p=>
  obtain⟨v,w,rfl,i1,i2⟩:=i
  cases i2
  have i1:Is H (vmsk g M (bh [r]) ρ (bu [r])) r.d v:=i1
  unfold oJ at p
  dsimp only at p
  cases q:r.d with
  |lst ds=>
   rw[q]at p i1
   obtain⟨a,ws,rfl,h1,h2⟩:=i1.rd
   dsimp only at p
   cases qb:dG ds with
   |none=>rw[qb]at p;exact p.elim
   |some bs=>
    rw[qb]at p
    refine⟨a,ws,bs,rfl,.inl h1,?_,p _ M H (Ext.refl _ _) rep rfl⟩
    apply List.ext_getElem?
    intro j
    by_cases hj:j<ds.length
    ·obtain⟨b,e1,e2⟩:=lG (i:=j) (d:=ds[j]) qb (by simp[hj])
     obtain⟨v',ev,iv⟩:=h2.get (i:=j) (d:=ds[j]) (by simp[hj])
     rw[e1]at iv
     cases iv
     rw[ev,List.getElem?_map,e2];rfl
    ·have l1:=h2.length
     have l2:=lH qb
     rw[List.getElem?_eq_none (by omega),List.getElem?_eq_none (by simp;omega)]
  |_=>rw[q]at p;exact p.elim
 | [],_,p=>exact p.elim
 |_::_::_,_,p=>exact p.elim
mutual
theorem Is.sh {H:Hp}{m:Addr->Prop}(hp:∀ a,m a->Mu H a):∀{d:D}{v:V},Is H m d v->IsSh H m d v
 | .non,_,_=>True.intro
 | .bl _,_,_=>True.intro
 | .int _,_,_=>True.intro
 | .str _,_,_=>True.intro
 | .tup ds,_,h=>by
  obtain⟨a,vs,e,h1,h2⟩:=h
  exact⟨a,vs,e,h1,IsAll.sh hp h2⟩
 | .lst ds,_,h=>by
  obtain⟨a,vs,e,h1,h2⟩:=h
  rcases h1 with⟨h1,h3⟩|⟨o,h1,h3⟩
  ·exact⟨a,vs,e,h1,h3⟩
  ·obtain⟨uo,z,zm⟩:=hp a h3;rw[h1]at z;cases z;exact zm.elim
 | .dic _ _,_,_=>True.intro
theorem IsAll.sh {H:Hp}{m:Addr->Prop}(hp:∀ a,m a->Mu H a):∀{ds:List D}{vs:List V},IsAll H m ds vs->IsShs H m ds vs
 | [],_,_=>True.intro
 |d::ds,_,h=>by
  obtain⟨v,r,e,h1,h2⟩:=h
  exact⟨v,r,e,Is.sh hp h1,IsAll.sh hp h2⟩
end
end
end L3
namespace L3
open PySem PySem.Spec PyProof.Rows L2
noncomputable def De (K:PySem.W.Frag)(a:Addr):It:=
 ⟨fun i H=>∃ xs x,SqL K H a xs/\xs[i]?=some x,fun i H y H'=>∃ p x,H p=none/\y=.ref p/\H'=bz H p (.tup [.int (i:Nat),x])/\∀ xs,SqL K H a xs->xs[i]?=some x,fun i H=>∃ xs,SqL K H a xs/\xs.length<=i⟩
theorem rG {P:Program}{w:World}{K:PySem.W.Frag}{es:List Expr}{k:Nat}{pos:Pos}(a it e:Addr)(hei:e≠it):Turn P w K (.Tuple es k pos) (De K a) [e,it] e (fun i h=>(∃ old,IsEnum h e it i old)/\h.IsListIter it a i) where
 mem:=by simp
 obj:=fun i h st b hb=>by
  obtain⟨⟨old,he⟩,o,ho,c,d⟩:=st
  rcases List.mem_cons.mp hb with rfl|hb
  ·exact⟨_,he,fun v z=>by cases z⟩
  ·have:b=it:=by simpa using hb
   subst this
   exact⟨o,ho,fun v z=>by rw[d]at z;cases z⟩
 keep:=fun i h h' st kk=>by
  obtain⟨⟨old,he⟩,hl⟩:=st
  exact⟨⟨old,kk e (by simp) _ he⟩,hl.at fun o q=>kk it (by simp) o q⟩
 item:=by
  intro X hP hw hK hc i pins s σ H E I hf st hg
  subst hP hw hK
  obtain⟨xs,x,hq,hx⟩:=hg
  obtain⟨⟨old,he⟩,hl⟩:=st
  obtain⟨its,rv,p,hz⟩:=I.list hq
  obtain⟨u,hu,ru⟩:=rv.get hx
  have fe:=hf e (by simp)
  have fi:=hf it (by simp)
  have hai:a≠it:=by
   intro z
   obtain⟨o1,e1,c1,_⟩:=p.isList
   obtain⟨o2,e2,c2,_⟩:=hl
   rw[z,e2]at e1;cases e1
   rw[c2]at c1;injection c1 with z;exact absurd z (by decide)
  have hae:a≠e:=by
   intro z
   obtain⟨o1,e1,c1,_⟩:=p.isList
   rw[z,he]at e1;cases e1;injection c1 with z;exact absurd z (by decide)
  have hh:X.A.in1.handled=none:=I.ok.hd hc
  have hil:i<its.length:=(List.getElem?_eq_some_iff.mp hu).1
  refine wpAny_pyNext_enum_itemD (Draws.list hh it a hai its.toArray) he ⟨hl,p.isList⟩ (by simpa using hil) hei (by simp;exact⟨hei,Ne.symm hae⟩) fun x' h' tk hx' ho hs' hT hsz hk=>?_
  have ex:x'=u:=by
   have:its[i]?=some x':=by simpa using hx'
   rw[hu]at this;exact(Option.some.inj this).symm
  subst ex
  refine⟨_,rfl,wpAny_letOwnedTupleGo_enum ho fun h'' he'' hs''=>?_⟩
  have keep2:∀ b o,b≠e->b≠it->s.heap.get? b=some o->h''.get? b=some o:=fun b o n1 n2 q=>(hs''.2 b n1).trans (hk b o n1 n2 q)
  have hTe:s.heap.objs.size≠e:=Nat.ne_of_gt (Heap.lt_size he)
  have hT'':h''.get? s.heap.objs.size=some { cls:=.type "tuple",data:=.seq #[.int i tk,x'] }:=(hs''.2 _ hTe).trans hT
  have I1:L2.Inv X pins σ (bz H s.heap.objs.size (.tup [.int (i:Nat),x])) { s with heap:=h'',toks:=tk+1 }:=by
   refine I.step (g':=s.gens) (d':=s.drawn) (ch:=[e,it]) (fun b hb=>?_) (fun b o _ _ hn q _=>keep2 b o (fun z=>hn (by simp[z])) (fun z=>hn (by simp[z])) q)
    (fun b o _ _ hn q _=>⟨o.slots,keep2 b o (fun z=>hn (by simp[z])) (fun z=>hn (by simp[z])) q⟩) (fun b o _ q hH=>by rw[ax (Nat.ne_of_lt (Heap.lt_size q))];exact hH)
    (fun b o hn q=>⟨o,keep2 b o (fun z=>hn (by simp[z])) (fun z=>hn (by simp[z])) q⟩) (fun b ys q=>by rw[ax (ap q (I.hok.fresh (Nat.le_refl _)))];exact q)
    (fun b o' u' q=>by rw[ax (ap q (I.hok.fresh (Nat.le_refl _)))];exact q) (fun b ps q=>⟨#[],by rw[ax (ap q (I.hok.fresh (Nat.le_refl _)))];simp[q]⟩) (fun m hm=>?_) (fun b u' q=>?_) I.bare
   ·rcases List.mem_cons.mp hb with rfl|hb
    ·exact⟨fe.2.2.2.1,fe.2.1,fe.2.2.2.2.1,fe.2.2.2.2.2⟩
    ·have:b=it:=by simpa using hb
     subst this
     exact⟨fi.2.2.2.1,fi.2.1,fi.2.2.2.2.1,fi.2.2.2.2.2⟩
   ·obtain⟨o,es',ep,ho',r⟩:=hm
    exact⟨o,es',ep,keep2 _ o (Ne.symm fe.2.1) (Ne.symm fi.2.1) ho',r⟩
   ·by_cases hb:b=s.heap.objs.size
    ·subst hb
     rw[aP]at q;cases q
     refine⟨by show 2<=sizeLine;decide,[.int i tk,x'],.cons ⟨tk,rfl⟩ (.cons ru .nil),⟨_,hT'',rfl,0,rfl⟩⟩
    ·rw[ax hb]at q
     refine(I.hok b u' q).stay (fun c v hc' q'=>keep2 c v ?_ ?_ q') (fun c r=>by rw[ax (ap r (I.hok.fresh (Nat.le_refl _)))];exact r) fun c ys r=>by rw[ax (ap r (I.hok.fresh (Nat.le_refl _)))];exact r
     ·rcases hc' with z|z
      ·rw[z];exact ap q fe.1
      ·exact ap z fe.1
     ·rcases hc' with z|z
      ·rw[z];exact ap q fi.1
      ·exact ap z fi.1
  refine⟨.ref s.heap.objs.size,_,I1,rfl,⟨_,x,I.hok.fresh (Nat.le_refl _),rfl,rfl,fun ys hy=>by rw[I.list_inj hy hq];exact hx⟩,⟨⟨_,by simpa using he''⟩,?_⟩,fun b hb=>?_⟩
  ·obtain⟨o,q,r⟩:=hs'.1
   exact⟨o,(hs''.2 it (Ne.symm hei)).trans q,r⟩
  ·rcases List.mem_cons.mp hb with rfl|hb
   ·rw[ax (Nat.ne_of_lt (Heap.lt_size he))];exact fe.1
   ·have:b=it:=by simpa using hb
    subst this
    obtain⟨o,q,_⟩:=hl
    rw[ax (Nat.ne_of_lt (Heap.lt_size q))];exact fi.1
 done:=by
  intro X hP hw hK hc i pins s σ H E I hf st hg
  subst hP hw hK
  obtain⟨xs,hq,hx⟩:=hg
  obtain⟨⟨old,he⟩,hl⟩:=st
  obtain⟨its,rv,p,hz⟩:=I.list hq
  have fi:=hf it (by simp)
  have hai:a≠it:=by
   intro z
   obtain⟨o1,e1,c1,_⟩:=p.isList
   obtain⟨o2,e2,c2,_⟩:=hl
   rw[z,e2]at e1;cases e1
   rw[c2]at c1;injection c1 with z;exact absurd z (by decide)
  have hh:X.A.in1.handled=none:=I.ok.hd hc
  have hln:=rv.length
  have Dr:Draws X.prog X.w X.A.in1 it [it,a] 0 (fun _ _=>True) (fun _ h=>h.IsListIter it a i/\h.IsList a its.toArray):=
   { live:=fun _ _ st=>let ⟨o,ho,_⟩:=st.1;⟨o,ho⟩
     frame:=fun _ _ _ st hk=>⟨st.1.at fun o e=>hk it (by simp) o e,st.2.at fun o e=>hk a (by simp) o e⟩
     item:=fun i s Q E hi=>absurd hi (by omega)
     done:=fun s Q E st hE=>wpAny_nextOf_list_end hh st.1 st.2 (by simp;omega) hE }
  exact wpAny_pyNext_enum_endD Dr he ⟨hl,p.isList⟩ fun h' eb=>⟨rfl,I.turned (t':=s.toks) (fun b o hb e=>eb b o hb e) fi.1 fi.2.1 fi.2.2.2.1 fi.2.2.2.2.1 fi.2.2.2.2.2⟩
 self:=fun A i s Q E st h=>by
  obtain⟨⟨old,he⟩,_⟩:=st
  exact wpAny_pyIter_enum he h
section
variable {X:Cx}{E:XK}{es:List Expr}{k:Nat}{mS:Pos}
noncomputable def Br (K:PySem.W.Frag)(ta:TA):TI:=fun σ H R=>ta σ H fun vs H1=>∃ a xs,vs=[.ref a]/\SqL K H1 a xs/\R (De K a) H1
theorem wa {l:Expr} {ta:TA} {p pos:Pos} (hg:Gl X "enumerate") (hm:X.mg "enumerate"=none) (ha:PA X [l] ta) (hs:autoParam (starEach [l] X.env=[(false,eval l X.env)]) autoR._auto_1):PI X (.Tuple es k mS) (.Call (.Name "enumerate" p) [l] [] pos) (Br X.K ta):=by
 intro pins s σ H R I h
 refine Call_ (gd I hg hm (by decide +kernel:bootBuiltins "enumerate"=some (.type "enumerate")) (PyProof.Rows.callWith_type1 (da (ha pos pins s σ H _ I h) fun us s1 ⟨vs,H1,I1,r1,q1⟩=>?_) hs rfl))
 obtain⟨a,xs,e,hq,q⟩:=q1
 subst e
 cases r1 with
 |cons r rr=>
  cases rr
  cases r
  obtain⟨its,rv,pl,hz⟩:=I1.list hq
  refine call_enumerate_list pl.isList fun h' he hl hsz kp=>?_
  have I2:L2.Inv X pins σ H1 { s1 with heap:=h' }:=I1.kept (t':=s1.toks) kp
  refine wpAny_pyIter_enum he ?_
  refine⟨s1.heap.objs.size+1,[s1.heap.objs.size+1,s1.heap.objs.size],_,_,H1,rfl,I2,rG a s1.heap.objs.size (s1.heap.objs.size+1) (Nat.succ_ne_self _),⟨⟨_,by simpa using he⟩,hl⟩,fun b hb=>?_,q⟩
  rcases List.mem_cons.mp hb with rfl|hb
  ·exact I1.fpOk (Nat.le_succ _) (I1.hok.fresh (Nat.le_succ _))
  ·have e:b=s1.heap.objs.size:=by simpa using hb
   subst e
   exact I1.fpOk (Nat.le_refl _) (I1.hok.fresh (Nat.le_refl _))
noncomputable def cq:Nat->List D->List D
 |_,[]=>[]
 |n,d::ds=>.tup [.int (n:Nat),d]::cq (n+1) ds
theorem lI:∀(ds:List D)(n i:Nat),(cq n ds)[i]?=(ds[i]?).map fun d=>.tup [.int ((n+i:Nat):Int),d]
 | [],_,_=>by simp[cq]
 |d::ds,n,0=>by simp[cq]
 |d::ds,n,i+1=>by
  have:=lI ds (n+1) i
  simp only[cq,List.getElem?_cons_succ,this]
  congr 1
  funext d
  have e:n+1+i=n+(i+1):=by omega
  rw[e]
theorem lJ:∀(ds:List D)(n:Nat),(cq n ds).length=ds.length
 | [],_=>rfl
 |d::ds,n=>by simp[cq,lJ ds]
theorem rH {K:PySem.W.Frag}{a:Addr}{m:Addr->Prop}{H:Hp}{ds:List D}{vs:List V}(h:(H a=some (.lst vs)/\m a)\/∃ o,H a=some (.frz o (.lst vs))/\m a)(is:IsAll H m ds vs):Walk (De K a) m H (cq 0 ds):=by
 have st:∀ H',(∀ a o,H a=some o->(m a\/fixd o)->H' a=some o)->SqL K H' a vs:=fun H' k=>by
  rcases h with⟨h,hm⟩|⟨o,h,_⟩
  ·exact .inl (.inl (k a _ h (.inl hm)))
  ·exact .inl (.inr ⟨o,k a _ h (.inr True.intro)⟩)
 refine⟨fun H' i d k e=>?_,fun H' k=>⟨vs,st H' k,by rw[is.length,lJ];exact Nat.le_refl _⟩⟩
 rw[lI]at e
 cases q:ds[i]? with
 |none=>rw[q]at e;cases e
 |some d0=>
  rw[q]at e
  have e:D.tup [.int ((0+i:Nat):Int),d0]=d:=by simpa using e
  obtain⟨v,ev,iv⟩:=(is.mono k fun _ _ _ z=>z:IsAll H' m ds vs).get q
  refine⟨⟨vs,v,st H' k,ev⟩,fun x H'' y=>?_⟩
  obtain⟨p,x',hp,rfl,rfl,y⟩:=y
  have:=y vs (st _ k)
  rw[ev]at this;cases this
  have sm:Same H' (bz H' p (.tup [.int (i:Nat),v])):=bE hp
  refine⟨sm,?_⟩
  rw[<- e,Nat.zero_add]
  exact⟨p,_,rfl,aP,.int (i:Nat),[v],rfl,rfl,v,[],rfl,Is.same sm iv,rfl⟩
noncomputable def nz (fs:En->Res (List R)):En->Res Src:=fun env=>(fs env).bind fun rs=>match rs with
 | [r]=>match r.d with
  | .lst ds=>.ok ⟨cq 0 ds,r.fr,r.al⟩
  |_=>.stuck
 |_=>.stuck
theorem ke {l:Expr} {fs:En->Res (List R)} {p pos:Pos} (hg:Gl X "enumerate") (hm:X.mg "enumerate"=none) (ha:rj X E [l] fs) (hs:autoParam (starEach [l] X.env=[(false,eval l X.env)]) autoR._auto_1):yX X E (.Tuple es k mS) (.Call (.Name "enumerate" p) [l] [] pos) (nz fs):=by
 obtain⟨t,p1,s1⟩:=ha
 refine⟨_,wa hg hm p1 hs,fun g M ρ env σ H Rq rep p=>s1.one rep (P:=fun M H r=>PostI X.mg E g M ρ env σ H Rq r) p (fun _ _ z=>z) (fun _ _ _ z=>z) (fun _ _ _ _ _ e p=>p.ext e) fun rs vs M1 H1 e1 rep1 is q=>?_⟩
 match rs,is,q with
 | [r],is,q=>
  obtain⟨v,w,rfl,i1,i2⟩:=is
  cases i2
  have i1:Is H1 (vmsk g M1 (bh [r]) ρ (bu [r])) r.d v:=i1
  replace i1:=i1.weak fun _ z=>pH z
  dsimp only at q
  cases z:r.d with
  |lst ds=>
   rw[z]at i1;rw[z]at q
   dsimp only at q
   obtain⟨a,ws,rfl,h1,h2⟩:=i1
   exact⟨a,ws,rfl,.inl (h1.imp (·.1) fun⟨o,z,_⟩=>⟨o,z⟩),q _ M1 H1 (Ext.refl _ _) rep1 (rH h1 h2)⟩
  |_=>rw[z]at q;exact q.elim
 | [],_,q=>exact q.elim
 |_::_::_,_,q=>exact q.elim
end
end L3
namespace L3
open PySem PySem.Spec PyProof.Rows L2
noncomputable def DW (osc:Scope)(N:List Str)(scope:Scope)(tN capN:List Str)(caps:List Nat):Bool:=
 (scope.kind==.function)&&scope.names.all (fun y=>y.2 != .cell)&&scope.names.all (fun y=>y.2 != .local || scope.names.lookup y.1==some .local)&&tN.all (fun x=>scope.names.lookup x==some .local) &&
 scope.names.all (fun y=>y.2 != .free || (osc.names.lookup y.1==some .cell || osc.names.lookup y.1==some .free))&&(capN.zip caps).all (fun p=>N[p.2]?==some p.1)&&(caps.length==capN.length) &&
 capN.all (fun y=>osc.names.lookup y==some .cell || osc.names.lookup y==some .free)&&capN.all (fun y=>scope.names.lookup y==some .free)&&decide (tN++capN).Nodup
theorem CScope.of {X:Cx}{osc:Scope}{N:List Str}{scope:Scope}{tN capN:List Str}{caps:List Nat}(h1:X.env.scope=osc)(h2:X.N=N)(h3:DW osc N scope tN capN caps=true):CScope X scope tN capN caps:=by
 unfold DW at h3
 simp only[Bool.and_eq_true,List.all_eq_true,Bool.or_eq_true,beq_iff_eq,bne_iff_ne,decide_eq_true_eq,ne_eq]at h3
 obtain⟨⟨⟨⟨⟨⟨⟨⟨⟨a1,a2⟩,a3⟩,a4⟩,a5⟩,a6⟩,a7⟩,a8⟩,a9⟩,a10⟩:=h3
 subst h1 h2
 refine⟨a1,a2,fun y hy hl=>(a3 y hy).resolve_left fun z=>z hl,a4,fun y hy hf=>(a5 y hy).resolve_left fun z=>z hf,⟨fun k y e=>?_,a8,a9,a7⟩,a10⟩
 have hk:k<capN.length:=(List.getElem?_eq_some_iff.mp e).1
 have hk2:k<caps.length:=by omega
 refine⟨caps[k],by simp[hk2],?_⟩
 have hm:(y,caps[k])∈capN.zip caps:=by
  have:(capN.zip caps)[k]?=some (y,caps[k]):=by
   rw[List.getElem?_zip_eq_some]
   exact⟨e,by simp[hk2]⟩
  exact List.mem_of_getElem? this
 exact a6 _ hm
structure Fn (K:PySem.W.Frag) (mg:Str->Option Value) (x:Str) (st:Stmt) (ps:List Str) (f:Addr) (fd:FuncData):Prop where
 fu:Fun K x x st f fd
 bi:Binds K fd ps []
 gl:mg x=some (.ref f)
end L3
namespace L3
open PySem PySem.Spec PyProof.Rows L2
section
variable {X:Cx}{E:XK}
end
end L3
namespace L3
open PySem PySem.Spec PyProof.Rows L2
noncomputable def CH (F:List D->Res R):Sp:=fun vs H Q _=>vs.length=1/\∃ ds Ma r,IsAll H Ma ds vs/\F ds=.ok r/\∀ v H',Same H H'->RetOk (Bi H Ma) H' v r->Q v H'
theorem kf {H:Hp}{m:Addr->Prop}:∀ ns:List Int,IsAll H m (ns.map D.int) (ns.map V.int)
 | []=>rfl
 |n::r=>⟨.int n,r.map V.int,rfl,rfl,kf r⟩
theorem yZ {F:List D->Res R}(hF:∀ ns:List Int,ns.length<=63->∃ f al,F [.lst (ns.map .int)]=.ok (.val (.bl true) f al))(H:Hp)(a:Addr)(ns:List Int)(hl:ns.length<=63)(hS:∃ o,H a=some (.frz o (.lst (ns.map V.int)))) :
 CH F [.ref a] H (fun v _=>v=.bl true) fun _ _ _=>False:=by
 obtain⟨f,al,e⟩:=hF ns hl
 obtain⟨o,hS⟩:=hS
 exact⟨rfl,[.lst (ns.map .int)],fun b=>b=a,_,⟨_,[],rfl,⟨a,ns.map V.int,rfl,.inr ⟨o,hS,rfl⟩,kf ns⟩,rfl⟩,e,fun v H' _ h=>h⟩
section
variable {P:Program}{w:World}{K:PySem.W.Frag}{mg:Str->Option Value}{base:Heap}
theorem FnOk.top {CX:CXT}{k:Nat}{f:Addr}{fd:FuncData}{ps:List Str}{F:List D->Res R}(h:FnOk P w K mg base CX k f fd ps (g6 mg 1 F)):FnOk P w K mg base CX k f fd ps (CH F):=
 h.imp fun vs H Q E ⟨hl,ds,Ma,r,is,e,q⟩=>⟨hl,ds,Ma,is,by rw[e];exact q⟩
end
end L3
namespace L3
open PySem PySem.Spec PyProof.Rows L2
section
variable {P:Program}{w:World}{K:PySem.W.Frag}{mg:Str->Option Value}{base:Heap}
theorem bB {x qual:Str}{st:Stmt}{f:Addr}{fd:FuncData}{N ps:List Str}{k:Nat}{FB:En->Res Fl}(F:Fun K x qual st f fd)(S:FnScope N ps (defScope st))
 (body:∀(cdv:Value)(A:Around)(outer:List Env)(s:Shared)(H:Hp)(E:XK),Room k (A.deeper (envOfC qual (defScope st) s.heap.objs.size f cdv))->nu (jn P w K mg base N qual (defScope st) f cdv A outer s H E) E (defBody st) FB) :
 FnOk P w K mg base (gh P w) (k+1) f fd ps (g6 mg ps.length (cj N FB)):=by
 obtain⟨oc,od,kV,doc,pm,an,cdv,ct,osl,rfl,lk,hcd⟩:=F.ex
 refine xA lk hcd S (fun vs H Q E h=>h.1) fun A outer s H vs Q E hr hsp=>?_
 obtain⟨hl,ds,Ma,is,post⟩:=hsp
 obtain⟨t,p1,s1⟩:=body cdv A outer s H E hr
 refine⟨t,p1,s1 (Bi H Ma) _ _ (hZ N ds) (L2.fW N vs) H _ (rC is) ?_⟩
 unfold cj at post
 cases q:FB (hZ N ds) with
 |stuck=>rw[q]at post;exact post
 |exc c=>rw[q]at post;exact post
 |ok r=>
  rw[q]at post
  cases r with
  |nx env=>exact fun σ M' ρ' H' _ rep=>post .non H' rep.same rfl
  |rt r=>exact fun v M' H' _ s ro _=>post v H' s (ro fun _ z=>z)
  |rm r env=>exact post.elim
  |bk env=>exact post.elim
  |ct env=>exact post.elim
theorem kg {X:Cx}:jV (gh P w) X E0:=fun _ _ _ _ _ _ _ h=>by
 obtain⟨_,_,_,_,_,_,_,_,_,_,_,_,_,_,_,z⟩:=h
 exact z.elim
end
theorem y0 {P:Program}{w:World}{l:List Env}{H:Hp}{s s':Shared}{e:Value}(h:gh P w l H s (fun _ _ _=>False) e s'):False:=by
 obtain⟨_,_,_,_,_,_,_,_,_,_,_,_,_,_,_,z⟩:=h
 exact z
section
variable {P:Program}{w:World}{K:PySem.W.Frag}{mg:Str->Option Value}{base:Heap}{N:List Str}{qual:Str}{scope:Scope}{f:Addr}{cd:Value}{A:Around}{outer:List Env}{s₀:Shared}{H₀:Hp}{E:XK}
noncomputable def kh (c:Str)(fs:En->Res (List R)):En->Res Fl:=fun env=>(fs env).bind fun rs=>if rs.length<=lim then .exc c else .stuck
theorem lK {c:Str}{C:Addr}{np cpos pos:Pos}{e₀:Expr}{bg:List Expr}{fs:En->Res (List R)}(hc:XC K mg c C)(hg:Gl (jn P w K mg base N qual scope f cd A outer s₀ H₀ E) c)(ha:rj (jn P w K mg base N qual scope f cd A outer s₀ H₀ E) E (e₀::bg) fs)
 (he:autoParam (starEach (e₀::bg) (jn P w K mg base N qual scope f cd A outer s₀ H₀ E).env=(false,eval e₀ (jn P w K mg base N qual scope f cd A outer s₀ H₀ E).env)::starEach bg (jn P w K mg base N qual scope f cd A outer s₀ H₀ E).env) autoR._auto_1)
 (hpl:autoParam ((backTo cpos (starEach bg (jn P w K mg base N qual scope f cd A outer s₀ H₀ E).env)).any (·.1)=false) autoR._auto_1) (hd:autoParam ((c==("__debug__" : Str))=false) autoD._auto_1) :
 rn (jn P w K mg base N qual scope f cd A outer s₀ H₀ E) E (.Raise (some (.Call (.Name c np) (e₀::bg) [] cpos)) none pos) (kh c fs):=by
 obtain⟨t,p1,s1⟩:=ha
 refine⟨_,sS (EW:=fun H=>E (.ref C) none H) hc hg rfl p1 (fun pins σ H s h' x args I hm hE=>vP I hm hE) he hpl hd,fun g M ρ env σ H D rep p=>?_⟩
 refine s1 g M ρ env σ H _ rep ?_
 unfold kh at p
 cases q:fs env with
 |stuck=>rw[q]at p;exact p
 |exc c'=>rw[q]at p;exact p
 |ok rs=>
  rw[q]at p
  simp only[Res.bind_ok]at p
  intro vs M1 H1 e1 rep1 is
  by_cases hl:rs.length<=lim
  ·rw[if_pos hl]at p
   refine⟨by rw[is.length,List.length_map];exact db hl,?_⟩
   exact p (.ref C) none H1 hc.gl rep1.same
  ·rw[if_neg hl]at p;exact p.elim
end
section
variable {X:Cx}{E:XK}{hc:Str}{Ch:Addr}{cs:List Str}{np hpos pos epos p cpos:Pos}{b₀:Stmt}{suite:List Stmt}{fsu:En->Res Fl}{k:Nat}{f:Addr}{fd:FuncData}{ps:List Str}{F:List D->Res R}{x:Str}{e:Expr}{es:List Expr}{fs:En->Res (List R)}
end
end L3
namespace L3
open PySem PySem.Spec PyProof.Rows L2
structure ZipNe (z TI TO i1 i2:Addr):Prop where
 TIz:TI≠z
 TOz:TO≠z
 i1z:i1≠z
 i2z:i2≠z
 TITO:TI≠TO
 TIi1:TI≠i1
 TIi2:TI≠i2
 TOi1:TO≠i1
 TOi2:TO≠i2
 i12:i1≠i2
section
variable {h:Heap}{z TI TO i1 i2 a b:Addr}{i:Nat}{its its2:Array Value}
end
theorem y3 (n:Nat):ZipNe (n+4) (n+2) (n+3) n (n+1):=
 ⟨(show(n+2:Nat)≠n+4 by omega),(show(n+3:Nat)≠n+4 by omega),(show(n:Nat)≠n+4 by omega),(show(n+1:Nat)≠n+4 by omega),(show(n+2:Nat)≠n+3 by omega),(show(n+2:Nat)≠n by omega),(show(n+2:Nat)≠n+1 by omega),
   (show(n+3:Nat)≠n by omega),(show(n+3:Nat)≠n+1 by omega),(show(n:Nat)≠n+1 by omega)⟩
section
variable {X:Cx}{E:XK}{es:List Expr}{k:Nat}{mS:Pos}
noncomputable def gb:List D->List D->List D
 |d::ds,e::es=>.tup [d,e]::gb ds es
 |_,_=>[]
theorem nA:∀(ds es:List D)(i:Nat),(gb ds es)[i]?=(match ds[i]?,es[i]? with|some d,some e=>some (.tup [d,e])|_,_=>none)
 | [],_,_=>by simp[gb]
 |d::ds,[],i=>by
  simp only[gb,List.getElem?_nil]
  cases (d::ds)[i]?<;>rfl
 |d::ds,e::es,0=>by simp[gb]
 |d::ds,e::es,i+1=>by simp only[gb,List.getElem?_cons_succ];exact nA ds es i
theorem nB:∀(ds es:List D),(gb ds es).length=min ds.length es.length
 | [],_=>by simp[gb]
 |d::ds,[]=>by simp[gb]
 |d::ds,e::es=>by simp only[gb,List.length_cons,nB ds es];omega
theorem pK {g:Gd}{M:Addr->Prop}{ρ:Pr}{r q:R}{a:Addr}(h:vmsk g M (bh [r,q]) ρ (bu [r,q]) a):vmsk g M (r.fr&&q.fr) ρ (r.al++q.al) a:=by
 have e1:bh [r,q]=(r.fr&&q.fr):=by simp[bh]
 have e2:bu [r,q]=r.al++q.al:=by simp[bu]
 rw[e1,e2]at h
 exact h
end
section
variable {X:Cx}{E:XK}
noncomputable def Df (k:Int->Int->Int):List R->Res R
 | [r,q]=>match r.d,q.d with
  | .int i,.int j=>.ok (.val (.int (k i j)) true [])
  |_,_=>.stuck
 |_=>.stuck
noncomputable def y9:List R->Res R:=Df fun i j=>if j>i then j else i
theorem Bs {f:Value}{k:Int->Int->Int}(h:CallR X f (fun xs H Q=>∃ i j,xs=[.int i,.int j]/\Q (.int (k i j)) H)):g9 X E f (Df k):=by
 refine⟨_,h,fun g M ρ env σ H Q rs vs rep i p=>?_⟩
 match rs,i,p with
 | [r,q],i,p=>
  obtain⟨v,w,rfl,i1,v2,w2,rfl,i2,i3⟩:=i
  cases i3
  have i1:Is H (vmsk g M (bh [r,q]) ρ (bu [r,q])) r.d v:=i1
  have i2:Is H (vmsk g M (bh [r,q]) ρ (bu [r,q])) q.d v2:=i2
  unfold Df at p
  dsimp only at p
  cases z:r.d with
  |int a=>
   cases z2:q.d with
   |int b=>
    rw[z]at i1;rw[z2]at i2;rw[z,z2]at p
    cases i1;cases i2
    exact⟨a,b,rfl,p _ M H (Ext.refl _ _) rep rfl⟩
   |_=>rw[z,z2]at p;exact p.elim
  |_=>rw[z]at p;exact p.elim
 | [],_,p=>exact p.elim
 | [_],_,p=>exact p.elim
 |_::_::_::_,_,p=>exact p.elim
theorem y_ (hc:X.calm=true):g9 X E (.builtin "max") y9:=Bs (qQ hc)
noncomputable def oK:List R->Res R
 | [r]=>match r.d with
  | .int i=>.ok (.val (.int i) true [])
  | .bl b=>.ok (.val (.int (if b then 1 else 0)) true [])
  |_=>.stuck
 |_=>.stuck
theorem tP:g9 X E (.type "int") oK:=by
 refine⟨_,qR,fun g M ρ env σ H Q rs vs rep i p=>?_⟩
 match rs,i,p with
 | [r],i,p=>
  obtain⟨v,w,rfl,i1,i2⟩:=i
  cases i2
  have i1:Is H (vmsk g M (bh [r]) ρ (bu [r])) r.d v:=i1
  unfold oK at p
  dsimp only at p
  cases z:r.d with
  |int a=>rw[z]at i1 p;cases i1;exact .inl ⟨a,rfl,p _ M H (Ext.refl _ _) rep rfl⟩
  |bl b=>rw[z]at i1 p;cases i1;exact .inr ⟨b,rfl,p _ M H (Ext.refl _ _) rep rfl⟩
  |_=>rw[z]at p;exact p.elim
 | [],_,p=>exact p.elim
 |_::_::_,_,p=>exact p.elim
end
end L3
namespace L3
open PySem PySem.Spec PyProof.Rows L2
section
variable {X:Cx}{E:XK}
noncomputable def wb (fa:En->Res R):En->Res R:=fun env=>(fa env).bind fun ra=>match ra.d with
 | .int i=>.ok (.val (.int (-i)) true [])
 |_=>.stuck
theorem za {a:Expr}{fa:En->Res R}{pos:Pos}(ha:PD X E a fa):PD X E (.UnaryOp .USub a pos) (wb fa):=by
 obtain⟨ta,pa,sa⟩:=ha
 refine⟨_,AZ yB pa,fun g M ρ env σ H Q rep p=>sa.oneE rep p fun r v M' H' e rep' i p'=>?_⟩
 cases q:r.d with
 |int b=>
  rw[q]at i
  simp only[q]at p'
  cases i
  exact⟨b,rfl,p' _ M' H' (Ext.refl _ _) rep' rfl⟩
 |_=>simp only[q]at p';exact p'.elim
open Classical in
noncomputable def bS (H:Hp)(m:Addr->Prop)(x:D)(u:Value):Bool:=decide (∃ d v,RelV v u/\Is H m d v/\bJ d x=true)
theorem i6 {H:Hp}{m:Addr->Prop}{x d:D}{v:V}{u:Value}(r:RelV v u)(h:Is H m d v):bS H m x u=bJ d x:=by
 unfold bS
 cases q:bJ d x with
 |true=>exact @decide_eq_true _ (Classical.propDecidable _) ⟨d,v,r,h,q⟩
 |false=>
  refine @decide_eq_false _ (Classical.propDecidable _) fun⟨d',v',r',h',q'⟩=>?_
  have e:=L2.RelV.inj r r'
  subst e
  have e:=Is.inj h h'
  subst e
  rw[q]at q';cases q'
theorem fq {H:Hp}{m:Addr->Prop}{x:D}:∀{ds:List D}{vs:List V}{us:List Value},IsAll H m ds vs->Vals vs us->us.any (bS H m x)=ds.any fun d=>bJ d x
 | [],_,_,h,r=>by cases h;cases r;rfl
 |d::ds,_,_,h,r=>by
  obtain⟨v,w,rfl,h1,h2⟩:=h
  cases r with
  |cons r1 r2=>rw[List.any_cons,List.any_cons,i6 r1 h1,fq h2 r2]
noncomputable def zb (neg:Bool)(K:PySem.W.Frag):R2:=fun x y H Q=>∃ p ds vs d m m',y=.ref p/\(SqL K H p vs\/SqT K H p vs)/\IsAll H m ds vs/\Is H m' d x/\(D.deps ds<=50/\d.dep<=50)/\Q (.bl (if neg then !(ds.any fun e=>bJ e d) else ds.any fun e=>bJ e d)) H
theorem dA {pins:List (Addr×Obj)}{σ:St}{H:Hp}{s:Shared}{m m':Addr->Prop}{d:D}{x:V}{v:Value}{A:Around}(I:L2.Inv X pins σ H s)(hu:A.units+50<cLine)(hx:Is H m' d x)(hE:d.dep<=50)(rx:RelV x v) :
 ∀{ds:List D}{vs:List V}{us:List Value},IsAll H m ds vs->Vals vs us->D.deps ds<=50->∀ u∈us,SeqAt.EqAt A s u v (bS H m d u)
 | [],_,_,h,r,_=>fun u hu=>by cases h;cases r;cases hu
 |e::ds,_,_,h,r,hd=>fun u hm=>by
  obtain⟨y,w,rfl,h1,h2⟩:=h
  have hd':max e.dep (D.deps ds)<=50:=hd
  cases r with
  |cons r1 r2=>
   rcases List.mem_cons.mp hm with rfl|hm
   ·rw[i6 r1 h1]
    exact tm I.hok 50 A hu (by omega) (by omega) (by omega) h1 hx r1 rx
   ·exact dA I hu hx hE rx h2 r2 (by omega) u hm
theorem zc (hu:X.A.units+64<cLine):OpR X (compareOp .In) (zb false X.K):=by
 intro pins s σ H x y v u Q I rx ry h
 obtain⟨p,ds,vs,d,m,m',rfl,hq,hi,hx,hd,q⟩:=h
 cases ry
 rcases hq with hq|hq
 ·obtain⟨its,r,pl,hz⟩:=I.list hq
  refine SeqAt.in_listAt (bS H m d) pl.isList (fun w hw=>dA I (by show X.A.units+1+50<cLine;omega) hx hd.2 rx hi r hd.1 w (by simpa using hw)) ⟨.bl _,H,I,rfl,?_⟩
  rw[show its.toArray.any (bS H m d)=its.any (bS H m d) by simp,fq hi r]
  exact q
 ·obtain⟨its,r,pl,hz⟩:=I.tuple hq
  refine SeqAt.in_tupleAt (bS H m d) pl (fun w hw=>dA I (by show X.A.units+1+50<cLine;omega) hx hd.2 rx hi r hd.1 w (by simpa using hw)) ⟨.bl _,H,I,rfl,?_⟩
  rw[show its.toArray.any (bS H m d)=its.any (bS H m d) by simp,fq hi r]
  exact q
theorem rJ (hu:X.A.units+64<cLine):OpR X (compareOp .NotIn) (zb true X.K):=by
 intro pins s σ H x y v u Q I rx ry h
 obtain⟨p,ds,vs,d,m,m',rfl,hq,hi,hx,hd,q⟩:=h
 cases ry
 rcases hq with hq|hq
 ·obtain⟨its,r,pl,hz⟩:=I.list hq
  refine SeqAt.notIn_listAt (bS H m d) pl.isList (fun w hw=>dA I (by show X.A.units+1+50<cLine;omega) hx hd.2 rx hi r hd.1 w (by simpa using hw)) ⟨.bl _,H,I,rfl,?_⟩
  rw[show its.toArray.any (bS H m d)=its.any (bS H m d) by simp,fq hi r]
  exact q
 ·obtain⟨its,r,pl,hz⟩:=I.tuple hq
  refine SeqAt.notIn_tupleAt (bS H m d) pl (fun w hw=>dA I (by show X.A.units+1+50<cLine;omega) hx hd.2 rx hi r hd.1 w (by simpa using hw)) ⟨.bl _,H,I,rfl,?_⟩
  rw[show its.toArray.any (bS H m d)=its.any (bS H m d) by simp,fq hi r]
  exact q
noncomputable def AM (neg:Bool)(x:D)(ds:List D):Res R:=if D.deps ds<=50/\x.dep<=50 then .ok (.val (.bl (if neg then !(ds.any fun e=>bJ e x) else ds.any fun e=>bJ e x)) true []) else .stuck
noncomputable def oM (neg:Bool)(a b:R):Res R:=match b.d with
 | .lst ds=>AM neg a.d ds
 | .tup ds=>AM neg a.d ds
 |_=>.stuck
noncomputable def Ef:R->R->Res R:=oM false
noncomputable def zd:R->R->Res R:=oM true
theorem tQ {neg:Bool}{f:Value->Value->Sem Value}(h:OpR X f (zb neg X.K)):j8 X E f (oM neg):=by
 refine⟨_,h,fun g M ρ env σ H Q ra rb x y rep i1 i2 p=>?_⟩
 unfold oM at p
 have key:∀ ds,PostE X.mg E g M ρ env σ H Q (AM neg ra.d ds)->(D.deps ds<=50/\ra.d.dep<=50)/\Q (.bl (if neg then !(ds.any fun e=>bJ e ra.d) else ds.any fun e=>bJ e ra.d)) H:=fun ds p=>by
  unfold AM at p
  by_cases hd:D.deps ds<=50/\ra.d.dep<=50
  ·rw[if_pos hd]at p;exact⟨hd,p _ M H (Ext.refl _ _) rep rfl⟩
  ·rw[if_neg hd]at p;exact p.elim
 cases e2:rb.d with
 |lst ds=>
  rw[e2]at p i2
  obtain⟨a,vs,rfl,h1,h2⟩:=i2.rd
  obtain⟨k1,k2⟩:=key ds p
  exact⟨a,ds,vs,ra.d,_,_,rfl,.inl (.inl h1),h2,i1,k1,k2⟩
 |tup ds=>
  rw[e2]at p i2
  obtain⟨a,vs,rfl,h1,h2⟩:=i2
  obtain⟨k1,k2⟩:=key ds p
  exact⟨a,ds,vs,ra.d,_,_,rfl,.inr (SqT.of h1),h2,i1,k1,k2⟩
 |_=>rw[e2]at p;exact p.elim
theorem Bt (hu:X.A.units+64<cLine):j8 X E (compareOp .In) Ef:=tQ (zc hu)
theorem tR (hu:X.A.units+64<cLine):j8 X E (compareOp .NotIn) zd:=tQ (rJ hu)
end
end L3
namespace L2
open PySem PySem.Spec PySem.Calls PyProof.Rows
section
variable {K:PySem.W.Frag}{x C:Addr}{c:Value}
end
section
variable {X:Cx}{pins:List (Addr×Obj)}{σ:St}{H:Hp}{s:Shared}{x:Addr}{o:Obj}
theorem pL {M:Model}{A:Around}{E:Value->Shared->Prop}{i:Nat}{n:Str}{pos:Pos}{Q:Unit->Shared->Prop}(I:Inv X pins σ H s)(hN:X.N.Nodup)(hi:X.N[i]?=some n)(hk:X.env.scope.names.lookup n=some .local)
 (h:∀ s',Inv X pins (σ.set i none) H s'->Q () s'):wpAny M A (do bindName X.env n .none;unbindBehindTheSuite X.env n pos) Q E s:=by
 obtain⟨m,hn,hl⟩:=id I.loc
 have hcls:(X.env.scope.kind==.class || (X.env.scope.kind==.module&&X.env.locals != X.env.globals))=false:=by rw[I.ok.kind];rfl
 have hiσ:i<σ.length:=by rw[I.len];exact(List.getElem?_eq_some_iff.mp hi).1
 have cne:=I.cne
 have tracked:∀{a:Addr}{h':Heap},(∃ o,s.heap.get? a=some o/\H a=none)->Heap.SameBut a s.heap h'->HOk X.prog X.w H h':=fun{a h'} ha hs b ob e=>by
  obtain⟨_,_,hfree⟩:=ha
  refine(I.hok b ob e).stay (fun c w' hc q=>(hs.2 c ?_).trans q) (fun _ q=>q) fun _ _ q=>q
  rintro rfl
  rcases hc with rfl|hc
  ·rw[hfree]at e;cases e
  ·rw[hfree]at hc;cases hc
 refine wpAny_nameGoes_keeps hk hn hcls fun h' v hn' hs=>?_
 obtain⟨oL,_,_,hoL,_⟩:=id hn
 refine h _ ⟨I.ok,I.os,I.bare,⟨fun b o e n hb hx=>?_,fun b o e n hb hx=>?_,I.base.free,fun b o e hx=>?_,I.base.tups,I.base.frzs,I.base.tbls⟩,⟨_,hn',fun j y v' e1 e2 e3=>?_⟩,fun y c e=>?_,I.free,I.freeC,fun p hp=>?_,tracked ⟨oL,hoL,I.free⟩ hs,by simpa using I.len⟩
 ·exact(hs.2 b (Nat.ne_of_lt (Nat.lt_of_lt_of_le (Heap.lt_size e) I.ok.above))).trans (I.base.keep b o e n hb hx)
 ·obtain⟨sl,e1⟩:=I.base.slot b o e n hb hx
  exact⟨sl,(hs.2 b (Nat.ne_of_lt (Nat.lt_of_lt_of_le (Heap.lt_size e) I.ok.above))).trans e1⟩
 ·obtain⟨o',e1⟩:=I.base.there b o e hx
  exact⟨o',(hs.2 b (Nat.ne_of_lt (Nat.lt_of_lt_of_le (Heap.lt_size e) I.ok.above))).trans e1⟩
 ·by_cases hj:j=i
  ·subst hj
   rw[List.getElem?_set_self hiσ]at e2
   cases e2
  ·rw[List.getElem?_set_ne (Ne.symm hj)]at e2
   obtain⟨u',r',q⟩:=hl j y v' e1 e2 e3
   refine⟨u',r',?_⟩
   rcases q with⟨k,e⟩|⟨k,c,e,z⟩
   ·refine .inl ⟨k,?_⟩
    have:y≠n:=fun e=>hj (jS hN e1 (e▸hi))
    simp[this,e]
   ·exact .inr ⟨k,c,e,z.sameBut hs (cne y c e)⟩
 ·obtain⟨w',z⟩:=I.cell y c e
  exact⟨w',z.sameBut hs (cne y c e)⟩
 ·obtain⟨e,n,ne,nf,d⟩:=I.pin p hp
  exact⟨(hs.2 p.1 ne).trans e,n,ne,nf,d⟩
end
section
variable {X:Cx}{hc:Str}{Ch:Addr}{np hpos pos epos:Pos}{b₀:Stmt}{suite:List Stmt}{ts:Addr->Addr->TS}{te:TX}{e:Expr}{i:Nat}{n:Str}
end
end L2
namespace L2
open PySem PySem.Spec PySem.Calls PyProof.Rows
section
variable {X:Cx}{i iw:Nat}{n y b1 b2:Str}{s1 s2:Str}{py p1 p2 p3 p4 p5 p6 p7 p8 p9 p10 p11 p12 p13 p14 p15 lp:Pos}{j1 j2}{T1:String}{Ch2:Addr}
end
end L2
namespace L3
open PySem PySem.Spec PyProof.Rows L2
section
variable {X:Cx}{E:XK}{i iw:Nat}{n y b1 b2:Str}{s1 s2:Str}{py p1 p2 p3 p4 p5 p6 p7 p8 p9 p10 p11 p12 p13 p14 p15 lp:Pos}{j1 j2}{T1:String}{Ch2:Addr}
variable {hc:Str}{Ch:Addr}{cs:List Str}{np hpos pos epos p cpos:Pos}{k:Nat}{f:Addr}{fd:FuncData}{ps:List Str}{F:List D->Res R}{x:Str}{e:Expr}{es:List Expr}{fs:En->Res (List R)}
end
end L3
namespace L3
open PySem PySem.Spec PyProof.Rows L2
noncomputable def tS:D->Option Key
 | .int i=>some (.inl i)
 | .str x=>some (.inr x)
 |_=>none
noncomputable def jr:List D->Option (List Key)
 | []=>some []
 |d::ds=>match tS d,jr ds with
  |some k,some ks=>some (k::ks)
  |_,_=>none
noncomputable def keyT:D->Option (List Key)
 | .tup ds=>jr ds
 |_=>none
noncomputable def tT:D->Option (List Key×D)
 | .tup [k,v]=>(keyT k).map fun ks=>(ks,v)
 |_=>none
noncomputable def i7:List D->Option (List (List Key×D))
 | []=>some []
 |d::ds=>match tT d,i7 ds with
  |some p,some ps=>some (p::ps)
  |_,_=>none
noncomputable def tU (t:List (List Key×D))(k:List Key)(d:D):List (List Key×D):=if (t.any fun x=>decide (x.1=k))=true then t.map (fun x=>if x.1=k then (x.1,d) else x) else t++[(k,d)]
noncomputable def nC (t ps:List (List Key×D)):List (List Key×D):=ps.foldl (fun t x=>tU t x.1 x.2) t
noncomputable def Bu (ps:List (List Key×D)):D:=.dic ((nC [] ps).map fun p=>.inr p.1) ((nC [] ps).map Prod.snd)
noncomputable def tV:List R->Res R
 | [r]=>match r.d with
  | .lst ds=>match i7 ds with
   |some ps=>if D.flats ((nC [] ps).map Prod.snd) then .ok (.fre (Bu ps)) else .stuck
   |none=>.stuck
  |_=>.stuck
 |_=>.stuck
section
variable {H:Hp}{m:Addr->Prop}
theorem Is.key {d:D}{v:V}{k:Key}(h:Is H m d v)(e:tS d=some k):v=kV k:=by
 cases d with
 |int i=>cases e;exact h
 |str x=>cases e;exact h
 |_=>cases e
theorem IsAll.keys:∀{ds:List D}{vs:List V}{ks:List Key},IsAll H m ds vs->jr ds=some ks->vs=ks.map kV
 | [],_,_,h,e=>by cases h;cases e;rfl
 |d::ds,_,ks,h,e=>by
  obtain⟨v,r,rfl,h1,h2⟩:=h
  unfold jr at e
  cases q:tS d with
  |none=>rw[q]at e;cases e
  |some k=>
   cases q2:jr ds with
   |none=>rw[q,q2]at e;cases e
   |some ks'=>
    rw[q,q2]at e;cases e
    rw[h1.key q,IsAll.keys h2 q2];rfl
theorem Is.keyT {d:D}{v:V}{k:List Key}(h:Is H m d v)(e:L3.keyT d=some k):∃ b,v=.ref b/\H b=some (.tup (k.map kV)):=by
 cases d with
 |tup ds=>
  obtain⟨a,vs,rfl,h1,h2⟩:=h
  have e:jr ds=some k:=e
  rw[IsAll.keys h2 e]at h1
  exact⟨a,rfl,h1⟩
 |_=>cases e
noncomputable def RKV (H:Hp)(m:Addr->Prop):List (List Key×V)->List (List Key×D)->Prop:=Paired fun a b=>a.1=b.1/\Is H m b.2 a.2
theorem RKV.fst {a:List (List Key×V)}{b:List (List Key×D)}(r:RKV H m a b):a.map Prod.fst=b.map Prod.fst:=by
 induction r with
 |nil=>rfl
 |cons h _ ih=>rw[List.map_cons,List.map_cons,ih,h.1]
theorem RKV.snd {a:List (List Key×V)}{b:List (List Key×D)}(r:RKV H m a b):IsAll H m (b.map Prod.snd) (a.map Prod.snd):=by
 induction r with
 |nil=>rfl
 |cons h _ ih=>exact⟨_,_,rfl,h.2,ih⟩
theorem RKV.append {a c:List (List Key×V)}{b d:List (List Key×D)}(r:RKV H m a b)(s:RKV H m c d):RKV H m (a++c) (b++d):=by
 induction r with
 |nil=>exact s
 |cons h _ ih=>exact .cons h ih
theorem RKV.any {a:List (List Key×V)}{b:List (List Key×D)}(r:RKV H m a b)(k:List Key):(a.any fun x=>decide (x.1=k))=(b.any fun x=>decide (x.1=k)):=by
 induction r with
 |nil=>rfl
 |cons h _ ih=>rw[List.any_cons,List.any_cons,ih,h.1]
theorem RKV.repl {a:List (List Key×V)}{b:List (List Key×D)}{k:List Key}{v:V}{d:D}(r:RKV H m a b)(h:Is H m d v):RKV H m (a.map fun x=>if x.1=k then (x.1,v) else x) (b.map fun x=>if x.1=k then (x.1,d) else x):=by
 induction r with
 |nil=>exact .nil
 | @cons p q ps qs hq t ih=>
  refine .cons ?_ ih
  dsimp only
  by_cases e:p.1=k
  ·rw[if_pos e,if_pos (hq.1▸e)];exact⟨hq.1,h⟩
  ·rw[if_neg e,if_neg (fun z=>e (hq.1.trans z))];exact hq
theorem RKV.put {a:List (List Key×V)}{b:List (List Key×D)}{k:List Key}{v:V}{d:D}(r:RKV H m a b)(h:Is H m d v):RKV H m (eI a k v) (tU b k d):=by
 unfold eI tU
 rw[r.any k]
 split
 ·exact r.repl h
 ·exact r.append (.cons ⟨rfl,h⟩ .nil)
theorem nE:∀{ds:List D}{vs:List V}{ps:List (List Key×D)},IsAll H m ds vs->i7 ds=some ps->∃ kvs,ma H vs kvs/\∀ a b,RKV H m a b->RKV H m (gk a kvs) (nC b ps)
 | [],_,_,h,e=>by cases h;cases e;exact⟨[],.nil,fun a b r=>r⟩
 |d::ds,_,ps,h,e=>by
  obtain⟨v,r,rfl,h1,h2⟩:=h
  unfold i7 at e
  cases q:tT d with
  |none=>rw[q]at e;cases e
  |some p=>
   cases q2:i7 ds with
   |none=>rw[q,q2]at e;cases e
   |some ps'=>
    rw[q,q2]at e;cases e
    obtain⟨kvs,k1,k2⟩:=nE h2 q2
    unfold tT at q
    split at q
    ·rename_i kd vd
     obtain⟨a,vs2,rfl,g1,g2⟩:=h1
     obtain⟨y1,r1,rfl,i1,y2,r2,rfl,i2,i3⟩:=g2
     cases i3
     cases q3:keyT kd with
     |none=>rw[q3]at q;cases q
     |some kk=>
      rw[q3]at q;cases q
      obtain⟨ka,rfl,hka⟩:=i1.keyT q3
      exact⟨(kk,y2)::kvs,.cons ⟨a,ka,rfl,g1,hka⟩ k1,fun a b r=>k2 _ _ (r.put i2)⟩
    ·cases q
end
section
variable {X:Cx}{E:XK}
theorem pM {g:Gd}{M:Addr->Prop}{ρ:Pr}{env:En}{σ:St}{H H':Hp}{b:Addr}{d:D}(rep:Rep g M ρ env σ H)(hb:H b=none)(is:Is H' (fun a=>a=b) d (.ref b))(mu:Mu H' b):ROk g M ρ H H' (.ref b) (.fre d):=by
 obtain⟨h0,hm,ho⟩:=rep.free hb
 exact⟨fun a=>a=b,fun a e=>by subst e;exact⟨hm,hb,mu,ho⟩,is⟩
theorem wc (hc:X.calm=true) (hu:X.A.units+64<cLine):g9 X E (.type "dict") tV:=by
 refine⟨_,oA hc hu,fun g M ρ env σ H Q rs vs rep i p=>?_⟩
 match rs,i,p with
 | [r],i,p=>
  obtain⟨v,w,rfl,i1,i2⟩:=i
  cases i2
  have i1:Is H (vmsk g M (bh [r]) ρ (bu [r])) r.d v:=i1
  replace i1:=i1.weak fun _ z=>pH z
  unfold tV at p
  dsimp only at p
  cases q:r.d with
  |lst ds=>
   rw[q]at p i1
   dsimp only at p
   cases q2:i7 ds with
   |none=>rw[q2]at p;exact p.elim
   |some ps=>
    rw[q2]at p
    obtain⟨a,ws,rfl,h1,h2⟩:=i1.rd
    obtain⟨kvs,k1,k2⟩:=nE h2 q2
    refine⟨a,ws,kvs,rfl,h1,k1,fun b hb=>?_⟩
    have rk:=k2 [] [] .nil
    have s:Same H (bz H b (.dT (gk [] kvs))):=bE hb
    dsimp only at p
    by_cases hf:D.flats ((nC [] ps).map Prod.snd)=true
    ·rw[if_pos hf]at p
     refine p _ M _ ⟨fun _ z=>z,s,fun _ z=>.inl z⟩ (rep.grow s) (pM rep hb ⟨b,_,rfl,⟨.inr ⟨gk [] kvs,.inl aP,?_,rfl⟩,rfl⟩,IsAll.flat hf (IsAll.same s rk.snd)⟩ ⟨_,aP,True.intro⟩)
     have:=congrArg (List.map fun k:List Key=>(Sum.inr k:DK)) rk.fst
     rw[List.map_map,List.map_map]at this
     exact this.symm
    ·rw[if_neg hf]at p;exact p.elim
  |_=>rw[q]at p;exact p.elim
 | [],_,p=>exact p.elim
 |_::_::_,_,p=>exact p.elim
noncomputable def keyX:D->Option DK
 | .int i=>some (.inl (.inl i))
 | .str x=>some (.inl (.inr x))
 | .tup ds=>(jr ds).map .inr
 |_=>none
noncomputable def kin:DK->DK->Bool
 | .inl _,.inl _=>true
 | .inr _,.inr _=>true
 |_,_=>false
noncomputable def tW (ks:List DK)(k:DK):Bool:=ks.any fun x=>decide (x=k)
noncomputable def tX (neg:Bool)(a:D)(ks:List DK):Res R:=match keyX a with
 |some k=>if ks.all (kin k) then .ok (.val (.bl (if neg then !tW ks k else tW ks k)) true []) else .stuck
 |none=>.stuck
noncomputable def rK (neg:Bool)(a b:R):Res R:=match b.d with
 | .dic ks _=>tX neg a.d ks
 |_=>oM neg a b
noncomputable def ze:R->R->Res R:=rK false
noncomputable def mx:R->R->Res R:=rK true
noncomputable def zf (neg:Bool):R2:=fun x y H Q=>∃ a o,y=.ref a/\pA H a x o/\Q (.bl (if neg then !o.isSome else o.isSome)) H
theorem zg (hu:X.A.units+64<cLine):OpR X (compareOp .In) (zf false):=by
 intro pins s σ H x y v u Q I rx ry h
 obtain⟨a,o,rfl,g,q⟩:=h
 cases ry
 exact Bd (by omega) I g rx fun s' I'=>⟨.bl _,H,I',rfl,q⟩
theorem rL (hu:X.A.units+64<cLine):OpR X (compareOp .NotIn) (zf true):=by
 intro pins s σ H x y v u Q I rx ry h
 obtain⟨a,o,rfl,g,q⟩:=h
 cases ry
 exact sV (by omega) I g rx fun s' I'=>⟨.bl _,H,I',rfl,q⟩
theorem nF {κ:Type}[DecidableEq κ]{kvs:List (κ×V)}(inj:κ->DK)(hi:∀ a b,inj a=inj b->a=b)(k:κ):(ii kvs k).isSome=tW (kvs.map fun p=>inj p.1) (inj k):=by
 unfold tW
 induction kvs with
 |nil=>rfl
 |cons p r ih=>
  rw[List.map_cons,List.any_cons]
  by_cases e:p.1=k
  ·rw[gf e,decide_eq_true (congrArg inj e)];rfl
  ·rw[gg e,ih,decide_eq_false (fun z=>e (hi _ _ z)),Bool.false_or]
theorem Is.keyX {H:Hp}{m:Addr->Prop}{d:D}{v:V}{k:DK}(h:Is H m d v)(e:L3.keyX d=some k):(∃ k0,k=.inl k0/\v=kV k0)\/∃ k0 b,k=.inr k0/\v=.ref b/\H b=some (.tup (k0.map kV)):=by
 cases d with
 |int i=>cases e;exact .inl ⟨_,rfl,h⟩
 |str x=>cases e;exact .inl ⟨_,rfl,h⟩
 |tup ds=>
  have e:(jr ds).map Sum.inr=some k:=e
  obtain⟨k0,hk,rfl⟩:=Option.map_eq_some_iff.mp e
  obtain⟨b,e1,e2⟩:=Is.keyT (d:=.tup ds) h hk
  exact .inr ⟨k0,b,rfl,e1,e2⟩
 |_=>cases e
theorem we {H:Hp}{a:Addr}{ks:List DK}{vs:List V}{m:Addr->Prop}{d:D}{x:V}{k:DK}(h:DAt H a ks vs)(hx:Is H m d x)(e:L3.keyX d=some k)(hk:ks.all (kin k)=true):∃ o,pA H a x o/\o.isSome=tW ks k:=by
 rcases hx.keyX e with⟨k0,rfl,rfl⟩|⟨k0,b,rfl,rfl,hb⟩
 ·rcases h with⟨kvs,e1,rfl,rfl⟩|⟨kvs,e1,rfl,rfl⟩
  ·exact⟨_,.inl (.inl ⟨kvs,k0,e1,rfl,rfl⟩),nF Sum.inl (fun _ _ z=>Sum.inl.inj z) k0⟩
  ·cases kvs with
   |nil=>exact⟨none,.inr (.inl ⟨e1,⟨k0,rfl⟩,rfl⟩),rfl⟩
   |cons p r=>simp[kin]at hk
 ·rcases h with⟨kvs,e1,rfl,rfl⟩|⟨kvs,e1,rfl,rfl⟩
  ·cases kvs with
   |nil=>exact⟨none,.inr (.inr ⟨e1,⟨b,k0,rfl,hb⟩,rfl⟩),rfl⟩
   |cons p r=>simp[kin]at hk
  ·exact⟨_,.inl (.inr ⟨kvs,k0,b,e1,rfl,hb,rfl⟩),nF Sum.inr (fun _ _ z=>Sum.inr.inj z) k0⟩
theorem tY {neg:Bool}{f:Value->Value->Sem Value}(h1:j8 X E f (oM neg))(h2:OpR X f (zf neg)):j8 X E f (rK neg):=by
 obtain⟨r,o1,s1⟩:=h1
 refine⟨_,o1.or h2,fun g M ρ env σ H Q ra rb x y rep i1 i2 p=>?_⟩
 unfold rK at p
 cases q:rb.d with
 |dic ks ds=>
  right
  rw[q]at p i2
  dsimp only at p
  unfold tX at p
  cases q2:keyX ra.d with
  |none=>rw[q2]at p;exact p.elim
  |some k=>
   rw[q2]at p
   dsimp only at p
   by_cases hk:ks.all (kin k)=true
   ·rw[if_pos hk]at p
    obtain⟨a,vs,rfl,h1,h2⟩:=i2
    obtain⟨o,g1,g2⟩:=we h1.1 i1 q2 hk
    refine⟨a,o,rfl,g1,?_⟩
    rw[g2]
    exact p _ M H (Ext.refl _ _) rep rfl
   ·rw[if_neg hk]at p;exact p.elim
 |_=>
  left
  refine s1 g M ρ env σ H Q ra rb x y rep i1 i2 ?_
  rw[q]at p
  exact p
theorem zh (hu:X.A.units+64<cLine):j8 X E (compareOp .In) ze:=tY (Bt hu) (zg hu)
theorem rM (hu:X.A.units+64<cLine):j8 X E (compareOp .NotIn) mx:=tY (tR hu) (rL hu)
noncomputable def tZ (i:Nat)(f:En->Res R):En->Res Fl:=fun env=>match ff env i with
 |some (ds,fr)=>(f env).bind fun r=>match r with
  | .new es f2=>if ds.length+es.length<=lim then .ok (.nx (env.set i (some (.own (ds++es) (fr&&f2))))) else .stuck
  |_=>.stuck
 |none=>.stuck
theorem wf {i:Nat}{a e:Expr}{f:En->Res R}{apos cpos pos:Pos}(ha:PE X a (kX i))(h:PD X E e f)
 (hbase:autoParam (attributeBase a "extend" X.env (eval a X.env)=eval a X.env) autoR._auto_1)
 (hfew:autoParam (((backTo cpos (starEach [e] X.env)).all (fun x=>!x.1)&&(backToKw cpos (keywordEach [] X.env)).all (fun x=>x.1.isSome)
   && decide (([e]:List Expr).length+([]:List Keyword).length+(if ([]:List Keyword).isEmpty then 0 else 1)<30))=true) autoR._auto_1)
 (hline:autoParam ((apos.endLine==cpos.line)=true) autoR._auto_1) (hs:autoParam (starEach [e] X.env=(false,eval e X.env)::starEach [] X.env) autoR._auto_1) (hplain:autoParam ((backTo cpos (starEach [] X.env)).any (·.1)=false) autoR._auto_1)
 (hsw:autoParam (swapsWith (.Call (.Attribute a "extend" apos) [e] [] cpos) none pos.line X.env=pure false) autoR._auto_1) :
 rn X E (.Expr (.Call (.Attribute a "extend" apos) [e] [] cpos) pos) (tZ i f):=by
 obtain⟨t,p1,s1⟩:=h
 refine⟨_,jM (m9 PySem.F.plainAttrs_list PySem.F.slot_list_extend PySem.F.type_list_extend ly ha (d9 p1 ge hs) hbase hfew hline hs hplain) hsw,fun g M ρ env σ H D rep p=>?_⟩
 unfold tZ at p
 cases e1:ff env i with
 |none=>rw[e1]at p;exact p.elim
 |some o=>
  obtain⟨ds,fr⟩:=o
  rw[e1]at p
  dsimp only at p
  obtain⟨M0,ρ0,l,vs,m0,rep0,ev,k1,k2,k4,hi,_⟩:=rep.toOwn e1
  refine⟨_,ev,.inl ⟨rfl,vs,SqL.of k1⟩,s1.oneS rep p fun r y M' H' e rep' ro p'=>?_⟩
  cases r with
  |new es f2=>
   dsimp only at p'
   by_cases hc:ds.length+es.length<=lim
   ·rw[if_pos hc]at p'
    obtain⟨b,ws,rfl,h1,h2,h3,h4,h5⟩:=ro
    obtain⟨M3,ρ3,l3,vs3,m3,rep3,ev3,j1,j2,j4,hi3,_⟩:=rep'.toOwn e1
    rw[ev]at ev3;cases ev3
    have hl:H' l=some (.lst vs):=e.h _ _ k1
    rw[hl]at j1;cases j1
    have pl:ρ3 i l:=(j2 l).mpr rfl
    obtain⟨nl3,_⟩:=rep3.priv i l pl
    have is4:IsAll H' (msk g M3 (fr&&f2)) (ds++es) (vs++ws):=by
     refine IsAll.append (IsAll.weak (fun b z=>⟨z.1,fun q=>z.2 (by cases fr<;>simp_all)⟩) j4) (IsAll.weak (fun b z=>⟨m3 b z.1,fun q=>z.2 (by cases fr<;>simp_all)⟩) h5)
    have kp:∀ b u,H' b=some u->(msk g M3 (fr&&f2) b\/fixd u)->bz H' l (.lst (vs++ws)) b=some u:=fun b u q z=>by
     rw[ax]
     ·exact q
     ·rintro rfl
      rcases z with z|z
      ·exact nl3 z.1
      ·rw[hl]at q;cases q;exact z
    obtain⟨f1,rep4⟩:=rep3.write (sl:=.own (ds++es) (fr&&f2)) (vs':=vs++ws) pl (by rw[List.length_set];exact hi3) ev ⟨l,vs++ws,rfl,aP,j2,IsAll.mono kp (fun _ _ _ z=>z) is4⟩
    rw[List.set_set]at rep4
    refine⟨l,b,vs,ws,rfl,rfl,hl,h1,by rw[k4.length,h5.length];exact db hc,?_⟩
    exact p' σ M3 ρ3 _ (Frz.trans ⟨fun a z=>m3 a z,fun _ _ q _=>q⟩ f1) rep4
   ·rw[if_neg hc]at p';exact p'.elim
  |_=>exact p'.elim
end
end L3
namespace L3
open PySem PySem.Spec PyProof.Rows L2
section
variable {X:Cx}{E:XK}
end
end L3
namespace L3
open PySem PySem.Spec PyProof.Rows L2
end L3
namespace L3
open PySem PySem.Spec PyProof.Rows L2
noncomputable def getD:List DK->List D->DK->Option D
 |k'::ks,d::ds,k=>if k'=k then some d else getD ks ds k
 |_,_,_=>none
noncomputable def ki (ra rk:R):Res R:=match ra.d with
 | .dic ks ds=>match keyX rk.d with
  |some x=>if ks.all (kin x) then (match getD ks ds x with
   |some d=>.ok (mkV d ra.fr ra.al)
   |none=>.stuck) else .stuck
  |none=>.stuck
 |_=>.stuck
theorem my {κ:Type}[DecidableEq κ](inj:κ->DK)(hi:∀ a b,inj a=inj b->a=b){H:Hp}{m:Addr->Prop}{k:κ}{d:D}:∀{kvs:List (κ×V)}{ds:List D},IsAll H m ds (kvs.map Prod.snd)->getD (kvs.map fun p=>inj p.1) ds (inj k)=some d->∃ v,ii kvs k=some v/\Is H m d v
 | [],ds,_,e=>by cases ds<;>cases e
 |p::r,[],h,e=>by cases h
 |p::r,d0::ds,h,e=>by
  obtain⟨v0,r0,z,i1,i2⟩:=h
  cases z
  rw[List.map_cons]at e
  unfold getD at e
  by_cases hk:p.1=k
  ·rw[if_pos (congrArg inj hk)]at e
   cases e
   exact⟨p.2,gf hk,i1⟩
  ·rw[if_neg (fun z=>hk (hi _ _ z))]at e
   obtain⟨v,e1,e2⟩:=my inj hi i2 e
   exact⟨v,by rw[gg hk];exact e1,e2⟩
section
variable {X:Cx}{E:XK}
theorem pN {o k:Expr}{fa fk:En->Res R}{pos:Pos}(hu:X.A.units+64<cLine)(ho:PD X E o fa)(hk:PD X E k fk)(hs:sP k):PD X E (.Subscript o k pos) (v2 ki fa fk):=by
 obtain⟨ta,p1,s1⟩:=ho
 obtain⟨tk,p2,s2⟩:=hk
 refine⟨_,vO (by omega) p1 p2 hs,fun g M ρ env σ H Q rep p=>s1.twoE s2 rep p fun ra rk x y M1 H1 rep1 i1 i2 q=>?_⟩
 unfold ki at q
 cases qa:ra.d with
 |dic ks ds=>
  rw[qa]at q i1
  dsimp only at q
  cases qk:keyX rk.d with
  |none=>rw[qk]at q;exact q.elim
  |some kx=>
   rw[qk]at q
   dsimp only at q
   by_cases hc:ks.all (kin kx)=true
   ·rw[if_pos hc]at q
    obtain⟨a,vs,rfl,⟨dat,_⟩,hall⟩:=i1
    cases qd:getD ks ds kx with
    |none=>rw[qd]at q;exact q.elim
    |some d=>
     rw[qd]at q
     refine⟨a,?_⟩
     rcases i2.keyX qk with⟨k0,rfl,rfl⟩|⟨k0,b,rfl,rfl,hb⟩
     ·rcases dat with⟨kvs,e1,rfl,rfl⟩|⟨kvs,e1,rfl,rfl⟩
      ·obtain⟨v,g1,g2⟩:=my Sum.inl (fun _ _ z=>Sum.inl.inj z) hall qd
       exact⟨v,rfl,by rw[<- g1];exact .inl ⟨kvs,k0,e1,rfl,rfl⟩,q.val rep1 g2⟩
      ·cases kvs with
       |nil=>cases ds<;>cases qd
       |cons p r=>simp[kin]at hc
     ·rcases dat with⟨kvs,e1,rfl,rfl⟩|⟨kvs,e1,rfl,rfl⟩
      ·cases kvs with
       |nil=>cases ds<;>cases qd
       |cons p r=>simp[kin]at hc
      ·obtain⟨v,g1,g2⟩:=my Sum.inr (fun _ _ z=>Sum.inr.inj z) hall qd
       exact⟨v,rfl,by rw[<- g1];exact .inr ⟨kvs,k0,b,e1,rfl,hb,rfl⟩,q.val rep1 g2⟩
   ·rw[if_neg hc]at q;exact q.elim
 |_=>rw[qa]at q;exact q.elim
end
end L3
namespace L3
open PySem PySem.Spec PyProof.Rows L2
noncomputable def js:List D->Option (List Int)
 | []=>some []
 | .int i::r=>(js r).map (i::·)
 |_::_=>none
section
variable {H:Hp}{m:Addr->Prop}
theorem IsAll.ints:∀{ds:List D}{vs:List V}{k:List Int},IsAll H m ds vs->js ds=some k->vs=(iK k).map kV
 | [],_,_,h,e=>by cases h;cases e;rfl
 |d::ds,_,k,h,e=>by
  obtain⟨v,r,rfl,h1,h2⟩:=h
  cases d with
  |int i=>
   unfold js at e
   obtain⟨k',e1,rfl⟩:=Option.map_eq_some_iff.mp e
   rw[IsAll.ints h2 e1,show v=V.int i from h1];rfl
  |_=>cases e
end
section
variable {X:Cx}{E:XK}
end
end L3
namespace L3
open PySem PySem.Spec PyProof.Rows L2
section
variable {H H':Hp}{m m':Addr->Prop}
end
section
variable {g:Gd}{M:Addr->Prop}{ρ:Pr}{env:En}{σ:St}{H:Hp}{d:Addr}{o:Obj}{u:HO}
open Classical in
end
section
variable {X:Cx}{E:XK}{tg:Expr}
end
end L3
namespace L3
open PySem PySem.Spec PyProof.Rows L2
section
variable {X:Cx}{E:XK}{tg:Expr}
end
noncomputable def t0:D->Option (Key×D)
 | .tup [k,v]=>(tS k).map fun k=>(k,v)
 |_=>none
noncomputable def gu:List D->Option (List (Key×D))
 | []=>some []
 |d::ds=>match t0 d,gu ds with
  |some p,some ps=>some (p::ps)
  |_,_=>none
noncomputable def oN (t:List (Key×D))(k:Key)(d:D):List (Key×D):=if (t.any fun x=>decide (x.1=k))=true then t.map (fun x=>if x.1=k then (x.1,d) else x) else t++[(k,d)]
noncomputable def jt (t ps:List (Key×D)):List (Key×D):=ps.foldl (fun t x=>oN t x.1 x.2) t
noncomputable def zi (t:List (Key×D)):D:=.dic (t.map fun p=>.inl p.1) (t.map Prod.snd)
noncomputable def kj:List R->Res R
 | [r]=>match r.d with
  | .lst ds=>match gu ds with
   |some ps=>if D.flats ((jt [] ps).map Prod.snd) then .ok (.fre (zi (jt [] ps))) else .stuck
   |none=>tV [r]
  |_=>.stuck
 |_=>.stuck
section
variable {H:Hp}{m:Addr->Prop}
noncomputable def REK (H:Hp)(m:Addr->Prop):List (Key×V)->List (Key×D)->Prop:=Paired fun a b=>a.1=b.1/\Is H m b.2 a.2
theorem REK.fst {a:List (Key×V)}{b:List (Key×D)}(r:REK H m a b):a.map Prod.fst=b.map Prod.fst:=by
 induction r with
 |nil=>rfl
 |cons h _ ih=>rw[List.map_cons,List.map_cons,ih,h.1]
theorem REK.snd {a:List (Key×V)}{b:List (Key×D)}(r:REK H m a b):IsAll H m (b.map Prod.snd) (a.map Prod.snd):=by
 induction r with
 |nil=>rfl
 |cons h _ ih=>exact⟨_,_,rfl,h.2,ih⟩
theorem REK.of:∀{a:List (Key×V)}{b:List (Key×D)},a.map Prod.fst=b.map Prod.fst->IsAll H m (b.map Prod.snd) (a.map Prod.snd)->REK H m a b
 | [],[],_,_=>.nil
 | [],_::_,e,_=>by cases e
 |_::_,[],e,_=>by cases e
 |p::a,q::b,e,h=>by
  obtain⟨v,r,z,h1,h2⟩:=h
  cases z
  simp only[List.map_cons,List.cons.injEq]at e
  exact .cons ⟨e.1,h1⟩ (REK.of e.2 h2)
theorem REK.append {a c:List (Key×V)}{b d:List (Key×D)}(r:REK H m a b)(s:REK H m c d):REK H m (a++c) (b++d):=by
 induction r with
 |nil=>exact s
 |cons h _ ih=>exact .cons h ih
theorem REK.any {a:List (Key×V)}{b:List (Key×D)}(r:REK H m a b)(k:Key):(a.any fun x=>decide (x.1=k))=(b.any fun x=>decide (x.1=k)):=by
 induction r with
 |nil=>rfl
 |cons h _ ih=>rw[List.any_cons,List.any_cons,ih,h.1]
theorem REK.repl {a:List (Key×V)}{b:List (Key×D)}{k:Key}{v:V}{d:D}(r:REK H m a b)(h:Is H m d v):REK H m (a.map fun x=>if x.1=k then (x.1,v) else x) (b.map fun x=>if x.1=k then (x.1,d) else x):=by
 induction r with
 |nil=>exact .nil
 | @cons p q ps qs hq t ih=>
  refine .cons ?_ ih
  dsimp only
  by_cases e:p.1=k
  ·rw[if_pos e,if_pos (hq.1▸e)];exact⟨hq.1,h⟩
  ·rw[if_neg e,if_neg (fun z=>e (hq.1.trans z))];exact hq
theorem REK.put {a:List (Key×V)}{b:List (Key×D)}{k:Key}{v:V}{d:D}(r:REK H m a b)(h:Is H m d v):REK H m (eI a k v) (oN b k d):=by
 unfold eI oN
 rw[r.any k]
 split
 ·exact r.repl h
 ·exact r.append (.cons ⟨rfl,h⟩ .nil)
theorem REK.merge {a c:List (Key×V)}{b d:List (Key×D)}(r:REK H m a b)(s:REK H m c d):REK H m (eJ a c) (jt b d):=by
 induction s generalizing a b with
 |nil=>exact r
 | @cons p q ps qs hq t ih=>
  have:=ih (r.put (k:=p.1) hq.2)
  show REK H m (eJ (eI a p.1 p.2) ps) (jt (oN b q.1 q.2) qs)
  rw[<- hq.1]
  exact this
theorem lL:∀{ds:List D}{vs:List V}{ps:List (Key×D)},IsAll H m ds vs->gu ds=some ps->∃ kvs,md H vs kvs/\REK H m kvs ps
 | [],_,_,h,e=>by cases h;cases e;exact⟨[],.nil,.nil⟩
 |d::ds,_,ps,h,e=>by
  obtain⟨v,r,rfl,h1,h2⟩:=h
  unfold gu at e
  cases q:t0 d with
  |none=>rw[q]at e;cases e
  |some p=>
   cases q2:gu ds with
   |none=>rw[q,q2]at e;cases e
   |some ps'=>
    rw[q,q2]at e;cases e
    obtain⟨kvs,k1,k2⟩:=lL h2 q2
    unfold t0 at q
    split at q
    ·rename_i kd vd
     obtain⟨a,vs2,rfl,g1,g2⟩:=h1
     obtain⟨y1,r1,rfl,i1,y2,r2,rfl,i2,i3⟩:=g2
     cases i3
     cases q3:tS kd with
     |none=>rw[q3]at q;cases q
     |some kk=>
      rw[q3]at q;cases q
      have:=i1.key q3
      subst this
      exact⟨(kk,y2)::kvs,.cons ⟨a,rfl,g1⟩ k1,.cons ⟨rfl,i2⟩ k2⟩
    ·cases q
theorem wg {b:Addr}{u:HO}{kvs:List (Key×V)}{t:List (Key×D)}(e:H b=some (.dK kvs))(r:REK H m kvs t)(hb:m b):Is H m (zi t) (.ref b):=by
 refine⟨b,_,rfl,⟨.inl ⟨kvs,.inl e,?_,rfl⟩,hb⟩,r.snd⟩
 have:=congrArg (List.map fun k:Key=>(Sum.inl k:DK)) r.fst
 rw[List.map_map,List.map_map]at this
 exact this.symm
theorem REK.flat {m':Addr->Prop}{a:List (Key×V)}{b:List (Key×D)}(hf:D.flats (b.map Prod.snd)=true)(r:REK H m a b):REK H m' a b:=REK.of r.fst (IsAll.flat hf r.snd)
theorem REK.same {H':Hp}(s:Same H H'){a:List (Key×V)}{b:List (Key×D)}(r:REK H m a b):REK H' m a b:=REK.of r.fst (IsAll.same s r.snd)
end
section
variable {X:Cx}{E:XK}
theorem t4 (hc:X.calm=true) (hu:X.A.units+64<cLine):g9 X E (.type "dict") kj:=by
 obtain⟨r0,c0,s0⟩:=wc (X:=X) (E:=E) hc hu
 refine⟨fun xs H Q=>(∃ l vs kvs,xs=[.ref l]/\Rd H l (.lst vs)/\md H vs kvs/\∀ p,H p=none->Q (.ref p) (bz H p (.dK (eJ [] kvs))))\/r0 xs H Q,fun pins s σ H xs us Q I r h=>h.elim (oB hc pins s σ H xs us Q I r) (c0 pins s σ H xs us Q I r),fun g M ρ env σ H Q rs vs rep i p=>?_⟩
 match rs,i,p with
 | [r],i,p=>
  unfold kj at p
  dsimp only at p
  cases q:r.d with
  |lst ds=>
   rw[q]at p
   dsimp only at p
   cases q2:gu ds with
   |none=>rw[q2]at p;exact .inr (s0 g M ρ env σ H Q [r] vs rep i p)
   |some ps=>
    rw[q2]at p
    dsimp only at p
    left
    obtain⟨v,w,rfl,i1,i2⟩:=i
    cases i2
    have i1:Is H (vmsk g M (bh [r]) ρ (bu [r])) r.d v:=i1
    rw[q]at i1
    obtain⟨a,ws,rfl,h1,h2⟩:=i1.rd
    obtain⟨kvs,k1,k2⟩:=lL h2 q2
    refine⟨a,ws,kvs,rfl,h1,k1,fun b hb=>?_⟩
    have rk:REK H _ (eJ [] kvs) (jt [] ps):=REK.merge .nil k2
    have s:Same H (bz H b (.dK (eJ [] kvs))):=bE hb
    by_cases hf:D.flats ((jt [] ps).map Prod.snd)=true
    ·rw[if_pos hf]at p
     exact p _ M _ ⟨fun _ z=>z,s,fun _ z=>.inl z⟩ (rep.grow s) (pM rep hb (wg (u:=.dK []) aP ((rk.flat hf).same s) rfl) ⟨_,aP,True.intro⟩)
    ·rw[if_neg hf]at p;exact p.elim
  |_=>rw[q]at p;exact p.elim
 | [],_,p=>exact p.elim
 |_::_::_,_,p=>exact p.elim
end
end L3
namespace L3
open PySem PySem.Spec PyProof.Rows L2
theorem REK.length {H:Hp}{m:Addr->Prop}{a:List (Key×V)}{b:List (Key×D)}(r:REK H m a b):a.length=b.length:=Paired.length r
section
variable {X:Cx}{E:XK}
end
end L3
namespace L3
open PySem PySem.Spec PyProof.Rows L2
noncomputable abbrev Tri:=Int×Int×Int
noncomputable def dd (l:List Int)(x:Int):List Int:=if x∈l then l else l++[x]
noncomputable def t5 (xs:List Int):List Int:=xs.foldl dd []
noncomputable def g1 (ts:List Tri):List Int:=t5 (ts.map (·.1))
noncomputable def g2 (ts:List Tri)(x:Int):List Int:=t5 ((ts.filter fun t=>decide (t.1=x)).map (·.2.1))
noncomputable def g3 (ts:List Tri)(x y:Int):List Int:=(ts.filter fun t=>decide (t.1=x)&&decide (t.2.1=y)).map (·.2.2)
noncomputable def ik (i:Int):DK:=.inl (.inl i)
noncomputable def Bv (ts:List Tri)(x:Int):D:=.dic ((g2 ts x).map ik) ((g2 ts x).map fun y=>.lst ((g3 ts x y).map .int))
noncomputable def Dg (ts:List Tri):D:=.dic ((g1 ts).map ik) ((g1 ts).map (Bv ts))
noncomputable def kvI (l:List Int)(A:Int->Addr):List (Key×V):=l.map fun x=>(.inl x,.ref (A x))
structure Gr (H:Hp) (a:Addr) (ts:List Tri) (A:Int->Addr) (B:Int->Int->Addr):Prop where
 root:H a=some (.dK (kvI (g1 ts) A))\/(g1 ts=[]/\H a=some (.dT []))
 inn:∀ x∈g1 ts,H (A x)=some (.dK (kvI (g2 ts x) (B x)))
 leaf:∀ x y,y∈g2 ts x->H (B x y)=some (.lst ((g3 ts x y).map .int))
 d1:∀ x∈g1 ts,A x≠a
 d2:∀ x∈g1 ts,∀ x'∈g1 ts,A x=A x'->x=x'
 d3:∀ x y,y∈g2 ts x->∀ x' y',y'∈g2 ts x'->B x y=B x' y'->x=x'/\y=y'
noncomputable def CI (a:Addr)(ts:List Tri)(A:Int->Addr)(B:Int->Int->Addr)(b:Addr):Prop:=b=a\/(∃ x∈g1 ts,b=A x)\/∃ x y,y∈g2 ts x/\b=B x y
section
variable {H:Hp}{a:Addr}{ts:List Tri}{A:Int->Addr}{B:Int->Int->Addr}{x y z:Int}
end
theorem dB {H:Hp}{m:Addr->Prop}{F:Int->D}{G:Int->V}:∀{l:List Int},(∀ x∈l,Is H m (F x) (G x))->IsAll H m (l.map F) (l.map G)
 | [],_=>rfl
 |x::l,h=>⟨_,_,rfl,h x List.mem_cons_self,dB fun y hy=>h y (List.mem_cons_of_mem _ hy)⟩
theorem kn {H:Hp}{m:Addr->Prop}:∀(k:List Int),IsAll H m (k.map .int) (k.map .int)
 | []=>rfl
 |i::k=>⟨.int i,_,rfl,rfl,kn k⟩
theorem Gr.is {H:Hp}{a:Addr}{ts:List Tri}{A:Int->Addr}{B:Int->Int->Addr}(G:Gr H a ts A B):Is H (CI a ts A B) (Dg ts) (.ref a):=by
 have keys:∀(l:List Int)(C:Int->Addr),l.map ik=(kvI l C).map (fun p=>.inl p.1):=fun l C=>by unfold kvI;rw[List.map_map];rfl
 have vals:∀(l:List Int)(C:Int->Addr),(kvI l C).map Prod.snd=l.map fun x=>.ref (C x):=fun l C=>by unfold kvI;rw[List.map_map];rfl
 have inner:∀ x∈g1 ts,Is H (CI a ts A B) (Bv ts x) (.ref (A x)):=fun x hx=>by
  refine⟨A x,(g2 ts x).map fun y=>.ref (B x y),rfl,⟨.inl ⟨_,.inl (G.inn x hx),keys _ _,(vals _ _).symm⟩,.inr (.inl ⟨x,hx,rfl⟩)⟩,dB fun y hy=>?_⟩
  exact⟨B x y,_,rfl,.inl ⟨G.leaf x y hy,.inr (.inr ⟨x,y,hy,rfl⟩)⟩,kn _⟩
 refine⟨a,(g1 ts).map fun x=>.ref (A x),rfl,⟨?_,.inl rfl⟩,dB inner⟩
 rcases G.root with q|⟨q,e⟩
 ·exact .inl ⟨_,.inl q,keys _ _,(vals _ _).symm⟩
 ·rw[q];exact .inr ⟨[],.inl e,rfl,rfl⟩
end L3
namespace L3
open PySem PySem.Spec PyProof.Rows L2
end L3
namespace L3
open PySem PySem.Spec PyProof.Rows L2
section
variable {X:Cx}{E:XK}{tg:Expr}
end
end L3
namespace L3
open PySem PySem.Spec PyProof.Rows L2
end L3
namespace L3
open PySem PySem.Spec PyProof.Rows L2
section
variable {X:Cx}
end
section
variable {g:Gd}{M M2 M':Addr->Prop}{ρ:Pr}{env:En}{σ:St}{H H1 H':Hp}{d:Addr}{o:Obj}{u:HO}{m m':Addr->Prop}
end
section
variable {X:Cx}{E:XK}{scope:Scope}{tg:Expr}{tN:List Str}{capN:List Str}{caps:List Nat}{ix:List Nat}{asg:D->Bool->En->Option En}{elt iter:Expr}{pos:Pos}{ifs:List Expr}{f:En->Res R}{ft:En->Res Bool}{fe:En->Res R}
end
section
variable {X:Cx}{E:XK}{g:Gd}{M:Addr->Prop}{ρ:Pr}{env:En}{σ:St}{H:Hp}{D:Ends}{d:Addr}{o:Obj}{u:HO}
end
end L3
namespace L3
open PySem PySem.Spec PyProof.Rows L2
open Classical in
section
variable {P:Program}{w:World}{K:PySem.W.Frag}{mg:Str->Option Value}{base:Heap}
end
section
variable {X:Cx}{E:XK}
end
end L3
namespace L3
open PySem PySem.Spec PyProof.Rows L2
noncomputable def Bw (l:List Int):D:=.dic ((t5 l).map ik) ((t5 l).map fun _=>.bl true)
noncomputable def Bx (ts:List Tri)(x:Int):D:=.dic ((g2 ts x).map ik) ((g2 ts x).map fun y=>Bw (g3 ts x y))
noncomputable def Dh (ts:List Tri):D:=.dic ((g1 ts).map ik) ((g1 ts).map (Bx ts))
noncomputable def kvT (l:List Int):List (Key×V):=(t5 l).map fun z=>(.inl z,.bl true)
structure Gq (H:Hp) (a:Addr) (ts:List Tri) (A:Int->Addr) (B:Int->Int->Addr):Prop where
 root:H a=some (.dK (kvI (g1 ts) A))\/(g1 ts=[]/\H a=some (.dT []))
 inn:∀ x∈g1 ts,H (A x)=some (.dK (kvI (g2 ts x) (B x)))
 leaf:∀ x y,y∈g2 ts x->H (B x y)=some (.dK (kvT (g3 ts x y)))
 d1:∀ x∈g1 ts,A x≠a
 d2:∀ x∈g1 ts,∀ x'∈g1 ts,A x=A x'->x=x'
 d3:∀ x y,y∈g2 ts x->∀ x' y',y'∈g2 ts x'->B x y=B x' y'->x=x'/\y=y'
 d4:∀ u∈g1 ts,∀ x y,y∈g2 ts x->A u≠B x y
 d5:∀ x y,y∈g2 ts x->B x y≠a
section
variable {H:Hp}{a:Addr}{ts:List Tri}{A:Int->Addr}{B:Int->Int->Addr}{x y z:Int}
end
theorem Gq.is {H:Hp}{a:Addr}{ts:List Tri}{A:Int->Addr}{B:Int->Int->Addr}(G:Gq H a ts A B):Is H (CI a ts A B) (Dh ts) (.ref a):=by
 have keys:∀(l:List Int)(C:Int->Addr),l.map ik=(kvI l C).map (fun p=>.inl p.1):=fun l C=>by unfold kvI;rw[List.map_map];rfl
 have vals:∀(l:List Int)(C:Int->Addr),(kvI l C).map Prod.snd=l.map fun x=>.ref (C x):=fun l C=>by unfold kvI;rw[List.map_map];rfl
 have inner:∀ x∈g1 ts,Is H (CI a ts A B) (Bx ts x) (.ref (A x)):=fun x hx=>by
  refine⟨A x,(g2 ts x).map fun y=>.ref (B x y),rfl,⟨.inl ⟨_,.inl (G.inn x hx),keys _ _,(vals _ _).symm⟩,.inr (.inl ⟨x,hx,rfl⟩)⟩,dB fun y hy=>?_⟩
  refine⟨B x y,(kvT (g3 ts x y)).map Prod.snd,rfl,⟨.inl ⟨_,.inl (G.leaf x y hy),?_,rfl⟩,.inr (.inr ⟨x,y,hy,rfl⟩)⟩,?_⟩
  ·unfold kvT;rw[List.map_map];rfl
  ·unfold kvT;rw[List.map_map];exact dB fun _ _=>rfl
 refine⟨a,(g1 ts).map fun x=>.ref (A x),rfl,⟨?_,.inl rfl⟩,dB inner⟩
 rcases G.root with q|⟨q,e⟩
 ·exact .inl ⟨_,.inl q,keys _ _,(vals _ _).symm⟩
 ·rw[q];exact .inr ⟨[],.inl e,rfl,rfl⟩
section
variable {X:Cx}{E:XK}{tg:Expr}
end
end L3
namespace L3
open PySem PySem.Spec PyProof.Rows L2
section
variable {X:Cx}{E:XK}
noncomputable def jQ (rs:List R):Res R:=match rs.map R.d with
 | [.int j]=>if 0<=j/\j<=1000 then .ok (.new (et 0 j.toNat) true) else .stuck
 |_=>.stuck
theorem rN {a:Expr} {fs:En->Res (List R)} {p pos p2 pos2:Pos} (hc:X.calm=true) (hgl:Gl X "list") (hml:X.mg "list"=none) (hvl:bootBuiltins "list"=some (.type "list")) (hg:Gl X "range") (hm:X.mg "range"=none) (ha:rj X E [a] fs) (hs:autoParam (starEach [a] X.env=[(false,eval a X.env)]) autoR._auto_1)
 (hs2:autoParam (starEach [.Call (.Name "range" p2) [a] [] pos2] X.env=[(false,eval (.Call (.Name "range" p2) [a] [] pos2) X.env)]) autoR._auto_1):PD X E (.Call (.Name "list" p) [.Call (.Name "range" p2) [a] [] pos2] [] pos) (e_ jQ fs):=by
 obtain⟨t,p1,s1⟩:=ha
 refine⟨_,q5 hc hgl hml hvl hg hm p1 hs hs2,fun g M ρ env σ H Q rep p=>s1.oneE rep p fun rs vs M1 H1 e1 rep1 i1 q1=>?_⟩
 unfold jQ at q1
 generalize rs.map R.d=ds at i1 q1
 split at q1
 ·rename_i j
  obtain⟨v,w,rfl,k1,k2⟩:=i1
  cases k1;cases k2
  by_cases hj:0<=j/\j<=1000
  ·rw[if_pos hj]at q1
   refine⟨j,rfl,hj.1,hj.2,fun l hl=>?_⟩
   have e:((List.range j.toNat).map fun k=>(V.int (k:Nat)))=((List.range j.toNat).map fun(k:Nat)=>(V.int (0+(k:Nat)))):=List.map_congr_left fun k _=>by rw[Int.zero_add]
   rw[e]
   refine q1.new rep1 hl ?_
   unfold et
   generalize List.range j.toNat=l0
   induction l0 with
   |nil=>exact rfl
   |cons k r ih=>exact⟨_,_,rfl,rfl,ih⟩
  ·rw[if_neg hj]at q1;exact q1.elim
 ·exact q1.elim
noncomputable def cr (i:Nat)(f:En->Res R):En->Res Fl:=fun env=>(f env).bind fun r=>if i<env.length then .ok (.nx ((frz env r.al).set i (some (.val r.d r.fr)))) else .stuck
theorem bb {i:Nat}{x:Str}{e:Expr}{f:En->Res R}{pos pos':Pos}(hN:X.N.Nodup)(hi:X.N[i]?=some x)(hx:yd X.env.scope x)(h:PD X E e f)(hs:autoParam (swapsWith e (some (.Name x pos')) pos.line X.env=pure false) autoR._auto_1)
 (hf:X.fn x=true\/X.env.scope.names.lookup x=some .local:=by first|exact .inl rfl|exact .inr rfl|assumption):rn X E (.Assign [.Name x pos'] e pos) (cr i f):=by
 obtain⟨t,p1,s1⟩:=h
 refine⟨_,sF hN hi hx p1 hs hf,fun g M ρ env σ H D rep p=>?_⟩
 refine s1.oneS rep p fun r v M' H' e rep' ro p'=>?_
 by_cases hi:i<env.length
 ·rw[if_pos hi]at p'
  obtain⟨M2,x2,x2m,rep2,is2⟩:=ro.is rep' e rep.same
  obtain⟨M3,ρ3,x3,rep3,o3,_,_⟩:=Rep.frz r.al rep2
  have rep4:=rep3.put (i:=i) (sl:=.val r.d r.fr) (T:=fun _=>False) (by rw[mr];exact hi) (Is.frozen rep2 x3 o3 is2) (fun _ z=>z.elim) fun _ z=>z.elim
  exact p' _ M3 _ H' ⟨fun a z=>x3 a (x2m a z),fun _ _ q _=>q⟩ rep4
 ·rw[if_neg hi]at p';exact p'.elim
theorem qv (i:Nat) {x:Str} {pos:Pos} (hN:autoParam (X.N[i]?=some x) autoR._auto_1) (hv:Vis X.env.scope x:=by first|exact Or.inl rfl|exact Or.inr (Or.inl rfl)|exact Or.inr (Or.inr rfl)) (hd:autoParam ((x==("__debug__" : Str))=false) autoD._auto_1)
 (hc:autoParam ((x==("__classdict__" : Str))=false) autoD._auto_1):PD X E (.Name x pos) (ah i):=yQ (pv i hN hv hd hc)
end
end L3
namespace L2
open PySem PySem.Spec PyProof.Rows
section
variable {X:Cx}
noncomputable def Di:V->Option Int->Option Int->Hp->VK->Prop:=fun x lo hi H Q=>∃ z,x=.str z/\z.length<=sizeLine/\Q (.str (Txt.slice z lo hi)) H
theorem zj:SlR X Di:=by
 intro pins s σ H x v vl vu lo hi sl Q I rx hs pl pu h
 obtain⟨z,rfl,hz,q⟩:=h
 obtain⟨t,rfl⟩:=rx
 obtain⟨o,e1,e2,e3⟩:=hs
 refine⟨"str",_,slot_str_getitem.lookup,typeIs_str _ _ _,?_⟩
 have fin:∀ t' k,EP X pins σ Q (.str (Txt.slice z lo hi) t') { s with toks:=k }:=fun t' k=>⟨.str _,H,I.tok _,⟨_,rfl⟩,q⟩
 have hl:=Nat.le_trans (Txt.slice_le z lo hi) hz
 cases pl with
 |none=>cases pu with
  |none=>exact wpAny_getItem_str_slice (l:=none) (u:=none) (st:=none) ⟨o,e1,e2,e3⟩ rfl (post_val_or_str ⟨hl,fin⟩)
  |int j u=>exact wpAny_getItem_str_slice (l:=none) (u:=some (j,u)) (st:=none) ⟨o,e1,e2,e3⟩ rfl (post_val_or_str ⟨hl,fin⟩)
 |int i t1=>cases pu with
  |none=>exact wpAny_getItem_str_slice (l:=some (i,t1)) (u:=none) (st:=none) ⟨o,e1,e2,e3⟩ rfl (post_val_or_str ⟨hl,fin⟩)
  |int j u=>exact wpAny_getItem_str_slice (l:=some (i,t1)) (u:=some (j,u)) (st:=none) ⟨o,e1,e2,e3⟩ rfl (post_val_or_str ⟨hl,fin⟩)
end
end L2
namespace L3
open PySem PySem.Spec PyProof.Rows L2
section
variable {X:Cx}{E:XK}
noncomputable def gw (r:R)(lo hi:Option Int):Res R:=match r.d with
 | .lst xs=>.ok (kZ (eL xs lo hi) r.fr r.al)
 | .tup xs=>.ok (mkV (.tup (eL xs lo hi)) r.fr r.al)
 | .str z=>if z.length<=lim then .ok (.val (.str (Txt.slice z lo hi)) true []) else .stuck
 |_=>.stuck
noncomputable def cW (fa:En->Res R)(fl fh:En->Res (Option Int)):En->Res R:=fun env=>(fa env).bind fun r=>(fl env).bind fun lo=>(fh env).bind fun hi=>gw r lo hi
theorem cv {e:Expr}{lo hi:Option Expr}{fa:En->Res R}{fl fh:En->Res (Option Int)}{p2 pos:Pos}(ha:PD X E e fa)(hl:CG X E lo fl)(hh:CG X E hi fh):PD X E (.Subscript e (.Slice lo hi none p2) pos) (cW fa fl fh):=by
 obtain⟨ta,p1,s1⟩:=ha
 obtain⟨tl,p2,s2⟩:=hl
 obtain⟨th,p3,s3⟩:=hh
 refine⟨_,sL (sl_list.or (sl_tup.or (sl_tupW.or zj))) p1 p2 p3,fun g M ρ env σ H Q rep p=>s1.oneE rep p fun r v M1 H1 e1 rep1 is q=>?_⟩
 refine s2 g M1 ρ env σ H1 _ rep1 ?_
 cases z1:fl env with
 |stuck=>rw[z1]at q;exact q
 |exc c=>rw[z1]at q;exact q
 |ok lo'=>
  rw[z1]at q
  intro M2 H2 e2 rep2
  have q2:PostE X.mg E g M2 ρ env σ H2 Q ((fh env).bind fun hi=>gw r lo' hi):=PostE.ext e2 q
  refine s3 g M2 ρ env σ H2 _ rep2 ?_
  cases z2:fh env with
  |stuck=>rw[z2]at q2;exact q2
  |exc c=>rw[z2]at q2;exact q2
  |ok hi'=>
   rw[z2]at q2
   intro M3 H3 e3 rep3
   have q3:PostE X.mg E g M3 ρ env σ H3 Q (gw r lo' hi'):=PostE.ext e3 q2
   have is3:=(is.ext e2).ext e3
   unfold gw at q3
   cases z:r.d with
   |lst xs=>
    rw[z]at q3 is3
    obtain⟨a,vs,rfl,h1,h2⟩:=is3.rd
    exact .inl ⟨a,vs,rfl,.inl h1,fun p hp=>q3.lst rep3 hp (h2.cut lo' hi')⟩
   |tup xs=>
    rw[z]at q3 is3
    have is4:=is3
    obtain⟨a,vs,rfl,h1,h2⟩:=is3
    by_cases hw:HT.sIx vs.length 0 lo'=0/\HT.sIx vs.length vs.length hi'=vs.length
    ·have ec:eL xs lo' hi'=xs:=by
      unfold eL
      rw[<- h2.length,hw.1,hw.2,h2.length]
      simp
     dsimp only at q3
     rw[ec]at q3
     exact .inr (.inr (.inl ⟨a,vs,rfl,SqT.of h1,hw,q3.val rep3 is4⟩))
    ·exact .inr (.inl ⟨a,vs,rfl,SqT.of h1,hw,fun p hp=>q3.tup rep3 hp (h2.cut lo' hi')⟩)
   |str y=>
    rw[z]at q3 is3
    dsimp only at q3
    by_cases hw:y.length<=lim
    ·rw[if_pos hw]at q3
     cases is3
     exact .inr (.inr (.inr ⟨y,rfl,db hw,q3 _ M3 H3 (Ext.refl _ _) rep3 rfl⟩))
    ·rw[if_neg hw]at q3;exact q3.elim
   |_=>rw[z]at q3;exact q3.elim
noncomputable def wj:R->R->Res R:=oI (fun i j=>decide (0<=j)&&decide (j<=1000)&&decide (i.natAbs<1000)) fun i j=>.int (i ^ j.toNat)
theorem t6:j8 X E (binaryOp .Pow) wj:=nq _ _ yA (fun i j h=>by
 simp only[Bool.and_eq_true,decide_eq_true_eq]at h
 exact⟨h.1.1,by omega,Nat.lt_trans h.2 (by decide)⟩) fun _ _ _ _=>rfl
end
end L3
namespace L3
open PySem PySem.Spec PyProof.Rows L2
section
variable {X:Cx}{E:XK}{hc hc2:Str}{Ch Ch2:Addr}{cs cs2:List Str}{np hpos np2 hpos2 pos epos p cpos:Pos}{b₀ c₀:Stmt}{suite suite2:List Stmt}{fsu fsu2:En->Res Fl}{k:Nat}{f:Addr}{fd:FuncData}{ps:List Str}{F:List D->Res R}{x:Str}{e:Expr}{es:List Expr}{fs:En->Res (List R)}
end
end L3
namespace L3
open PySem PySem.Spec PyProof.Rows L2
section
variable {X:Cx}{E:XK}
noncomputable def gx (ns:List Int):Bool:=ns.all (fun n=>decide (0<=n)&&decide (n<1000000))&&decide (ns.length<=lim)
noncomputable def t7:List R->Res R
 | [r]=>match r.d with
  | .lst ds=>match js ds with
   |some ns=>if gx ns then .ok (.val (.int ns.sum) true []) else .stuck
   |none=>.stuck
  |_=>.stuck
 |_=>.stuck
theorem gy (ns:List Int):∀ j,j<=ns.length->preSum (fun i=>(ns[i]?).getD 0) j=(ns.take j).sum
 |0,_=>by simp[preSum]
 |j+1,h=>by
  have hj:j<ns.length:=h
  rw[preSum,gy ns j (Nat.le_of_lt h),List.take_succ_eq_append_getElem hj,List.sum_append]
  simp[hj]
theorem lM:∀(ns:List Int),(∀ n∈ns,0<=n/\n<1000000)->0<=ns.sum/\ns.sum<=1000000*ns.length
 | [],_=>by simp
 |n::ns,h=>by
  have h1:=h n (by simp)
  have h2:=lM ns fun m hm=>h m (by simp[hm])
  rw[List.sum_cons,List.length_cons]
  omega
theorem rO (hc:X.calm=true):CallR X (.builtin "sum") (fun xs H Q=>∃(p:Addr)(ns:List Int),xs=[.ref p]/\SqL X.K H p (ns.map V.int)/\gx ns=true/\Q (.int ns.sum) H):=by
 intro pins s σ H xs us Q I r h
 obtain⟨p,ns,rfl,hq,hsm,q⟩:=h
 obtain⟨u,rfl,rx⟩:=jj r
 cases rx
 obtain⟨its,rv,pl,hz⟩:=I.list hq
 have hh:X.A.in1.handled=none:=I.ok.hd hc
 obtain⟨o,ho,_⟩:=pl.isList
 have hlt:p<s.heap.objs.size:=Heap.lt_size ho
 have hl:=rv.length
 rw[List.length_map]at hl
 unfold gx at hsm
 simp only[Bool.and_eq_true,List.all_eq_true,decide_eq_true_eq]at hsm
 obtain⟨hsm,bX⟩:=hsm
 unfold lim at bX
 refine call_sum_walk (wpAny_pyIter_list pl.isList ?_)
 refine⟨s.heap.objs.size,_,_,_,_,_,fun i=>(ns[i]?).getD 0,rfl,Walks.list hh s.heap.objs.size p (Nat.ne_of_lt hlt) its.toArray,⟨⟨_,Heap.get?_push_size _ rfl,rfl,rfl⟩,?_⟩,?_,?_,?_,fun h' tk t' hk=>?_⟩
 ·exact pl.isList.at fun o e=>Heap.get?_push_of_some _ e
 ·intro b hb
  rw[Heap.size_push]
  rcases List.mem_cons.mp hb with e|hb
  ·rw[e];exact Nat.lt_succ_self _
  ·rcases List.mem_cons.mp hb with e|hb
   ·rw[e];exact Nat.lt_succ_of_lt hlt
   ·cases hb
 ·intro i v hv
  have hv:its[i]?=some v:=by simpa using hv
  have hi:i<its.length:=(List.getElem?_eq_some_iff.mp hv).1
  have hb:i<ns.length:=by omega
  obtain⟨u',hu,ru⟩:=rv.get (i:=i) (x:=.int ns[i]) (by simp[hb])
  rw[hv]at hu;cases hu
  obtain⟨t,rfl⟩:=ru
  exact⟨t,by simp[hb]⟩
 ·intro j hj
  have hj:j<ns.length:=by rw[List.size_toArray]at hj;omega
  have a1:=hsm ns[j] (List.getElem_mem hj)
  have a2:=lM (ns.take (j+1)) fun n hn=>hsm n (List.mem_of_mem_take hn)
  rw[gy ns (j+1) hj]
  have a3:(ns.take (j+1)).length<=1000000:=by rw[List.length_take];omega
  unfold InLong
  simp only[hj,getElem?_pos,Option.getD_some]
  constructor<;>omega
 ·have e:preSum (fun i=>(ns[i]?).getD 0) its.toArray.size=ns.sum:=by
   rw[List.size_toArray,<- hl,gy ns ns.length (Nat.le_refl _),List.take_length]
  rw[e]
  refine⟨.int _,H,?_,⟨_,rfl⟩,q⟩
  have I1:L2.Inv X pins σ H { s with heap:=s.heap.push { cls:=.type "list_iterator",data:=.fields #[.ref p,.int 0 0] } }:=I.kept (t':=s.toks) fun b o e=>Heap.get?_push_of_some _ e
  have fo:=I.fpOk (H':=H) (Nat.le_refl s.heap.objs.size) (I.hok.fresh (Nat.le_refl _))
  exact I1.turned (t':=tk) (it:=s.heap.objs.size) (fun b o hb e=>hk b o (by simpa using hb) e) fo.1 fo.2.1 fo.2.2.2.1 fo.2.2.2.2.1 fo.2.2.2.2.2
theorem t8 (hc:X.calm=true):g9 X E (.builtin "sum") t7:=by
 refine⟨_,rO hc,fun g M ρ env σ H Q rs vs rep i p=>?_⟩
 match rs,i,p with
 | [r],i,p=>
  unfold t7 at p
  dsimp only at p
  obtain⟨v,w,rfl,i1,i2⟩:=i
  cases i2
  have i1:Is H (vmsk g M (bh [r]) ρ (bu [r])) r.d v:=i1
  cases q:r.d with
  |lst ds=>
   rw[q]at p i1
   dsimp only at p
   obtain⟨a,ws,rfl,h1,h2⟩:=i1.rd
   cases qi:js ds with
   |none=>rw[qi]at p;exact p.elim
   |some ns=>
    rw[qi]at p
    dsimp only at p
    by_cases hn:gx ns=true
    ·rw[if_pos hn]at p
     have ew:ws=ns.map V.int:=by rw[h2.ints qi];unfold iK;rw[List.map_map];rfl
     rw[ew]at h1
     exact⟨a,ns,rfl,.inl h1,hn,p _ M H (Ext.refl _ _) rep rfl⟩
    ·rw[if_neg hn]at p;exact p.elim
  |_=>rw[q]at p;exact p.elim
 | [],_,p=>exact p.elim
 |_::_::_,_,p=>exact p.elim
end
end L3
namespace L3
open PySem PySem.Spec PyProof.Rows L2
theorem IsAll.ptw {H:Hp}{m:Addr->Prop}:∀{ds:List D}{vs:List V},vs.length=ds.length->(∀(i:Nat) d v,ds[i]?=some d->vs[i]?=some v->Is H m d v)->IsAll H m ds vs
 | [],[],_,_=>rfl
 | [],_::_,h,_=>by simp at h
 |_::_,[],h,_=>by simp at h
 |d::ds,v::vs,h,f=>⟨v,vs,rfl,f 0 d v rfl rfl,IsAll.ptw (by simpa using h) fun i d' v' e1 e2=>f (i+1) d' v' (by simpa using e1) (by simpa using e2)⟩
section
variable {X:Cx}{E:XK}{scope:Scope}{tg:Expr}{tN:List Str}{capN:List Str}{caps:List Nat}{iter:Expr}{pos lpos:Pos}{src:En->Res Src}
noncomputable def wl (i:Nat)(src:En->Res Src):En->Res Fl:=fun env=>(src env).bind fun s=>if s.xs.length<=lim/\i<env.length then .ok (.nx (env.set i (some (.dis (.lst (s.xs.map fun _=>.lst [])))))) else .stuck
theorem wn {i:Nat}{y:Str}{py spos:Pos}(hc:X.calm=true)(S:CScope X scope tN capN caps)(hN:X.N.Nodup)(hi':X.N[i]?=some y)(hy:X.env.scope.names.lookup y=some .local)
 (hi:yX X E tg iter src) (hg:∀ cl C s3 H3 fp,PG (cp X scope (tN++capN) cl C s3 H3 fp) tg (lr 0)) (h0:0<tN.length)
 (hsw:autoParam (swapsWith (.ListComp (.List [] lpos) [⟨tg,iter,[],0⟩] scope pos) (some (.Name y py)) spos.line X.env=pure true) autoR._auto_1) (hs:autoParam (∀ x,foldedSetIterable iter X.env x=pure x) autoI._auto_1) :
 rn X E (.Assign [.Name y py] (.ListComp (.List [] lpos) [⟨tg,iter,[],0⟩] scope pos) spos) (wl i src):=by
 obtain⟨wi,p1,s1⟩:=hi
 refine⟨fun D σ H=>wi σ H (fj X scope tg tN capN caps (.List [] lpos) [] σ fun Dl _ H'=>D.nx (σ.set i (some (.ref Dl))) H'),fun pins s σ H D I h=>tL hc S hN hi' hy hsw I p1 h hs,fun g M ρ env σ H D rep p=>?_⟩
 refine s1 g M ρ env σ H _ rep ?_
 unfold wl at p
 cases q:src env with
 |stuck=>rw[q]at p;exact p
 |exc c=>rw[q]at p;exact p
 |ok s=>
  rw[q]at p
  simp only[Res.bind_ok]at p
  intro J M1 H1 e1 rep1 wk Dl hDl cl C s3 fp
  by_cases hlim:s.xs.length<=lim/\i<env.length
  ·rw[if_pos hlim]at p
   have kp:∀{H2:Hp},Same H1 H2->∀ a o,H1 a=some o->(vmsk g M1 s.fr ρ s.al a\/fixd o)->H2 a=some o:=fun sm a o e _=>sm a o e
   refine⟨lr 0,fun _ H Q=>Q true H,A7 A5,fun k m acc H2=>m=s.xs.length-k/\k<=s.xs.length/\acc.length=k/\Same H1 H2/\H2 Dl=some (.lst acc)/\∃ as:List Addr,acc=as.map V.ref/\as.Nodup/\∀ a∈as,a≠Dl/\H1 a=none/\H2 a=some (.lst []),
    hg cl C s3 _ fp,pJ,sJ ge,⟨_,rfl,Nat.zero_le _,rfl,bE hDl,aP,[],rfl,List.nodup_nil,fun _ z=>by cases z⟩,?_⟩
   rintro k m acc H2 ⟨rfl,hle,hacc,sm,hD2,as,rfl,nd,has⟩
   refine⟨hD2,?_⟩
   by_cases hlt:k<s.xs.length
   ·obtain⟨go,yl⟩:=wk.go H2 k s.xs[k] (kp sm) (by simp[hlt])
    refine .inr ⟨go,fun xv H3 o yy lo=>?_⟩
    obtain⟨s23,_⟩:=yl xv H3 yy
    refine⟨fun j hj=>List.getElem?_set_ne (by omega),ox ⟨Nat.zero_le _,fun b hb=>?_⟩⟩
    have nbD:b≠Dl:=fun e=>by rw[e,s23 _ _ hD2]at hb;cases hb
    have hb2:H2 b=none:=s23.free hb
    have hb1:H1 b=none:=sm.free hb2
    refine⟨by rw[ax (Ne.symm nbD)];exact s23 _ _ hD2,by rw[hacc];exact mj (by omega),s.xs.length-(k+1),by omega,rfl,hlt,by simp[<- hacc],fun a u e=>?_,aP,as++[b],by simp,?_,fun a ha=>?_⟩
    ·rw[ax (ap e hDl),ax (ap e hb1)];exact s23 _ _ (sm _ _ e)
    ·refine List.nodup_append.mpr ⟨nd,by simp,fun a ha c hc'=>?_⟩
     have:c=b:=by simpa using hc'
     subst this
     intro e;subst e
     rw[(has a ha).2.2]at hb2;cases hb2
    ·rcases List.mem_append.mp ha with ha|ha
     ·obtain⟨n1,n2,n3⟩:=has a ha
      refine⟨n1,n2,?_⟩
      rw[ax n1,ax (fun e=>by subst e;rw[n3]at hb2;cases hb2)]
      exact s23 _ _ n3
     ·have:a=b:=by simpa using ha
      subst this
      exact⟨nbD,hb1,by rw[ax nbD,aP]⟩
   ·have ei:k=s.xs.length:=by omega
    subst ei
    refine .inl ⟨wk.stop H2 (kp sm),?_⟩
    have rep2:=rep1.grow sm
    have bX:as.length=s.xs.length:=by simpa using hacc
    have fresh:∀ a,(a=Dl\/a∈as)->H1 a=none:=fun a z=>z.elim (fun e=>by rw[e];exact hDl) fun z=>(has a z).2.1
    have cell:∀ a,(a=Dl\/a∈as)->∃ vs,H2 a=some (.lst vs):=fun a z=>z.elim (fun e=>⟨as.map V.ref,by rw[e];exact hD2⟩) fun z=>⟨[],(has a z).2.2⟩
    have rep3:=rep2.put (i:=i) (sl:=.dis (.lst (s.xs.map fun _=>.lst []))) (v:=.ref Dl) (T:=fun a=>a=Dl\/a∈as) hlim.2 ⟨⟨Dl,as.map V.ref,rfl,.inl ⟨hD2,.inl rfl⟩,IsAll.ptw (by simp[bX]) fun j d v ed ev=>?_⟩,Dl,as.map V.ref,rfl,.inl rfl,.inl hD2,?_,fun j k b ej ek=>?_⟩ fun a z=>?_
    ·exact p _ M1 _ H2 (e1.frz.trans ⟨fun _ z=>z,fun a o e _=>sm a o e⟩) rep3
    ·rw[List.getElem?_map]at ed ev
     obtain⟨a,ea,rfl⟩:=Option.map_eq_some_iff.mp ev
     obtain⟨x,_,rfl⟩:=Option.map_eq_some_iff.mp ed
     have ha:=List.mem_of_getElem? ea
     exact⟨a,[],rfl,.inl ⟨(has a ha).2.2,.inr ha⟩,rfl⟩
    ·intro z
     obtain⟨a,ha,e⟩:=List.mem_map.mp z
     cases e
     exact(has _ ha).1 rfl
    ·rw[List.getElem?_map]at ej ek
     obtain⟨a,ea,e1⟩:=Option.map_eq_some_iff.mp ej
     obtain⟨c,ec,e2⟩:=Option.map_eq_some_iff.mp ek
     cases e1;cases e2
     have hj:=(List.getElem?_eq_some_iff.mp ea).1
     exact(List.getElem?_inj hj nd).mp (by rw[ea,ec])
    ·obtain⟨vs,hv⟩:=cell a z
     obtain⟨f0,f1,f2⟩:=rep1.free (fresh a z)
     exact⟨f1,f0,Mu.lst hv,fun j _=>f2 j⟩
  ·rw[if_neg hlim]at p;exact p.elim
end
section
variable {X:Cx}{E:XK}
noncomputable def gR:D->Bool
 | .lst es=>D.flats es
 |_=>false
noncomputable def gz (i:Nat)(env:En)(ds:List D)(j:Nat)(es:List D)(rv:R):Res Fl:=if rv.d.flat/\es.length<lim/\ds.all gR then .ok (.nx (env.set i (some (.dis (.lst (ds.set j (.lst (es++[rv.d])))))))) else .stuck
noncomputable def iq (i:Nat)(fv:En->Res R)(env:En)(ds:List D):Option Nat->Res Fl
 |some j=>match ds[j]? with
  |some (.lst es)=>(fv env).bind (gz i env ds j es)
  |_=>.stuck
 |none=>.stuck
noncomputable def fw (i:Nat)(fv:En->Res R)(env:En)(ds:List D)(re:R):Res Fl:=match re.d with
 | .int k=>iq i fv env ds (mT ds.length k)
 |_=>.stuck
noncomputable def ir (i:Nat)(fe fv:En->Res R):En->Res Fl:=fun env=>match env[i]? with
 |some (some (.dis (.lst ds)))=>(fe env).bind (fw i fv env ds)
 |_=>.stuck
theorem oO {i:Nat}{a b e:Expr}{fe fv:En->Res R}{spos apos cpos pos:Pos}(ha:PE X a (kX i))(hb:PD X E b fe)(h:PD X E e fv)(hs:jN b)
 (hbase:autoParam (attributeBase (.Subscript a b spos) "append" X.env (eval (.Subscript a b spos) X.env)=eval (.Subscript a b spos) X.env) autoR._auto_1)
 (hfew:autoParam (((backTo cpos (starEach [e] X.env)).all (fun x=>!x.1)&&(backToKw cpos (keywordEach [] X.env)).all (fun x=>x.1.isSome)
   && decide (([e]:List Expr).length+([]:List Keyword).length+(if ([]:List Keyword).isEmpty then 0 else 1)<30))=true) autoR._auto_1)
 (hline:autoParam ((apos.endLine==cpos.line)=true) autoR._auto_1) (hse:autoParam (starEach [e] X.env=(false,eval e X.env)::starEach [] X.env) autoR._auto_1) (hplain:autoParam ((backTo cpos (starEach [] X.env)).any (·.1)=false) autoR._auto_1)
 (hsw:autoParam (swapsWith (.Call (.Attribute (.Subscript a b spos) "append" apos) [e] [] cpos) none pos.line X.env=pure false) autoR._auto_1) :
 rn X E (.Expr (.Call (.Attribute (.Subscript a b spos) "append" apos) [e] [] cpos) pos) (ir i fe fv):=by
 obtain⟨tb,p2,s2⟩:=hb
 obtain⟨t,p1,s1⟩:=h
 refine⟨_,jM (m9 PySem.F.plainAttrs_list PySem.F.slot_list_append PySem.F.type_list_append iU (sM ix_list ha p2 hs) (d9 p1 ge hse) hbase hfew hline hse hplain) hsw,fun g M ρ env σ H D rep p=>?_⟩
 unfold ir at p
 split at p
 ·rename_i ds e1
  have hi:i<env.length:=(List.getElem?_eq_some_iff.mp e1).1
  obtain⟨v,ev,⟨root,vs,rfl,hroot,hall⟩,dst⟩:=rep.slot i _ e1
  obtain⟨r',vs',er,tr,hr',nin,inj⟩:=dst
  cases er
  have pm:∀ a,ρ i a->∀ o u,H a≠some (.frz o u):=fun a z o u q=>by
   obtain⟨_,_,uo,w,wm⟩:=rep.priv i a z
   rw[w]at q;cases q;exact wm
  have hroot:H root=some (.lst vs):=hroot.elim (·.1) fun⟨o,q,z⟩=>(pm _ z _ _ q).elim
  have evs:vs'=vs:=by
   rcases hr' with q|⟨_,q,_⟩|⟨q,_⟩<;>rw[hroot]at q<;>cases q
   rfl
  subst evs
  refine⟨_,ev,s2.oneS rep p fun re x M1 H1 x1 rep1 ro1 q1=>?_⟩
  obtain⟨M2,x2,x2m,rep2,is2⟩:=ro1.is rep1 x1 rep.same
  have q1:PostS X.mg E g M1 H1 D (fw i fv env ds re):=q1
  unfold fw at q1
  cases ed:re.d with
  |int k=>
   rw[ed]at q1 is2
   cases is2
   dsimp only at q1
   cases en:mT ds.length k with
   |none=>rw[en]at q1;exact q1.elim
   |some j=>
    rw[en]at q1
    unfold iq at q1
    dsimp only at q1
    split at q1
    ·rename_i es ej
     obtain⟨w,ew,l,ws,rfl,hl,hes⟩:=hall.get ej
     have tl:ρ i l:=hl.elim (·.2) fun⟨_,_,z⟩=>z
     have hl:H l=some (.lst ws):=hl.elim (·.1) fun⟨o,q,z⟩=>(pm _ z _ _ q).elim
     have hl1:=x1.h _ _ hl
     have elen:=hall.length
     refine⟨root,vs',k,.ref l,rfl,rfl,SqL.of (x1.h _ _ hroot),by unfold L2.atI;rw[elen,en];exact ew,.inl ⟨rfl,ws,SqL.of hl1⟩,?_⟩
     refine s1.oneS (rep2:Rep g M2 ρ env σ H1) (PostS.frz (M':=M2) (H':=H1) ⟨x2m,fun _ _ q _=>q⟩ q1) fun rv y M3 H3 x3 rep3 ro3 q3=>?_
     obtain⟨M4,x4,x4m,rep4,is4⟩:=ro3.is rep3 x3 rep2.same
     have q3:PostS X.mg E g M3 H3 D (gz i env ds j es rv):=q3
     unfold gz at q3
     by_cases hc:rv.d.flat/\es.length<lim/\ds.all gR
     ·rw[if_pos hc]at q3
      obtain⟨c1,c2,c3⟩:=hc
      have up3:Same H H3:=x1.h.trans x3.h
      have hl3:=up3 _ _ hl
      have nrl:root≠l:=fun e=>nin (e▸List.mem_of_getElem? ew)
      have up:∀ a o,H3 a=some o->a≠l->bz H3 l (.lst (ws++[y])) a=some o:=fun a o q n=>by rw[ax n];exact q
      have keepF:∀ a o,H3 a=some o->((fun _=>False) a\/fixd o)->bz H3 l (.lst (ws++[y])) a=some o:=fun a o q z=>up a o q fun e=>by
       subst e;rw[hl3]at q;cases q;exact z.elim id id
      have flat1:∀{xs:List L3.D}{us:List V},L3.D.flats xs=true->IsAll H (ρ i) xs us->IsAll (bz H3 l (.lst (ws++[y]))) (ρ i) xs us:=fun hf z=>(IsAll.flat (m':=fun _=>False) hf (z.same up3)).mono keepF fun _ _ _ z=>z.elim
      have fl:∀{x:L3.D},x∈ds->gR x=true:=fun hx=>List.all_eq_true.mp c3 _ hx
      have fes:L3.D.flats es=true:=fl (List.mem_of_getElem? ej)
      have isd:IsAll (bz H3 l (.lst (ws++[y]))) (ρ i) (ds.set j (.lst (es++[rv.d]))) vs':=IsAll.ptw (by rw[List.length_set];exact elen) fun n d u ed eu=>by
       by_cases hn:n=j
       ·subst hn
        rw[List.getElem?_set_self (List.getElem?_eq_some_iff.mp ej).1]at ed
        cases ed
        rw[ew]at eu;cases eu
        exact⟨l,_,rfl,.inl ⟨aP,tl⟩,(flat1 fes hes).snoc ((Is.flat (m':=fun _=>False) c1 is4).mono keepF fun _ _ _ z=>z.elim)⟩
       ·rw[List.getElem?_set_ne (Ne.symm hn)]at ed
        obtain⟨u',eu',iu⟩:=hall.get ed
        rw[eu]at eu';cases eu'
        cases d with
        |lst es'=>
         obtain⟨l',ws',rfl,hl',hes'⟩:=iu
         have tl':ρ i l':=hl'.elim (·.2) fun⟨_,_,z⟩=>z
         have hl':H l'=some (.lst ws'):=hl'.elim (·.1) fun⟨o,q,z⟩=>(pm _ z _ _ q).elim
         have nl:l'≠l:=fun e=>hn (inj n j l (e▸eu) ew)
         exact⟨l',ws',rfl,.inl ⟨up _ _ (up3 _ _ hl') nl,tl'⟩,flat1 (fl (List.mem_of_getElem? ed)) hes'⟩
        |_=>exact absurd (fl (List.mem_of_getElem? ed)) (by simp[gR])
      obtain⟨f1,rep5⟩:=rep4.write (sl:=.dis (.lst (ds.set j (.lst (es++[rv.d]))))) (vs':=ws++[y]) tl hi ev ⟨⟨root,vs',rfl,.inl ⟨up _ _ (up3 _ _ hroot) nrl,tr⟩,isd⟩,root,vs',rfl,tr,.inl (up _ _ (up3 _ _ hroot) nrl),nin,inj⟩
      exact⟨l,ws,y,rfl,rfl,hl3,by rw[hes.length];exact mj c2,q3 σ M4 ρ _ (Frz.trans ⟨x4m,fun _ _ q _=>q⟩ f1) rep5⟩
     ·rw[if_neg hc]at q3;exact q3.elim
    ·exact q1.elim
  |_=>rw[ed]at q1;exact q1.elim
 ·exact p.elim
end
end L3
namespace L3
open PySem PySem.Spec PyProof.Rows L2
noncomputable def CJ:Bool->List V->HO
 |true,xs=>.tup xs
 |false,xs=>.lst xs
theorem pO:∀{k:Bool}{xs ys:List V},CJ k xs=CJ k ys->xs=ys
 |true,_,_,e=>by cases e;rfl
 |false,_,_,e=>by cases e;rfl
theorem pP:∀{k:Bool}{xs:List V}{o:Obj}{u:HO},CJ k xs≠.frz o u
 |true,_,_,_,e=>by cases e
 |false,_,_,_,e=>by cases e
noncomputable def SqX (k:Bool)(H:Hp)(a:Addr)(xs:List V):Prop:=Rd H a (CJ k xs)
theorem SqX.inj {k:Bool}{H:Hp}{a:Addr}{xs ys:List V}(h:SqX k H a xs)(g:SqX k H a ys):xs=ys:=by
 rcases h with h|⟨o,h⟩<;>rcases g with g|⟨o',g⟩<;>rw[h]at g
 ·exact pO (Option.some.inj g)
 ·exact(pP (Option.some.inj g)).elim
 ·exact(pP (Option.some.inj g).symm).elim
 ·have e:=Option.some.inj g
  injection e with _ e
  exact pO e
theorem SqX.some {k:Bool}{H:Hp}{a:Addr}{xs:List V}(h:SqX k H a xs):∃ o,H a=some o:=tf h
theorem SqX.at {X:Cx}{pins:List (Addr×Obj)}{σ:St}{H:Hp}{s:Shared}:∀{k:Bool}{a:Addr}{xs:List V},L2.Inv X pins σ H s->SqX k H a xs->∃ its:List Value,Vals xs its/\SAt k s.heap a its.toArray
 |true,_,_,I,h=>let ⟨its,r,p,_⟩:=I.tuple (.inl h);⟨its,r,p⟩
 |false,_,_,I,h=>let ⟨its,r,p,_⟩:=I.list (.inl h);⟨its,r,p.isList⟩
noncomputable def Dj (ka kb:Bool)(a b:Addr):It:=
 ⟨fun i H=>∃ xs ys x y,SqX ka H a xs/\SqX kb H b ys/\xs[i]?=some x/\ys[i]?=some y,fun i H v H'=>∃ p x y,H p=none/\v=.ref p/\H'=bz H p (.tup [x,y])/\(∀ xs,SqX ka H a xs->xs[i]?=some x)/\∀ ys,SqX kb H b ys->ys[i]?=some y,
   fun i H=>∃ xs ys,SqX ka H a xs/\SqX kb H b ys/\(xs.length<=i\/ys.length<=i)⟩
structure TzSt (ka kb:Bool) (h:Heap) (z TI TO i1 i2 a b:Addr) (i:Nat):Prop where
 zip:IsZip h z TI TO .none
 ti:IsPair h TI (.ref i1) (.ref i2)
 to:∃ u v,IsPair h TO u v
 l:SIt ka h i1 a i
 r:SIt kb h i2 b i
theorem nG {H:Hp}{z TI TO i1 i2 a b:Addr}(N:ZipNe z TI TO i1 i2)(f:∀ c∈[z,TI,TO,i1,i2],H c=none)(ha:∃ o,H a=some o)(hb:∃ o,H b=some o):ZipApart z TI TO i1 i2 a b:=by
 obtain⟨_,ha⟩:=ha
 obtain⟨_,hb⟩:=hb
 exact⟨N.TIz,N.TOz,N.i1z,N.i2z,N.TITO,N.TIi1,N.TIi2,N.TOi1,N.TOi2,N.i12,ap ha (f z (by simp)),ap ha (f TO (by simp)),ap ha (f i1 (by simp)),ap ha (f i2 (by simp)),
  ap hb (f z (by simp)),ap hb (f TO (by simp)),ap hb (f i1 (by simp)),ap hb (f i2 (by simp))⟩
theorem rP {P:Program}{w:World}{K:PySem.W.Frag}{es:List Expr}{k:Nat}{pos:Pos}(ka kb:Bool)(a b z TI TO i1 i2:Addr)(N:ZipNe z TI TO i1 i2):Turn P w K (.Tuple es k pos) (Dj ka kb a b) [z,TI,TO,i1,i2] z (fun i h=>TzSt ka kb h z TI TO i1 i2 a b i) where
 mem:=by simp
 obj:=fun i h st c hc=>by
  obtain⟨u,v,hto⟩:=st.to
  obtain⟨o1,e1,c1,d1⟩:=st.l
  obtain⟨o2,e2,c2,d2⟩:=st.r
  simp only[List.mem_cons,List.not_mem_nil,or_false]at hc
  rcases hc with rfl|rfl|rfl|rfl|rfl
  ·exact⟨_,st.zip,fun v z=>by cases z⟩
  ·exact⟨_,st.ti,fun v z=>by cases z⟩
  ·exact⟨_,hto,fun v z=>by cases z⟩
  ·exact⟨o1,e1,fun v z=>by rw[d1]at z;cases z⟩
  ·exact⟨o2,e2,fun v z=>by rw[d2]at z;cases z⟩
 keep:=fun i h h' st kk=>by
  obtain⟨u,v,hto⟩:=st.to
  exact⟨kk z (by simp) _ st.zip,kk TI (by simp) _ st.ti,⟨u,v,kk TO (by simp) _ hto⟩,L2.SIt.at st.l fun o q=>kk i1 (by simp) o q,L2.SIt.at st.r fun o q=>kk i2 (by simp) o q⟩
 item:=by
  intro X hP hw hK hc i pins s σ H E I hf st hg
  subst hP hw hK
  obtain⟨xs,ys,x,y,hq,hq2,hx,hy⟩:=hg
  obtain⟨its,rv,p⟩:=hq.at I
  obtain⟨its2,rv2,p2⟩:=hq2.at I
  obtain⟨u,hu,ru⟩:=rv.get hx
  obtain⟨u2,hu2,ru2⟩:=rv2.get hy
  obtain⟨o1,o2,hto⟩:=st.to
  have A:=nG N (fun c hc=>(hf c hc).1) hq.some hq2.some
  have fz:=hf z (by simp)
  have fI:=hf TI (by simp)
  have fO:=hf TO (by simp)
  have f1:=hf i1 (by simp)
  have f2:=hf i2 (by simp)
  refine q_ A st.zip st.ti hto st.l st.r p p2 (x:=u) (y:=u2) (by simpa using hu) (by simpa using hu2) fun h' hz' hto' h1' h2' hp hsz hk=>?_
  refine⟨_,rfl,wpAny_letOwnedTupleGo_zip hz' fun h'' hz'' hs''=>?_⟩
  have zlt:z<s.heap.objs.size:=Heap.lt_size st.zip
  have keep2:∀ c o,c≠z->c≠TO->c≠i1->c≠i2->s.heap.get? c=some o->h''.get? c=some o:=fun c o n1 n2 n3 n4 q=>(hs''.2 c n1).trans (hk c o n1 n2 n3 n4 q)
  have hT'':h''.get? s.heap.objs.size=some { cls:=.type "tuple",data:=.seq #[u,u2] }:=(hs''.2 _ (Nat.ne_of_gt zlt)).trans hp
  have fresh:=I.hok.fresh (Nat.le_refl s.heap.objs.size)
  have nin:∀{c:Addr},c∉[z,TO,i1,i2]->c≠z/\c≠TO/\c≠i1/\c≠i2:=fun hn=>⟨fun z=>hn (by simp[z]),fun z=>hn (by simp[z]),fun z=>hn (by simp[z]),fun z=>hn (by simp[z])⟩
  have I1:L2.Inv X pins σ (bz H s.heap.objs.size (.tup [x,y])) { s with heap:=h'' }:=by
   refine I.step (t':=s.toks) (g':=s.gens) (d':=s.drawn) (ch:=[z,TO,i1,i2]) (fun c hb=>?_) (fun c o _ _ hn q _=>let ⟨n1,n2,n3,n4⟩:=nin hn;keep2 c o n1 n2 n3 n4 q)
    (fun c o _ _ hn q _=>let ⟨n1,n2,n3,n4⟩:=nin hn;⟨o.slots,keep2 c o n1 n2 n3 n4 q⟩) (fun c o _ q hH=>by rw[ax (Nat.ne_of_lt (Heap.lt_size q))];exact hH)
    (fun c o hn q=>let ⟨n1,n2,n3,n4⟩:=nin hn;⟨o,keep2 c o n1 n2 n3 n4 q⟩) (fun c zs q=>by rw[ax (ap q fresh)];exact q)
    (fun c o' u' q=>by rw[ax (ap q fresh)];exact q) (fun c ps q=>⟨#[],by rw[ax (ap q fresh)];simp[q]⟩) (fun m hm=>?_) (fun c u' q=>?_) I.bare
   ·simp only[List.mem_cons,List.not_mem_nil,or_false]at hb
    rcases hb with rfl|rfl|rfl|rfl
    ·exact⟨fz.2.2.2.1,fz.2.1,fz.2.2.2.2.1,fz.2.2.2.2.2⟩
    ·exact⟨fO.2.2.2.1,fO.2.1,fO.2.2.2.2.1,fO.2.2.2.2.2⟩
    ·exact⟨f1.2.2.2.1,f1.2.1,f1.2.2.2.2.1,f1.2.2.2.2.2⟩
    ·exact⟨f2.2.2.2.1,f2.2.1,f2.2.2.2.2.1,f2.2.2.2.2.2⟩
   ·obtain⟨o,es',ep,ho',r⟩:=hm
    exact⟨o,es',ep,keep2 _ o (Ne.symm fz.2.1) (Ne.symm fO.2.1) (Ne.symm f1.2.1) (Ne.symm f2.2.1) ho',r⟩
   ·by_cases hb:c=s.heap.objs.size
    ·subst hb
     rw[aP]at q;cases q
     refine⟨by show 2<=sizeLine;decide,[u,u2],.cons ru (.cons ru2 .nil),⟨_,hT'',rfl,0,rfl⟩⟩
    ·rw[ax hb]at q
     refine(I.hok c u' q).stay (fun d v hc' q'=>?_) (fun d r=>by rw[ax (ap r fresh)];exact r) fun d zs r=>by rw[ax (ap r fresh)];exact r
     have tr:∃ w,H d=some w:=hc'.elim (fun z=>⟨u',by rw[z];exact q⟩) fun z=>⟨_,z⟩
     obtain⟨w',hw'⟩:=tr
     exact keep2 d v (ap hw' fz.1) (ap hw' fO.1) (ap hw' f1.1) (ap hw' f2.1) q'
  refine⟨.ref s.heap.objs.size,_,I1,rfl,⟨_,x,y,fresh,rfl,rfl,fun zs hz'=>by rw[<- hq.inj hz'];exact hx,fun zs hz'=>by rw[<- hq2.inj hz'];exact hy⟩,?_,fun c hb=>?_⟩
  ·have mv:∀ c o,c≠z->h'.get? c=some o->h''.get? c=some o:=fun c o n q=>(hs''.2 c n).trans q
   exact⟨hz'',keep2 TI _ N.TIz N.TITO N.TIi1 N.TIi2 st.ti,⟨_,_,mv TO _ N.TOz hto'⟩,L2.SIt.at h1' fun o q=>mv i1 o N.i1z q,L2.SIt.at h2' fun o q=>mv i2 o N.i2z q⟩
  ·have lt:∀{c:Addr}{o:Obj},s.heap.get? c=some o->H c=none->(bz H s.heap.objs.size (.tup [x,y])) c=none:=fun q n=>by rw[ax (Nat.ne_of_lt (Heap.lt_size q))];exact n
   obtain⟨oo1,q1,_⟩:=st.l
   obtain⟨oo2,q2,_⟩:=st.r
   simp only[List.mem_cons,List.not_mem_nil,or_false]at hb
   rcases hb with rfl|rfl|rfl|rfl|rfl
   ·exact lt st.zip fz.1
   ·exact lt st.ti fI.1
   ·exact lt hto fO.1
   ·exact lt q1 f1.1
   ·exact lt q2 f2.1
 done:=by
  intro X hP hw hK hc i pins s σ H E I hf st hg
  subst hP hw hK
  obtain⟨xs,ys,hq,hq2,hx⟩:=hg
  obtain⟨its,rv,p⟩:=hq.at I
  obtain⟨its2,rv2,p2⟩:=hq2.at I
  obtain⟨o1,o2,hto⟩:=st.to
  have A:=nG N (fun c hc=>(hf c hc).1) hq.some hq2.some
  have fz:=hf z (by simp)
  have fO:=hf TO (by simp)
  have f1:=hf i1 (by simp)
  have f2:=hf i2 (by simp)
  have l1:=rv.length
  have l2:=rv2.length
  refine sX (I.ok.hd hc) A st.zip st.ti hto st.l st.r p p2 (hx.imp (fun z=>by simp;omega) fun z=>by simp;omega) fun h' hk=>⟨rfl,?_⟩
  have nin:∀{c:Addr},c∉[z,TO,i1,i2]->c≠z/\c≠TO/\c≠i1/\c≠i2:=fun hn=>⟨fun z=>hn (by simp[z]),fun z=>hn (by simp[z]),fun z=>hn (by simp[z]),fun z=>hn (by simp[z])⟩
  refine I.step (t':=s.toks) (g':=s.gens) (d':=s.drawn) (ch:=[z,TO,i1,i2]) (fun c hb=>?_) (fun c o _ _ hn q _=>let ⟨n1,n2,n3,n4⟩:=nin hn;hk c o n1 n2 n3 n4 q)
   (fun c o _ _ hn q _=>let ⟨n1,n2,n3,n4⟩:=nin hn;⟨o.slots,hk c o n1 n2 n3 n4 q⟩) (fun c o _ q hH=>hH)
   (fun c o hn q=>let ⟨n1,n2,n3,n4⟩:=nin hn;⟨o,hk c o n1 n2 n3 n4 q⟩) (fun c zs q=>q)
   (fun c o' u' q=>q) (fun c ps q=>⟨#[],by simp[q]⟩) (fun m hm=>?_) (fun c u' q=>?_) I.bare
  ·simp only[List.mem_cons,List.not_mem_nil,or_false]at hb
   rcases hb with rfl|rfl|rfl|rfl
   ·exact⟨fz.2.2.2.1,fz.2.1,fz.2.2.2.2.1,fz.2.2.2.2.2⟩
   ·exact⟨fO.2.2.2.1,fO.2.1,fO.2.2.2.2.1,fO.2.2.2.2.2⟩
   ·exact⟨f1.2.2.2.1,f1.2.1,f1.2.2.2.2.1,f1.2.2.2.2.2⟩
   ·exact⟨f2.2.2.2.1,f2.2.1,f2.2.2.2.2.1,f2.2.2.2.2.2⟩
  ·obtain⟨o,es',ep,ho',r⟩:=hm
   exact⟨o,es',ep,hk _ o (Ne.symm fz.2.1) (Ne.symm fO.2.1) (Ne.symm f1.2.1) (Ne.symm f2.2.1) ho',r⟩
  ·refine(I.hok c u' q).stay (fun d v hc' q'=>?_) (fun d r=>r) fun d zs r=>r
   have tr:∃ w,H d=some w:=hc'.elim (fun z=>⟨u',by rw[z];exact q⟩) fun z=>⟨_,z⟩
   obtain⟨w',hw'⟩:=tr
   exact hk d v (ap hw' fz.1) (ap hw' fO.1) (ap hw' f1.1) (ap hw' f2.1) q'
 self:=fun A i s Q E st h=>wpAny_pyIter_zip st.zip h
section
variable {X:Cx}{E:XK}{es:List Expr}{k:Nat}{mS:Pos}
noncomputable def By (ta:TA):TI:=fun σ H R=>ta σ H fun vs H1=>∃ ka kb a b xs ys,vs=[.ref a,.ref b]/\SqX ka H1 a xs/\SqX kb H1 b ys/\R (Dj ka kb a b) H1
theorem wo {l r:Expr} {ta:TA} {p pos:Pos} (hg:Gl X "zip") (hm:X.mg "zip"=none) (ha:PA X [l,r] ta) (hs:autoParam (starEach [l,r] X.env=(false,eval l X.env)::starEach [r] X.env) autoR._auto_1) (hpl:autoParam ((backTo pos (starEach [r] X.env)).any (·.1)=false) autoR._auto_1) :
 PI X (.Tuple es k mS) (.Call (.Name "zip" p) [l,r] [] pos) (By ta):=by
 intro pins s σ H R I h
 refine Call_ (gd I hg hm (by decide +kernel:bootBuiltins "zip"=some (.type "zip")) (PyProof.Rows.callWith_type1 (da (ha pos pins s σ H _ I h) fun us s1 ⟨vs,H1,I1,r1,q1⟩=>?_) hs hpl))
 have fpc:∀ c∈[s1.heap.objs.size+4,s1.heap.objs.size+2,s1.heap.objs.size+3,s1.heap.objs.size,s1.heap.objs.size+1],FpOk X pins H1 c:=fun c hb=>by
  have hc:s1.heap.objs.size<=c:=by
   simp only[List.mem_cons,List.not_mem_nil,or_false]at hb
   rcases hb with rfl|rfl|rfl|rfl|rfl
   ·exact Nat.le_add_right _ 4
   ·exact Nat.le_add_right _ 2
   ·exact Nat.le_add_right _ 3
   ·exact Nat.le_refl _
   ·exact Nat.le_add_right _ 1
  exact I1.fpOk hc (I1.hok.fresh hc)
 obtain⟨ka,kb,a,b,xs,ys,e,hq,hq2,q⟩:=q1
 subst e
 obtain⟨u,c,rfl,ru,rc⟩:=m5 r1
 cases ru
 cases rc
 obtain⟨its,rv,pl⟩:=hq.at I1
 obtain⟨its2,rv2,pl2⟩:=hq2.at I1
 refine rf pl pl2 fun h' g1 g2 g3 g4 g5 kp=>?_
 have I2:L2.Inv X pins σ H1 { s1 with heap:=h' }:=I1.kept (t':=s1.toks) kp
 refine wpAny_pyIter_zip g1 ?_
 exact⟨s1.heap.objs.size+4,_,_,_,H1,rfl,I2,rP ka kb a b (s1.heap.objs.size+4) (s1.heap.objs.size+2) (s1.heap.objs.size+3) s1.heap.objs.size (s1.heap.objs.size+1) (y3 s1.heap.objs.size),⟨g1,g2,⟨_,_,g3⟩,g4,g5⟩,fpc,q⟩
noncomputable def t9 (k:Bool)(H:Hp)(m:Addr->Prop)(a:Addr)(vs:List V):Prop:=∀ H':Hp,(∀ a o,H a=some o->(m a\/fixd o)->H' a=some o)->SqX k H' a vs
theorem rQ {ka kb:Bool}{a b:Addr}{m:Addr->Prop}{H:Hp}{ds es:List D}{vs ws:List V}(h:t9 ka H m a vs)(h2:t9 kb H m b ws)(is:IsAll H m ds vs)(is2:IsAll H m es ws):Walk (Dj ka kb a b) m H (gb ds es):=by
 refine⟨fun H' i d k e=>?_,fun H' k=>⟨vs,ws,h H' k,h2 H' k,by rw[nB,is.length,is2.length];omega⟩⟩
 rw[nA]at e
 cases q:ds[i]? with
 |none=>rw[q]at e;cases e
 |some d0=>
  cases q2:es[i]? with
  |none=>rw[q,q2]at e;cases e
  |some e0=>
   rw[q,q2]at e
   have e:D.tup [d0,e0]=d:=by simpa using e
   obtain⟨v,ev,iv⟩:=(is.mono k fun _ _ _ z=>z:IsAll H' m ds vs).get q
   obtain⟨v2,ev2,iv2⟩:=(is2.mono k fun _ _ _ z=>z:IsAll H' m es ws).get q2
   have k1:=h H' k
   have k2:=h2 H' k
   refine⟨⟨vs,ws,v,v2,k1,k2,ev,ev2⟩,fun x H'' y=>?_⟩
   obtain⟨p,x',y',hp,rfl,rfl,y1,y2⟩:=y
   have z1:=y1 vs k1
   have z2:=y2 ws k2
   rw[ev]at z1;cases z1
   rw[ev2]at z2;cases z2
   have sm:Same H' (bz H' p (.tup [v,v2])):=bE hp
   refine⟨sm,?_⟩
   rw[<- e]
   exact⟨p,_,rfl,aP,v,[v2],rfl,Is.same sm iv,v2,[],rfl,Is.same sm iv2,rfl⟩
noncomputable def t_:D->Option (Bool×List D)
 | .lst ds=>some (false,ds)
 | .tup ds=>some (true,ds)
 |_=>none
theorem pQ {H:Hp}{m:Addr->Prop}{d:D}{v:V}{k:Bool}{ds:List D}(e:t_ d=some (k,ds))(h:Is H m d v):∃ a vs,v=.ref a/\SqX k H a vs/\t9 k H m a vs/\IsAll H m ds vs:=by
 cases d with
 |lst es=>
  cases e
  obtain⟨a,vs,rfl,h1,h2⟩:=h
  refine⟨a,vs,rfl,h1.imp (·.1) fun⟨o,z,_⟩=>⟨o,z⟩,fun H' kp=>?_,h2⟩
  rcases h1 with⟨z,zm⟩|⟨o,z,zm⟩
  ·exact .inl (kp a _ z (.inl zm))
  ·exact .inr ⟨o,kp a _ z (.inl zm)⟩
 |tup es=>
  cases e
  obtain⟨a,vs,rfl,h1,h2⟩:=h
  exact⟨a,vs,rfl,.inl h1,fun H' kp=>.inl (kp a _ h1 (.inr True.intro)),h2⟩
 |_=>cases e
noncomputable def nH:List R->Res Src
 | [r,q]=>match t_ r.d,t_ q.d with
  |some (_,ds),some (_,es)=>.ok ⟨gb ds es,r.fr&&q.fr,r.al++q.al⟩
  |_,_=>.stuck
 |_=>.stuck
noncomputable def lN (fs:En->Res (List R)):En->Res Src:=fun env=>(fs env).bind nH
theorem iy {l r:Expr} {fs:En->Res (List R)} {p pos:Pos} (hg:Gl X "zip") (hm:X.mg "zip"=none) (ha:rj X E [l,r] fs) (hs:autoParam (starEach [l,r] X.env=(false,eval l X.env)::starEach [r] X.env) autoR._auto_1) (hpl:autoParam ((backTo pos (starEach [r] X.env)).any (·.1)=false) autoR._auto_1) :
 yX X E (.Tuple es k mS) (.Call (.Name "zip" p) [l,r] [] pos) (lN fs):=by
 obtain⟨t,p1,s1⟩:=ha
 refine⟨_,wo hg hm p1 hs hpl,fun g M ρ env σ H Rq rep p=>s1.one rep (P:=fun M H r=>PostI X.mg E g M ρ env σ H Rq r) p (fun _ _ z=>z) (fun _ _ _ z=>z) (fun _ _ _ _ _ e p=>p.ext e) fun rs vs M1 H1 e1 rep1 is q=>?_⟩
 match rs,is,q with
 | [r,r2],is,q=>
  obtain⟨v,w,rfl,i1,v2,w2,rfl,i2,i3⟩:=is
  cases i3
  have i1:Is H1 (vmsk g M1 (bh [r,r2]) ρ (bu [r,r2])) r.d v:=i1
  have i2:Is H1 (vmsk g M1 (bh [r,r2]) ρ (bu [r,r2])) r2.d v2:=i2
  replace i1:=i1.weak fun _ z=>pK z
  replace i2:=i2.weak fun _ z=>pK z
  unfold nH at q
  dsimp only at q
  cases z:t_ r.d with
  |none=>rw[z]at q;exact q.elim
  |some x=>
   cases z2:t_ r2.d with
   |none=>rw[z,z2]at q;exact q.elim
   |some y=>
    obtain⟨ka,ds⟩:=x
    obtain⟨kb,es⟩:=y
    rw[z,z2]at q
    dsimp only at q
    obtain⟨a,ws,rfl,h1,h2,h3⟩:=pQ z i1
    obtain⟨b,us,rfl,g1,g2,g3⟩:=pQ z2 i2
    exact⟨ka,kb,a,b,ws,us,rfl,h1,g1,q _ M1 H1 (Ext.refl _ _) rep1 (rQ h2 g2 h3 g3)⟩
 | [],_,q=>exact q.elim
 | [_],_,q=>exact q.elim
 |_::_::_::_,_,q=>exact q.elim
end
end L3
namespace L3
open PySem PySem.Spec PyProof.Rows L2
section
variable {X:Cx}{E:XK}
noncomputable def Dk:V->List V->Hp->VK->Prop:=fun x xs H Q=>∃ l vs ds d m m' y j,x=.ref l/\xs=[y]/\Rd H l (.lst vs)/\IsAll H m ds vs/\Is H m' d y/\(D.deps ds<=50/\d.dep<=50)/\ds.findIdx? (fun e=>bJ e d)=some j/\Q (.int ((j:Nat):Int)) H
theorem zk (hu:X.A.units+64<cLine):DQ X "list.index" Dk:=by
 intro pins s σ H x vs v us Q I rx rv h
 obtain⟨l,xs,ds,d,m,m',y,j,rfl,rfl,hH,is,ix,hd,hj,q⟩:=h
 cases rx
 obtain⟨u,rfl,ru⟩:=rv.one
 obtain⟨z,its,n,r,e⟩:=(show ObjOk X.prog X.w H s.heap l (.lst xs) from sO I.hok hH)
 have hl:=r.length
 obtain⟨hj1,hj2,hj3⟩:=List.findIdx?_eq_some_iff_getElem.mp hj
 have lds:=is.length
 have hji:j<its.length:=by omega
 have eqs:∀(k:Nat)(hk:k<its.length)(hk':k<ds.length),bS H m d its[k]=bJ ds[k] d:=fun k hk hk'=>by
  obtain⟨w,ew,iw⟩:=is.get (i:=k) (d:=ds[k]) (by simp[hk'])
  obtain⟨u',eu,ru'⟩:=r.get ew
  have:its[k]=u':=by rw[List.getElem?_eq_getElem hk]at eu;exact Option.some.inj eu
  rw[this]
  exact i6 ru' iw
 refine call_meets F.slot_list_index ⟨_,e,rfl⟩ F.entry_list_index (F.args_list_index_2 _ _) (SeqAt.list_indexAt l its.toArray n none #[] u (bS H m d) j (by simpa using hji) ?_ ?_ ?_) ⟨e,?_,?_⟩
 ·have:sizeLine<2 ^ 62:=by decide
  omega
 ·simp only[List.getElem_toArray]
  rw[eqs j hji hj1];exact hj2
 ·intro k hk hkj
  have hk':k<its.length:=by simpa using hk
  simp only[List.getElem_toArray]
  rw[eqs k hk' (by omega)]
  have:=hj3 k hkj
  simpa using this
 ·exact fun w hw=>dA I (by show X.A.units+1+50<cLine;omega) ix hd.2 ru is r hd.1 w (by simpa using hw)
 ·exact⟨.int j,H,I.tok _,⟨_,rfl⟩,q⟩
noncomputable def ua (ds:List D)(d:D):Option Nat:=if D.deps ds<=50/\d.dep<=50 then ds.findIdx? (fun e=>bJ e d) else none
noncomputable def lO (ds:List D)(rb:R):Res R:=match ua ds rb.d with
 |some j=>.ok (.val (.int ((j:Nat):Int)) true [])
 |none=>.stuck
noncomputable def lP (fa:En->Res R)(env:En)(ra:R):Res R:=match ra.d with
 | .lst ds=>(fa env).bind (lO ds)
 |_=>.stuck
noncomputable def wq (fo fa:En->Res R):En->Res R:=fun env=>(fo env).bind (lP fa env)
theorem zl {o a:Expr} {fo fa:En->Res R} {apos cpos:Pos} (hu:X.A.units+64<cLine) (ho:PD X E o fo) (ha:PD X E a fa) (hbase:autoParam (attributeBase o "index" X.env (eval o X.env)=eval o X.env) autoR._auto_1)
 (hfew:autoParam (((backTo cpos (starEach [a] X.env)).all (fun x=>!x.1)&&(backToKw cpos (keywordEach [] X.env)).all (fun x=>x.1.isSome)&&decide (([a]:List Expr).length+([]:List Keyword).length+(if ([]:List Keyword).isEmpty then 0 else 1)<30))=true) autoR._auto_1)
 (hline:autoParam ((apos.endLine==cpos.line)=true) autoR._auto_1) (hs:autoParam (starEach [a] X.env=(false,eval a X.env)::starEach [] X.env) autoR._auto_1) (hplain:autoParam ((backTo cpos (starEach [] X.env)).any (·.1)=false) autoR._auto_1) :
 PD X E (.Call (.Attribute o "index" apos) [a] [] cpos) (wq fo fa):=by
 obtain⟨to,p0,s0⟩:=ho
 obtain⟨t,p1,s1⟩:=ha
 refine⟨_,m9 PySem.F.plainAttrs_list PySem.F.slot_list_index PySem.F.type_list_index (zk hu) p0 (d9 p1 ge hs) hbase hfew hline hs hplain,fun g M ρ env σ H Q rep p=>?_⟩
 have p:PostE X.mg E g M ρ env σ H Q ((fo env).bind (lP fa env)):=p
 refine s0.oneE rep p fun ra v M1 H1 e1 rep1 i1 q1=>?_
 unfold lP at q1
 cases hq:ra.d with
 |lst ds=>
  rw[hq]at q1 i1
  dsimp only at q1
  obtain⟨b,ws,rfl,h,k⟩:=i1
  have rd:Rd H1 b (.lst ws):=h.imp (fun z=>z.1) fun⟨o,z,_⟩=>⟨o,z⟩
  refine⟨.inl ⟨rfl,ws,.inl rd⟩,s1.oneE rep1 q1 fun rb y M2 H2 e2 rep2 i2 q2=>?_⟩
  unfold lO at q2
  cases qj:ua ds rb.d with
  |none=>rw[qj]at q2;exact q2.elim
  |some j=>
   rw[qj]at q2
   unfold ua at qj
   by_cases hd:D.deps ds<=50/\rb.d.dep<=50
   ·rw[if_pos hd]at qj
    have rd2:Rd H2 b (.lst ws):=rd.imp (fun h=>e2.h _ _ h) fun⟨o,h⟩=>⟨o,e2.h _ _ h⟩
    exact⟨b,ws,ds,rb.d,_,_,y,j,rfl,rfl,rd2,k.ext e2,i2,hd,qj,q2 _ M2 H2 (Ext.refl _ _) rep2 rfl⟩
   ·rw[if_neg hd]at qj;cases qj
 |_=>rw[hq]at q1;exact q1.elim
noncomputable def ju (kvs:List (Str×Int))(k:Str):Option Int:=(kvs.find? fun p=>decide (p.1=k)).map (·.2)
noncomputable def rR (kvs:List (Str×Int))(r:R):Res R:=match r.d with
 | .str k=>(match ju kvs k with
  |some v=>.ok (.val (.int v) true [])
  |none=>.stuck)
 |_=>.stuck
noncomputable def wt (kvs:List (Str×Int))(f:En->Res R):En->Res R:=fun env=>(f env).bind (rR kvs)
noncomputable def rS (w:World):List DictEntry->List (Str×Int)->Prop
 | [],[]=>True
 |e::es,p::ps=>(e.hash=hashStr w p.1/\(∃ t,e.key=.str p.1 t)/\∃ t,e.val=.int p.2 t)/\rS w es ps
 |_,_=>False
noncomputable def TabAt (w:World) (K:PySem.W.Frag) (a:Addr) (kvs:List (Str×Int)):Prop:=∃ es ep,K.lookup a=some ⟨.type "dict",none,.dict es ep,#[]⟩/\rS w es.toList kvs/\(kvs.map (·.1)).Nodup
noncomputable def ko:List DictEntry->List (Str×Int)->List (Key×Value)
 |e::es,p::ps=>(.inr p.1,e.val)::ko es ps
 |_,_=>[]
theorem lQ {P:Program}{w:World}:∀{es:List DictEntry}{kvs:List (Str×Int)},rS w es kvs->Pairs (aT P w) es (ko es kvs)
 | [],[],_=>.nil
 |e::es,p::ps,h=>by
  obtain⟨⟨_,⟨t,hk⟩,_⟩,h2⟩:=h
  exact .cons (by rw[hk];exact gc P w p.1 t) rfl (lQ h2)
 | [],_::_,h=>h.elim
 |_::_,[],h=>h.elim
theorem nI {P:Program}{w:World}:∀{es:List DictEntry}{kvs:List (Str×Int)},rS w es kvs->∀ e∈es,∃ k,(aT P w).is k e.key=true/\e.hash=(aT P w).hash k
 | [],[],_,_,h=>by cases h
 |e::es,p::ps,h,x,hx=>by
  obtain⟨⟨hh,⟨t,hk⟩,_⟩,h2⟩:=h
  rcases List.mem_cons.mp hx with rfl|hx
  ·exact⟨.inr p.1,by rw[hk];exact gc P w p.1 t,hh⟩
  ·exact nI h2 x hx
 | [],_::_,h,_,_=>h.elim
 |_::_,[],h,_,_=>h.elim
theorem pR {w:World}:∀{es:List DictEntry}{kvs:List (Str×Int)},rS w es kvs->(ko es kvs).map (·.1)=kvs.map fun p=>(.inr p.1:Key)
 | [],[],_=>rfl
 |e::es,p::ps,h=>by
  unfold ko
  rw[List.map_cons,List.map_cons,pR h.2]
 | [],_::_,h=>h.elim
 |_::_,[],h=>h.elim
theorem pS {w:World}{k:Str}{v:Int}:∀{es:List DictEntry}{kvs:List (Str×Int)},rS w es kvs->ju kvs k=some v->∃ u,valueAt (ko es kvs) (.inr k:Key)=some u/\RelV (.int v) u
 | [],[],_,e=>by cases e
 |e::es,p::ps,h,q=>by
  obtain⟨⟨_,_,⟨t,hv⟩⟩,h2⟩:=h
  unfold ju at q
  unfold ko valueAt
  by_cases c:p.1=k
  ·rw[List.find?_cons,decide_eq_true c]at q
   have q:p.2=v:=by simpa using q
   refine⟨e.val,?_,t,by rw[hv,q]⟩
   rw[List.find?_cons,decide_eq_true (by rw[c])];rfl
  ·rw[List.find?_cons,decide_eq_false c]at q
   obtain⟨u,e1,e2⟩:=pS h2 (show ju ps k=some v from q)
   refine⟨u,?_,e2⟩
   rw[List.find?_cons,decide_eq_false (fun z=>c (Sum.inr.inj z))]
   exact e1
 | [],_::_,h,_=>h.elim
 |_::_,[],h,_=>h.elim
theorem zn {x:Str} {a:Addr} {kvs:List (Str×Int)} {i:Expr} {ty:TE} {pos np:Pos} (hg:Gl X x) (hm:X.mg x=some (.ref a)) (tb:TabAt X.w X.K a kvs) (hi:PE X i ty) (hs:sP i) (hd:(x==("__debug__" : Str))=false) :
 PE X (.Subscript (.Name x np) i pos) (fun σ H Q=>ty σ H fun y H2=>∃ k v,y=.str k/\ju kvs k=some v/\Q (.int v) H2):=by
 intro pins s σ H Q I h
 have hn:=vv (X:=X) (v:=.ref a) (pos:=np) hg hm rfl hd
 refine pr PySem.F.slot_dict_getitem.lookup hs (da (hn pins s σ H (fun v H1=>v=.ref a/\H1=H) I ⟨rfl,rfl⟩) fun u s1 ⟨x,H1,I1,rx,ex,eh⟩=>?_)
 subst ex eh
 obtain rfl:u=Value.ref a:=rx
 refine da (hi pins s1 σ _ _ I1 h) fun iv s2 ⟨y,H2,I2,ry,k,v,ey,ht,q⟩=>?_
 subst ey
 obtain⟨es,ep,lk,te,nd⟩:=tb
 have dd:s2.heap.DictOf (aT X.prog X.w) a (ko es.toList kvs):=⟨_,es,ep,I2.kIn _ _ lk,⟨rfl,rfl,rfl⟩,rfl,fun e he=>nI te e (by simpa using he),lQ te,by
  rw[pR te]
  have:((kvs.map (·.1)).map fun n=>(.inr n:Key)).Nodup:=by
   rw[List.Nodup,List.pairwise_map]
   exact nd.imp fun{a b} h e=>h (Sum.inr.inj e)
  rw[List.map_map]at this
  exact this⟩
 obtain⟨w',hw,rw'⟩:=pS te ht
 exact⟨dd.typeIs,wpAny_getItem_of (jm (k:=.inr k) ry) dd.mapOf hw ⟨.int v,H2,I2.tok _,rw',q⟩⟩
theorem ub {x:Str} {kvs:List (Str×Int)} {i:Expr} {f:En->Res R} {pos np:Pos} (hg:Gl X x) (tb:∃ a,X.mg x=some (.ref a)/\TabAt X.w X.K a kvs) (hi:PD X E i f) (hs:sP i) (hd:autoParam ((x==("__debug__" : Str))=false) autoD._auto_1) :
 PD X E (.Subscript (.Name x np) i pos) (wt kvs f):=by
 obtain⟨a,hm,ta⟩:=tb
 obtain⟨t,p1,s1⟩:=hi
 refine⟨_,zn hg hm ta p1 hs hd,fun g M ρ env σ H Q rep p=>s1.oneE rep p fun r v M1 H1 e1 rep1 i1 q1=>?_⟩
 unfold rR at q1
 cases hq:r.d with
 |str k=>
  rw[hq]at q1 i1
  dsimp only at q1
  cases ht:ju kvs k with
  |none=>rw[ht]at q1;exact q1.elim
  |some n=>
   rw[ht]at q1
   exact⟨k,n,i1,ht,q1 _ M1 H1 (Ext.refl _ _) rep1 rfl⟩
 |_=>rw[hq]at q1;exact q1.elim
noncomputable def pT (i:Nat)(env:En)(ds:List D)(fr:Bool)(r:R):Res Fl:=match r with
 | .new es f2=>if ds.length+es.length<=lim then .ok (.nx (env.set i (some (.own (ds++es) (fr&&f2))))) else .stuck
 | .fre (.lst es)=>if ds.length+es.length<=lim/\D.flats es=true then .ok (.nx (env.set i (some (.own (ds++es) fr)))) else .stuck
 |_=>.stuck
noncomputable def nJ (i:Nat)(f:En->Res R):En->Res Fl:=fun env=>match ff env i with
 |some (ds,fr)=>(f env).bind (pT i env ds fr)
 |none=>.stuck
theorem uc {i:Nat}{a e:Expr}{f:En->Res R}{apos cpos pos:Pos}(ha:PE X a (kX i))(h:PD X E e f)
 (hbase:autoParam (attributeBase a "extend" X.env (eval a X.env)=eval a X.env) autoR._auto_1)
 (hfew:autoParam (((backTo cpos (starEach [e] X.env)).all (fun x=>!x.1)&&(backToKw cpos (keywordEach [] X.env)).all (fun x=>x.1.isSome)
   && decide (([e]:List Expr).length+([]:List Keyword).length+(if ([]:List Keyword).isEmpty then 0 else 1)<30))=true) autoR._auto_1)
 (hline:autoParam ((apos.endLine==cpos.line)=true) autoR._auto_1) (hs:autoParam (starEach [e] X.env=(false,eval e X.env)::starEach [] X.env) autoR._auto_1) (hplain:autoParam ((backTo cpos (starEach [] X.env)).any (·.1)=false) autoR._auto_1)
 (hsw:autoParam (swapsWith (.Call (.Attribute a "extend" apos) [e] [] cpos) none pos.line X.env=pure false) autoR._auto_1) :
 rn X E (.Expr (.Call (.Attribute a "extend" apos) [e] [] cpos) pos) (nJ i f):=by
 obtain⟨t,p1,s1⟩:=h
 refine⟨_,jM (m9 PySem.F.plainAttrs_list PySem.F.slot_list_extend PySem.F.type_list_extend ly ha (d9 p1 ge hs) hbase hfew hline hs hplain) hsw,fun g M ρ env σ H D rep p=>?_⟩
 unfold nJ at p
 cases e1:ff env i with
 |none=>rw[e1]at p;exact p.elim
 |some o=>
  obtain⟨ds,fr⟩:=o
  rw[e1]at p
  dsimp only at p
  obtain⟨M0,ρ0,l,vs,m0,rep0,ev,k1,k2,k4,hi,_⟩:=rep.toOwn e1
  refine⟨_,ev,.inl ⟨rfl,vs,SqL.of k1⟩,s1.oneS rep p fun r y M' H' e rep' ro p'=>?_⟩
  have key:∀(es:List L3.D)(f2:Bool)(b:Addr)(ws:List V),y=.ref b->H' b=some (.lst ws)->IsAll H' (msk g M' f2) es ws->ds.length+es.length<=lim->
   PostS X.mg E g M' H' D (.ok (.nx (env.set i (some (.own (ds++es) (fr&&f2))))))->pp (.ref l) [y] H' fun v H''=>D.nx σ H'':=by
   intro es f2 b ws hy h1 h5 hc p'
   subst hy
   obtain⟨M3,ρ3,l3,vs3,m3,rep3,ev3,j1,j2,j4,hi3,_⟩:=rep'.toOwn e1
   rw[ev]at ev3;cases ev3
   have hl:H' l=some (.lst vs):=e.h _ _ k1
   rw[hl]at j1;cases j1
   have pl:ρ3 i l:=(j2 l).mpr rfl
   obtain⟨nl3,_⟩:=rep3.priv i l pl
   have is4:IsAll H' (msk g M3 (fr&&f2)) (ds++es) (vs++ws):=by
    refine IsAll.append (IsAll.weak (fun b z=>⟨z.1,fun q=>z.2 (by cases fr<;>simp_all)⟩) j4) (IsAll.weak (fun b z=>⟨m3 b z.1,fun q=>z.2 (by cases fr<;>simp_all)⟩) h5)
   have kp:∀ b u,H' b=some u->(msk g M3 (fr&&f2) b\/fixd u)->bz H' l (.lst (vs++ws)) b=some u:=fun b u q z=>by
    rw[ax]
    ·exact q
    ·rintro rfl
     rcases z with z|z
     ·exact nl3 z.1
     ·rw[hl]at q;cases q;exact z
   obtain⟨f1,rep4⟩:=rep3.write (sl:=.own (ds++es) (fr&&f2)) (vs':=vs++ws) pl (by rw[List.length_set];exact hi3) ev ⟨l,vs++ws,rfl,aP,j2,IsAll.mono kp (fun _ _ _ z=>z) is4⟩
   rw[List.set_set]at rep4
   refine⟨l,b,vs,ws,rfl,rfl,hl,h1,by rw[k4.length,h5.length];exact db hc,?_⟩
   exact p' σ M3 ρ3 _ (Frz.trans ⟨fun a z=>m3 a z,fun _ _ q _=>q⟩ f1) rep4
  unfold pT at p'
  cases r with
  |new es f2=>
   dsimp only at p'
   by_cases hc:ds.length+es.length<=lim
   ·rw[if_pos hc]at p'
    obtain⟨b,ws,rfl,h1,h2,h3,h4,h5⟩:=ro
    exact key es f2 b ws rfl h1 h5 hc p'
   ·rw[if_neg hc]at p';exact p'.elim
  |fre d=>
   cases d with
   |lst es=>
    dsimp only at p'
    by_cases hc:ds.length+es.length<=lim/\L3.D.flats es=true
    ·rw[if_pos hc]at p'
     obtain⟨T,hT,b,ws,rfl,h1,h5⟩:=ro
     have hb:H' b=some (.lst ws):=by
      rcases h1 with h1|⟨o,h1,t⟩
      ·exact h1.1
      ·obtain⟨_,_,⟨u,hu,mu⟩,_⟩:=hT b t
       rw[h1]at hu;cases hu;exact mu.elim
     exact key es true b ws rfl hb (IsAll.weak (m:=fun _=>False) (fun _ z=>z.elim) (IsAll.flat hc.2 h5)) hc.1 (by rw[Bool.and_true];exact p')
    ·rw[if_neg hc]at p';exact p'.elim
   |_=>exact p'.elim
  |_=>exact p'.elim
end
end L3
namespace L3
open PySem PySem.Spec PyProof.Rows L2
section
variable {X:Cx}{E:XK}
noncomputable def pU (a b:Str):Prop:=0<b.length/\a.length<=100000/\(Txt.split a b).length<=100000/\(Builtin.Str.partsBetween a (Builtin.Str.occurrences a b 0 a.length (a.length+1)) b.length).length<=100000
instance (a b:Str):Decidable (pU a b):=by unfold pU;infer_instance
end
end L3
namespace L3
open PySem PySem.Spec PyProof.Rows L2
section
variable {K:PySem.W.Frag}{H:Hp}{m:Addr->Prop}
end
section
variable {X:Cx}{E:XK}
end
end L3
namespace L3
open PySem PySem.Spec PyProof.Rows L2
section
variable {X:Cx}{E:XK}
end
end L3
set_option autoImplicit false
namespace L3
open PySem L2
section
variable {env bf:En}{i j:Nat}{d:D}{ds es:List D}{f g:Bool}{al bl:List Nat}{x y:Int}
noncomputable def kS (k:En->Res Fl):Fl->Res Fl
 | .nx bf=>k bf
 |r=>.ok r
theorem ud (f k:En->Res Fl)(env:En):aD f k env=(f env).bind (kS k):=by
 rfl
theorem Dm (k:En->Res Fl)(e:En):kS k (.nx e)=k e:=(rfl)
theorem Dn (k:En->Res Fl)(r:R):kS k (.rt r)=.ok (.rt r):=(rfl)
noncomputable def Do (a b:En->Res Fl)(env:En)(k:Bool):Res Fl:=if k then a env else b env
theorem zo (c:En->Res Bool)(a b:En->Res Fl)(env:En):cY c a b env=(c env).bind (Do a b env):=(rfl)
theorem Bz (a b:En->Res Fl)(env:En):Do a b env true=a env:=(rfl)
theorem BA (a b:En->Res Fl)(env:En):Do a b env false=b env:=(rfl)
theorem BB (env:En):bj env=.ok (.nx env):=(rfl)
noncomputable def BC (r:R):Res Fl:=.ok (.rt r)
theorem BD (a:En->Res R)(env:En):aQ a env=(a env).bind BC:=(rfl)
theorem zp (r:R):BC r=.ok (.rt r):=(rfl)
noncomputable def BE (i:Nat)(env:En)(r:R):Res Fl:=if i<env.length then .ok (.nx (put env i r)) else .stuck
theorem BF (i:Nat)(a:En->Res R)(env:En):bN i a env=(a env).bind (BE i env):=(rfl)
theorem zq (r:R)(h:i<env.length):BE i env r=.ok (.nx (put env i r)):=if_pos h
theorem zr:put env i (.val d f [])=env.set i (some (.val d f)):=(rfl)
theorem zt:put env i (.new ds f)=env.set i (some (.own ds f)):=(rfl)
theorem zu:put env i (.fre d)=env.set i (some (.tre d)):=(rfl)
noncomputable def zv (i:Nat):Option (Option Sl)->Res R
 |some (some (.val d fr))=>.ok (mkV d fr [])
 |some (some (.own ds fr))=>.ok (.val (.lst ds) fr [i])
 |some (some (.tre d))=>.ok (.val d true [i])
 |some (some (.pin d))=>.ok (.val d true [i])
 |some (some (.dis d))=>.ok (.val d true [i])
 |_=>.stuck
theorem BG (i:Nat)(env:En):ah i env=zv i env[i]?:=by unfold ah zv;rfl
theorem BH:zv i (some (some (.val d f)))=.ok (mkV d f []):=(rfl)
theorem BI:zv i (some (some (.own ds f)))=.ok (.val (.lst ds) f [i]):=(rfl)
theorem BJ:zv i (some (some (.tre d)))=.ok (.val d true [i]):=(rfl)
theorem BK:zv i (some (some (.pin d)))=.ok (.val d true [i]):=(rfl)
theorem wu:zv i (some (some (.dis d)))=.ok (.val d true [i]):=(rfl)
theorem Eg (d:D)(env:En):vC d env=.ok (.val d true []):=(rfl)
theorem zw (h:d.flat=true):mkV d f al=.val d true []:=by unfold mkV;rw[if_pos h]
theorem zx (h:d.flat=false):mkV d f al=.val d f al:=by unfold mkV;rw[if_neg (by rw[h];simp)]
theorem bA (h:D.flats ds=true):kZ ds f al=.new ds true:=by unfold kZ;rw[if_pos h]
theorem bY:kZ ds true []=.new ds true:=by unfold kZ;split<;>rfl
noncomputable def DX (op:R->R->Res R)(fb:En->Res R)(env:En)(ra:R):Res R:=(fb env).bind (op ra)
theorem Dp (op:R->R->Res R)(fa fb:En->Res R)(env:En):v2 op fa fb env=(fa env).bind (DX op fb env):=(rfl)
theorem BL (op:R->R->Res R)(fb:En->Res R)(env:En)(ra:R):DX op fb env ra=(fb env).bind (op ra):=(rfl)
theorem BM:ba (.val (.int x) f al) (.val (.int y) g bl)=.ok (.val (.int (x+y)) true []):=(rfl)
theorem BN:nr (.val (.int x) f al) (.val (.int y) g bl)=.ok (.val (.int (x-y)) true []):=(rfl)
theorem zy (h1:-18446744073709551616<y)(h2:y<18446744073709551616):gm (.val (.int x) f al) (.val (.int y) g bl)=.ok (.val (.int (x*y)) true []):=by
 have:tw x y=true:=by
  unfold tw
  rw[Bool.or_eq_true,Bool.and_eq_true,Bool.and_eq_true]
  exact .inr ⟨decide_eq_true (by omega),decide_eq_true (by omega)⟩
 show(if tw x y=true then _ else _)=_
 rw[if_pos this]
theorem BO (h:0<y):k9 (.val (.int x) f al) (.val (.int y) g bl)=.ok (.val (.int (x % y)) true []):=by
 show(if decide (0<y)=true then _ else _)=_
 rw[if_pos (decide_eq_true h)]
theorem BP (h:0<y)(h2:y<1073741824):tz (.val (.int x) f al) (.val (.int y) g bl)=.ok (.val (.int (x / y)) true []):=by
 show(if (decide (0<y)&&decide (y<1073741824))=true then _ else _)=_
 rw[if_pos (by rw[decide_eq_true h,decide_eq_true h2];rfl)]
theorem Dq:CC (.val (.int x) f al) (.val (.int y) g bl)=.ok (.val (.bl (decide (x<y))) true []):=(rfl)
theorem Ds:Da (.val (.int x) f al) (.val (.int y) g bl)=.ok (.val (.bl (decide (x<=y))) true []):=(rfl)
theorem Dt:AL (.val (.int x) f al) (.val (.int y) g bl)=.ok (.val (.bl (decide (y<=x))) true []):=(rfl)
theorem cN {a b:R}(h:a.d.dep<=50)(h2:b.d.dep<=50):d8 a b=.ok (.val (.bl (bJ a.d b.d)) true []):=by unfold d8;rw[if_pos ⟨h,h2⟩]
theorem nK {a b:R}(h:a.d.dep<=50)(h2:b.d.dep<=50):mn a b=.ok (.val (.bl (!bJ a.d b.d)) true []):=by unfold mn;rw[if_pos ⟨h,h2⟩]
theorem iz:bJ (.int x) (.int y)=(x==y):=(rfl)
noncomputable def ue (xs ys:List D)(f:Bool)(al:List Nat):Res R:=if xs.length+ys.length<=lim then .ok (kZ (xs++ys) f al) else .stuck
theorem wv:ba (.val (.lst ds) f al) (.val (.lst es) g bl)=ue ds es (f&&g) (al++bl):=(rfl)
theorem ww:ba (.val (.lst ds) f al) (.new es g)=ue ds es (f&&g) (al++[]):=(rfl)
theorem wx:ba (.new ds f) (.val (.lst es) g bl)=ue ds es (f&&g) ([]++bl):=(rfl)
theorem wy:ba (.new ds f) (.new es g)=ue ds es (f&&g) []:=(rfl)
theorem oP (h:ds.length+es.length<=1000000):ue ds es f al=.ok (kZ (ds++es) f al):=if_pos h
noncomputable def xJ (fs:En->Res (List R))(env:En)(r:R):Res (List R):=(fs env).bind (fun rs=>.ok (r::rs))
noncomputable def uf (r:R)(rs:List R):Res (List R):=.ok (r::rs)
theorem zA (env:En):ak env=.ok []:=(rfl)
theorem wz (a:En->Res R)(fs:En->Res (List R))(env:En):ad a fs env=(a env).bind (xJ fs env):=(rfl)
theorem wA (fs:En->Res (List R))(env:En)(r:R):xJ fs env r=(fs env).bind (uf r):=(rfl)
theorem ug (r:R)(rs:List R):uf r rs=.ok (r::rs):=(rfl)
noncomputable def BQ (rs:List R):Res R:=if rs.length<=lim then .ok (mkV (.tup (rs.map R.d)) (bh rs) (bu rs)) else .stuck
theorem BR (fs:En->Res (List R))(env:En):bo fs env=(fs env).bind BQ:=(rfl)
theorem zB (rs:List R)(h:rs.length<=1000000):BQ rs=.ok (mkV (.tup (rs.map R.d)) (bh rs) (bu rs)):=if_pos h
noncomputable def BS (rs:List R):Res R:=if rs.length<=lim then .ok (kZ (rs.map R.d) (bh rs) (bu rs)) else .stuck
theorem BT (fs:En->Res (List R))(env:En):bF fs env=(fs env).bind BS:=(rfl)
theorem zC (rs:List R)(h:rs.length<=1000000):BS rs=.ok (kZ (rs.map R.d) (bh rs) (bu rs)):=if_pos h
theorem uh:bh []=true:=(rfl)
theorem rT (r:R)(rs:List R):bh (r::rs)=(r.fr&&bh rs):=(rfl)
theorem ui:bu []=[]:=(rfl)
theorem rV (r:R)(rs:List R):bu (r::rs)=r.al++bu rs:=(rfl)
noncomputable def xK (F:List D->Res R)(rs:List R):Res R:=(F (rs.map R.d)).bind (fun r=>.ok (eZ rs r))
noncomputable def uj (rs:List R)(r:R):Res R:=.ok (eZ rs r)
theorem zD (F:List D->Res R)(fs:En->Res (List R))(env:En):aF F fs env=(fs env).bind (xK F):=(rfl)
theorem wB (F:List D->Res R)(rs:List R):xK F rs=(F (rs.map R.d)).bind (uj rs):=(rfl)
theorem uk (rs:List R)(r:R):uj rs r=.ok (eZ rs r):=(rfl)
theorem ul (rs:List R)(h:d.flat=true):eZ rs (.val d f al)=.val d true []:=if_pos h
theorem kq (rs:List R)(h:d.flat=false):eZ rs (.val d true al)=.fre d:=by
 show vn d true rs=_
 unfold vn;rw[if_neg (by rw[h];simp),if_pos rfl]
theorem um (rs:List R)(h:d.flat=false):eZ rs (.val d false al)=.val d (bh rs) (bu rs):=by
 show vn d false rs=_
 unfold vn;rw[if_neg (by rw[h];simp),if_neg (by simp)]
theorem uq (rs:List R)(h:D.flats ds=true):eZ rs (.new ds f)=.new ds true:=by
 show(if D.flats ds=true then _ else _)=_
 rw[if_pos h]
theorem rW (rs:List R)(h:D.flats ds=false):eZ rs (.new ds true)=.fre (.lst ds):=by
 show(if D.flats ds=true then _ else _)=_
 rw[if_neg (by rw[h];simp),if_pos rfl]
theorem Du (k:List R->Res R)(fs:En->Res (List R))(env:En):e_ k fs env=(fs env).bind k:=(rfl)
noncomputable def wC:D->Res R
 | .lst ds=>.ok (.val (.int ds.length) true [])
 | .tup ds=>.ok (.val (.int ds.length) true [])
 | .str z=>if z.length<=lim then .ok (.val (.int z.length) true []) else .stuck
 |_=>.stuck
theorem BU (r:R):cx [r]=wC r.d:=by unfold cx wC;rfl
theorem zE:wC (.lst ds)=.ok (.val (.int ds.length) true []):=(rfl)
theorem zF:wC (.tup ds)=.ok (.val (.int ds.length) true []):=(rfl)
noncomputable def kB (ra:R):Res Bool:=match ra.d with
 | .bl b=>.ok b
 |_=>.stuck
theorem Dv (a:En->Res R)(env:En):vB a env=(a env).bind kB:=(rfl)
theorem Dw (b:Bool):kB (.val (.bl b) f al)=.ok b:=(rfl)
noncomputable def zG (ra:R):Res Bool:=tru ra.d
theorem zH (a:En->Res R)(env:En):cw a env=(a env).bind zG:=(rfl)
theorem zI (b:Bool):zG (.val (.bl b) f al)=.ok b:=(rfl)
noncomputable def xL (b:Bool):Res Bool:=.ok (!b)
theorem zJ (a:En->Res Bool)(env:En):cX a env=(a env).bind xL:=(rfl)
theorem wD (b:Bool):xL b=.ok (!b):=(rfl)
noncomputable def ur (b:En->Res Bool)(env:En)(k:Bool):Res Bool:=if k then b env else .ok false
noncomputable def zK (b:En->Res Bool)(env:En)(k:Bool):Res Bool:=if k then .ok true else b env
theorem zL (a b:En->Res Bool)(env:En):rl a b env=(a env).bind (ur b env):=(rfl)
theorem BV (a b:En->Res Bool)(env:En):im a b env=(a env).bind (zK b env):=(rfl)
theorem zM (b:En->Res Bool)(env:En):ur b env true=b env:=(rfl)
theorem zN (b:En->Res Bool)(env:En):ur b env false=.ok false:=(rfl)
theorem BW (b:En->Res Bool)(env:En):zK b env true=.ok true:=(rfl)
theorem BX (b:En->Res Bool)(env:En):zK b env false=b env:=(rfl)
noncomputable def uu (b:En->Res R)(env:En)(ra:R):Res R:=match ra.d with
 | .bl true=>b env
 | .bl false=>.ok (.val (.bl false) true [])
 |_=>.stuck
theorem zO (a b:En->Res R)(env:En):tB a b env=(a env).bind (uu b env):=(rfl)
theorem wE (b:En->Res R)(env:En):uu b env (.val (.bl true) f al)=b env:=(rfl)
theorem wF (b:En->Res R)(env:En):uu b env (.val (.bl false) f al)=.ok (.val (.bl false) true []):=(rfl)
noncomputable def xM (ra:R):Res R:=match ra.d with
 | .bl b=>.ok (.val (.bl (!b)) true [])
 |_=>.stuck
theorem zP (a:En->Res R)(env:En):yT a env=(a env).bind xM:=(rfl)
theorem zQ (b:Bool):xM (.val (.bl b) f al)=.ok (.val (.bl (!b)) true []):=(rfl)
noncomputable def vo (f:Bool)(al:List Nat):Option D->Res R
 |some d=>.ok (mkV d f al)
 |none=>.stuck
noncomputable def oQ (a b:D)(f:Bool)(al:List Nat):Res R:=match a,b with
 | .lst xs,.int i=>vo f al (atI xs i)
 | .tup xs,.int i=>vo f al (atI xs i)
 | .str z,.int i=>if z.length<=lim then (match atI z.cps.toList i with
  |some c=>.ok (.val (.str ⟨#[c]⟩) true [])
  |none=>.stuck) else .stuck
 |_,_=>.stuck
theorem Dx (a b:R):j9 a b=oQ a.d b.d a.fr a.al:=by
 unfold j9 oQ vo;rfl
theorem BY {k:Int}:oQ (.lst ds) (.int k) f al=vo f al (atI ds k):=(rfl)
theorem BZ {k:Int}:oQ (.tup ds) (.int k) f al=vo f al (atI ds k):=(rfl)
theorem B0:vo f al (some d)=.ok (mkV d f al):=(rfl)
noncomputable def wG (ds:List D)(fr:Bool)(rb:R):Res R:=match rb.d with
 | .int k=>match atI ds k with
  |some d=>.ok (mkV d fr [])
  |none=>.stuck
 |_=>.stuck
noncomputable def rX (i:Nat)(fb:En->Res R)(env:En):Option (Option Sl)->Res R
 |some (some (.own ds fr))=>(fb env).bind (wG ds fr)
 |_=>v2 j9 (ah i) fb env
theorem B1 (i:Nat)(fb:En->Res R)(env:En):ay i fb env=rX i fb env env[i]?:=by unfold ay rX;rfl
theorem zR (fb:En->Res R):rX i fb env (some (some (.own ds f)))=(fb env).bind (wG ds f):=(rfl)
theorem zS (fb:En->Res R):rX i fb env (some (some (.val d f)))=v2 j9 (ah i) fb env:=(rfl)
theorem zT (fb:En->Res R):rX i fb env (some (some (.tre d)))=v2 j9 (ah i) fb env:=(rfl)
theorem zU {k:Int}:wG ds f (.val (.int k) g al)=vo f [] (atI ds k):=by unfold wG vo;rfl
theorem xB {α:Type}(a:α)(l:List α):atI (a::l) 0=some a:=by
 unfold atI mT;rw[if_pos (by omega),if_pos (by simp)];rfl
theorem Eh {α:Type}(a b:α)(l:List α):atI (a::b::l) 1=some b:=by
 unfold atI mT;rw[if_pos (by omega),if_pos (by simp;omega)];rfl
theorem Ei {α:Type}(a b c:α)(l:List α):atI (a::b::c::l) 2=some c:=by
 unfold atI mT;rw[if_pos (by omega),if_pos (by simp;omega)];rfl
theorem Ej {α:Type}(a b c d:α)(l:List α):atI (a::b::c::d::l) 3=some d:=by
 unfold atI mT;rw[if_pos (by omega),if_pos (by simp;omega)];rfl
noncomputable def kO (r:R):Res (Option Int):=match r.d with
 | .int i=>.ok (some i)
 |_=>.stuck
theorem wH (env:En):ip env=.ok none:=(rfl)
theorem wI (a:En->Res R)(env:En):gr a env=(a env).bind kO:=(rfl)
theorem Dy:kO (.val (.int x) f al)=.ok (some x):=(rfl)
noncomputable def B2 (T:String)(r:R):Res R:=.ok (.val (.bl (sC T r.d)) true [])
theorem B3 (T:String)(a:En->Res R)(env:En):fE T a env=(a env).bind (B2 T):=(rfl)
theorem zV (T:String)(r:R):B2 T r=.ok (.val (.bl (sC T r.d)) true []):=(rfl)
theorem uv:sC "int" (.int x)=true:=(rfl)
theorem zW:sC "bool" (.int x)=false:=(rfl)
theorem zX:sC "list" (.lst ds)=true:=(rfl)
theorem zY:sC "tuple" (.tup ds)=true:=(rfl)
noncomputable def B4 (asg:D->Bool->En->Option En)(body:En->Res Fl)(env:En)(s:Src):Res Fl:=bP asg s.fr body s.xs (frz env s.al)
theorem B5 (src:En->Res Src)(asg:D->Bool->En->Option En)(body:En->Res Fl)(env:En):fC src asg body env=(src env).bind (B4 asg body env):=(rfl)
theorem zZ (asg:D->Bool->En->Option En)(body:En->Res Fl)(env:En)(xs:List D):B4 asg body env ⟨xs,f,al⟩=bP asg f body xs (frz env al):=(rfl)
noncomputable def rY (r:R):Res Src:=match r.d with
 | .lst ds=>.ok ⟨ds,r.fr,r.al⟩
 | .tup ds=>.ok ⟨ds,r.fr,r.al⟩
 |_=>.stuck
theorem z9 (a:En->Res R)(env:En):fg a env=(a env).bind rY:=(rfl)
theorem uw:rY (.val (.lst ds) f al)=.ok ⟨ds,f,al⟩:=(rfl)
theorem ux:rY (.val (.tup ds) f al)=.ok ⟨ds,f,al⟩:=(rfl)
theorem wJ:rY (.new ds f)=.ok ⟨ds,f,[]⟩:=(rfl)
theorem uy:rY (.fre (.lst ds))=.ok ⟨ds,true,[]⟩:=(rfl)
theorem uz:rY (.fre (.tup ds))=.ok ⟨ds,true,[]⟩:=(rfl)
noncomputable def DY (rs:List R):Res Src:=match rs.map R.d with
 | [.int j]=>if cR j then .ok ⟨et 0 j.toNat,true,[]⟩ else .stuck
 |_=>.stuck
theorem B6 (fs:En->Res (List R))(env:En):xG fs env=(fs env).bind DY:=(rfl)
theorem B7 (h1:-4611686018427387904<=x)(h2:x<4611686018427387904):cR x=true:=by
 unfold cR;rw[Bool.and_eq_true];exact⟨decide_eq_true (by omega),decide_eq_true (by omega)⟩
theorem lR (h1:-4611686018427387904<=x)(h2:x<4611686018427387904):DY [.val (.int x) f al]=.ok ⟨et 0 x.toNat,true,[]⟩:=if_pos (B7 h1 h2)
noncomputable def pV (rs:List R):Res Src:=match rs with
 | [r]=>match r.d with
  | .lst ds=>.ok ⟨cq 0 ds,r.fr,r.al⟩
  |_=>.stuck
 |_=>.stuck
theorem wK (fs:En->Res (List R))(env:En):nz fs env=(fs env).bind pV:=(rfl)
theorem uA:pV [.val (.lst ds) f al]=.ok ⟨cq 0 ds,f,al⟩:=(rfl)
theorem uB:pV [.new ds f]=.ok ⟨cq 0 ds,f,[]⟩:=(rfl)
theorem uC:pV [.fre (.lst ds)]=.ok ⟨cq 0 ds,true,[]⟩:=(rfl)
theorem z_:frz env []=env:=(rfl)
noncomputable def uD (n:Nat)(caps:List Nat)(asg:D->Bool->En->Option En)(test:En->Res Bool)(elt:En->Res R)(env:En)(s:Src):Res R:=if s.xs.length<=lim then
 (fm (fun d=>asg d s.fr (cI env n caps)) test elt s.xs).noX.bind fun rs=>.ok (kZ (rs.map R.d) (bh rs) (s.al++caps.filter (isOwn env))) else .stuck
theorem Aa (n:Nat)(caps:List Nat)(src:En->Res Src)(asg:D->Bool->En->Option En)(test:En->Res Bool)(elt:En->Res R)(env:En) :
 cJ n caps src asg test elt env=(src env).bind (uD n caps asg test elt env):=(rfl)
theorem bK {n:Nat}{caps:List Nat}{asg:D->Bool->En->Option En}{test:En->Res Bool}{elt:En->Res R}{xs:List D}{rs:List R}(hl:xs.length<=1000000)
 (h:fm (fun d=>asg d f (cI env n caps)) test elt xs=.ok rs):uD n caps asg test elt env ⟨xs,f,al⟩=.ok (kZ (rs.map R.d) (bh rs) (al++caps.filter (isOwn env))):=by
 unfold uD;dsimp only;rw[if_pos (show xs.length<=lim from hl),h];rfl
theorem a_ {α:Type}{mk:D->Option En}{test:En->Res Bool}{elt:En->Res R}(g:α->D)(k:α->R):∀(xs:List α),(∀ a∈xs,∃ e,mk (g a)=some e/\test e=.ok true/\elt e=.ok (k a))->fm mk test elt (xs.map g)=.ok (xs.map k)
 | [],_=>rfl
 |a::r,h=>by
  obtain⟨e,h1,h2,h3⟩:=h a (by simp)
  rw[List.map_cons,List.map_cons]
  unfold fm
  rw[h1];dsimp only
  rw[h2];dsimp only[Res.bind]
  rw[if_pos rfl,h3,a_ g k r fun b hb=>h b (by simp[hb])]
noncomputable def rZ (i:Nat)(env:En)(ds:List D)(fr:Bool)(r:R):Res Fl:=if ds.length<lim/\¬ i∈r.al then .ok (.nx ((frz env r.al).set i (some (.own (ds++[r.d]) (fr&&r.fr))))) else .stuck
noncomputable def pW (i:Nat)(a:En->Res R)(env:En):Option (Option Sl)->Res Fl
 |some (some (.own ds fr))=>(a env).bind (rZ i env ds fr)
 |some (some (.tre (.lst ds)))=>(a env).bind (rZ i env ds true)
 |_=>.stuck
theorem B8 (a:En->Res R)(env:En):nw i a env=pW i a env env[i]?:=by
 unfold nw ff pW
 cases env[i]? with
 |none=>rfl
 |some o=>cases o with
  |none=>rfl
  |some s=>cases s with
   |tre d=>cases d<;>rfl
   |_=>rfl
theorem Ab (a:En->Res R):pW i a env (some (some (.own ds f)))=(a env).bind (rZ i env ds f):=(rfl)
theorem Ac (a:En->Res R):pW i a env (some (some (.tre (.lst ds))))=(a env).bind (rZ i env ds true):=(rfl)
theorem i8 {r:R}(h:ds.length<1000000)(hr:r.al=[]):rZ i env ds f r=.ok (.nx (env.set i (some (.own (ds++[r.d]) (f&&r.fr))))):=by
 unfold rZ;rw[hr];rw[if_pos ⟨h,by simp⟩];rfl
end
theorem gA (x:Int):(D.int x).flat=true:=(rfl)
theorem wL (x:Bool):(D.bl x).flat=true:=(rfl)
theorem nL (x:Str):(D.str x).flat=true:=(rfl)
theorem uE:D.non.flat=true:=(rfl)
theorem gB (ds:List D):(D.tup ds).flat=D.flats ds:=(rfl)
theorem kr (ds:List D):(D.lst ds).flat=false:=(rfl)
theorem i9:D.flats []=true:=(rfl)
theorem cO (d:D)(ds:List D):D.flats (d::ds)=(d.flat&&D.flats ds):=(rfl)
theorem pX (x:Int):(D.int x).dep=0:=(rfl)
theorem Ad (x:Bool):(D.bl x).dep=0:=(rfl)
theorem wM (x:Str):(D.str x).dep=0:=(rfl)
theorem wN:D.non.dep=0:=(rfl)
theorem mz (ds:List D):(D.tup ds).dep=D.deps ds+1:=(rfl)
theorem wO (ds:List D):(D.lst ds).dep=D.deps ds+1:=(rfl)
theorem ku:D.deps []=0:=(rfl)
theorem i_ (d:D)(ds:List D):D.deps (d::ds)=max d.dep (D.deps ds):=(rfl)
theorem Ae (r:R):fY (.ok (.rt r))=.ok r:=(rfl)
theorem Af (e:En):fY (.ok (.nx e))=.ok (.val .non true []):=(rfl)
theorem wP (d:D)(f:Bool)(al:List Nat):(R.val d f al).d=d:=(rfl)
theorem wQ (ds:List D)(f:Bool):(R.new ds f).d=.lst ds:=(rfl)
theorem wR (d:D):(R.fre d).d=d:=(rfl)
theorem uF (d:D)(f:Bool)(al:List Nat):(R.val d f al).fr=f:=(rfl)
theorem uG (ds:List D)(f:Bool):(R.new ds f).fr=f:=(rfl)
theorem uH (d:D):(R.fre d).fr=true:=(rfl)
theorem uI (d:D)(f:Bool)(al:List Nat):(R.val d f al).al=al:=(rfl)
theorem uJ (ds:List D)(f:Bool):(R.new ds f).al=[]:=(rfl)
theorem uK (d:D):(R.fre d).al=[]:=(rfl)
theorem nM {α β:Type}(a:α)(k:α->Res β):(Res.ok a).bind k=k a:=(rfl)
noncomputable def B9:D->Res R
 | .lst ds=>match dG ds with
  |some bs=>.ok (.val (.bl (bs.all id)) true [])
  |none=>.stuck
 |_=>.stuck
theorem nN (r:R):oJ [r]=B9 r.d:=by
 rcases r with⟨d,f,al⟩|⟨ds,f⟩|⟨d⟩<;>first|rfl|(cases d<;>rfl)
theorem gS {α:Type}(xs:List α):B9 (.lst (xs.map fun _=>D.bl true))=.ok (.val (.bl true) true []):=by
 have:∀ xs:List α,dG (xs.map fun _=>D.bl true)=some (xs.map fun _=>true):=by
  intro xs
  induction xs with
  |nil=>rfl
  |cons a r ih=>rw[List.map_cons];unfold dG;rw[ih];rfl
 show(match dG (xs.map fun _=>D.bl true) with|some bs=>Res.ok (R.val (D.bl (bs.all id)) true [])|none=>Res.stuck)=_
 rw[this];dsimp only
 congr 3
 rw[List.all_eq_true]
 intro x hx
 obtain⟨_,_,rfl⟩:=List.mem_map.mp hx
 rfl
theorem Ek:((0:Nat):Int)=0:=(rfl)
theorem El:((1:Nat):Int)=1:=(rfl)
theorem Em:((2:Nat):Int)=2:=(rfl)
theorem Eo:((3:Nat):Int)=3:=(rfl)
theorem Ep:((4:Nat):Int)=4:=(rfl)
theorem B_ {α β:Type}(c:Str)(k:α->Res β):(Res.exc c:Res α).bind k=.exc c:=(rfl)
theorem wS (c:Str):fY (.exc c)=.exc c:=(rfl)
noncomputable def uL (c:Str)(rs:List R):Res Fl:=if rs.length<=lim then .exc c else .stuck
theorem wT (c:Str)(fs:En->Res (List R))(env:En):kh c fs env=(fs env).bind (uL c):=(rfl)
theorem uM {c:Str}{rs:List R}(h:rs.length<=1000000):uL c rs=.exc c:=if_pos h
noncomputable def Dz:D->Res R
 | .int i=>.ok (.val (.int (-i)) true [])
 |_=>.stuck
noncomputable def Ca (r:R):Res R:=Dz r.d
theorem Cb (fa:En->Res R)(env:En):wb fa env=(fa env).bind Ca:=by
 unfold wb;congr 1
theorem Ag {x:Int}{f:Bool}{al:List Nat}:Ca (.val (.int x) f al)=.ok (.val (.int (-x)) true []):=(rfl)
theorem xN {x y:Int}{f g:Bool}{al bl:List Nat}:y9 [.val (.int x) f al,.val (.int y) g bl]=.ok (.val (.int (if y>x then y else x)) true []):=(rfl)
theorem wU:D.non.isNon=true:=(rfl)
theorem wV (x:Int):(D.int x).isNon=false:=(rfl)
theorem wW (x:List D):(D.tup x).isNon=false:=(rfl)
theorem wX (x:List D):(D.lst x).isNon=false:=(rfl)
theorem Res.noX_ok {α:Type}(a:α):(Res.ok a).noX=.ok a:=(rfl)
noncomputable def r6 (neg:Bool)(a b:D):Res R:=match b with
 | .dic ks _=>tX neg a ks
 | .lst ds=>AM neg a ds
 | .tup ds=>AM neg a ds
 |_=>.stuck
theorem xO (neg:Bool)(a b:R):rK neg a b=r6 neg a.d b.d:=by
 unfold rK oM r6
 cases b.d<;>rfl
theorem DA (a b:R):ze a b=r6 false a.d b.d:=xO false a b
theorem wY (a b:R):mx a b=r6 true a.d b.d:=xO true a b
theorem nO (ks:List DK)(ds:List D):(D.dic ks ds).flat=false:=(rfl)
noncomputable def uN (i:Nat)(a:En->Res R)(env:En):Option (Option Sl)->Res Fl
 |some (some (.own ds fr))=>(a env).bind fun r=>match r with
  | .new es f2=>if ds.length+es.length<=lim then .ok (.nx (env.set i (some (.own (ds++es) (fr&&f2))))) else .stuck
  |_=>.stuck
 |some (some (.tre (.lst ds)))=>(a env).bind fun r=>match r with
  | .new es f2=>if ds.length+es.length<=lim then .ok (.nx (env.set i (some (.own (ds++es) (true&&f2))))) else .stuck
  |_=>.stuck
 |_=>.stuck
theorem Cc (i:Nat)(a:En->Res R)(env:En):tZ i a env=uN i a env env[i]?:=by
 unfold tZ ff uN
 cases env[i]? with
 |none=>rfl
 |some o=>cases o with
  |none=>rfl
  |some s=>cases s with
   |tre d=>cases d<;>rfl
   |_=>rfl
noncomputable def Cd (i:Nat)(env:En)(ds:List D)(fr:Bool)(r:R):Res Fl:=match r with
 | .new es f2=>if ds.length+es.length<=lim then .ok (.nx (env.set i (some (.own (ds++es) (fr&&f2))))) else .stuck
 |_=>.stuck
theorem Ah {i:Nat}{a:En->Res R}{env:En}{ds:List D}{fr:Bool}:uN i a env (some (some (.own ds fr)))=(a env).bind (Cd i env ds fr):=(rfl)
theorem Ai {i:Nat}{env:En}{ds es:List D}{fr f2:Bool}(h:ds.length+es.length<=1000000):Cd i env ds fr (.new es f2)=.ok (.nx (env.set i (some (.own (ds++es) (fr&&f2))))):=if_pos h
noncomputable def DB (xs ys:List D)(f:Bool)(al:List Nat):Res R:=if xs.length+ys.length<=lim/\xs≠[] then .ok (mkV (.tup (xs++ys)) f al) else .stuck
theorem Aj {xs ys:List D}{f g:Bool}{al bl:List Nat}:ba (.val (.tup xs) f al) (.val (.tup ys) g bl)=DB xs ys (f&&g) (al++bl):=(rfl)
theorem ja {rs:List R}{d:D}(h:d.flat=false):eZ rs (.fre d)=.fre d:=by
 show vn d true rs=_
 unfold vn;rw[if_neg (by rw[h];simp),if_pos rfl]
theorem lS:∀ k:List Int,js (k.map .int)=some k
 | []=>rfl
 |a::r=>by rw[List.map_cons];unfold js;rw[lS r];rfl
theorem Ak {b:Bool}:sC "bool" (.bl b)=true:=(rfl)
theorem DC (k:En->Res Fl)(r:R)(e:En):kS k (.rm r e)=.ok (.rm r e):=(rfl)
noncomputable def xP (i:Nat)(env:En)(r:R):Res Fl:=if i<env.length then .ok (.nx ((frz env r.al).set i (some (.val r.d r.fr)))) else .stuck
theorem Al (i:Nat)(a:En->Res R)(env:En):cr i a env=(a env).bind (xP i env):=(rfl)
theorem wZ {i:Nat}{env:En}{r:R}(h:i<env.length):xP i env r=.ok (.nx ((frz env r.al).set i (some (.val r.d r.fr)))):=if_pos h
theorem uO {j:Int}{f:Bool}{al:List Nat}(h0:0<=j)(h1:j<=1000):jQ [.val (.int j) f al]=.ok (.new (et 0 j.toNat) true):=if_pos ⟨h0,h1⟩
theorem Am {ra rk:R}{ks:List DK}{ds:List D}{x:DK}{d:D}(h:ra.d=.dic ks ds)(hk:keyX rk.d=some x)(ha:ks.all (kin x)=true)(hg:getD ks ds x=some d):ki ra rk=.ok (mkV d ra.fr ra.al):=by
 unfold ki;rw[h];dsimp only;rw[hk];dsimp only;rw[if_pos ha,hg]
theorem w4 {ds:List D}{f:Bool}{al:List Nat}:zG (.val (.lst ds) f al)=.ok (!ds.isEmpty):=(rfl)
noncomputable def xQ (fl fh:En->Res (Option Int))(env:En)(r:R):Res R:=(fl env).bind fun lo=>(fh env).bind fun hi=>gw r lo hi
noncomputable def xR (fh:En->Res (Option Int))(env:En)(r:R)(lo:Option Int):Res R:=(fh env).bind fun hi=>gw r lo hi
theorem uP (fa:En->Res R)(fl fh:En->Res (Option Int))(env:En):cW fa fl fh env=(fa env).bind (xQ fl fh env):=(rfl)
theorem w6 (fl fh:En->Res (Option Int))(env:En)(r:R):xQ fl fh env r=(fl env).bind (xR fh env r):=(rfl)
theorem w8 (fh:En->Res (Option Int))(env:En)(r:R)(lo:Option Int):xR fh env r lo=(fh env).bind (gw r lo):=(rfl)
theorem w_ {ds:List D}{f:Bool}{al:List Nat}(lo hi:Option Int):gw (.val (.lst ds) f al) lo hi=.ok (kZ (eL ds lo hi) f al):=(rfl)
theorem xa {ds:List D}{f:Bool}(lo hi:Option Int):gw (.new ds f) lo hi=.ok (kZ (eL ds lo hi) f []):=(rfl)
theorem xb {ds:List D}{f:Bool}{al:List Nat}(lo hi:Option Int):gw (.val (.tup ds) f al) lo hi=.ok (mkV (.tup (eL ds lo hi)) f al):=(rfl)
theorem xc {z:Str}{f:Bool}{al:List Nat}(lo hi:Option Int)(h:z.length<=1000000):gw (.val (.str z) f al) lo hi=.ok (.val (.str (Txt.slice z lo hi)) true []):=if_pos h
theorem xf {f g:Bool}{al bl:List Nat}:wj (.val (.int 10) f al) (.val (.int 60) g bl)=.ok (.val (.int 1000000000000000000000000000000000000000000000000000000000000) true []):=(rfl)
noncomputable def Ce (i:Nat)(env:En)(s:Src):Res Fl:=if s.xs.length<=lim/\i<env.length then .ok (.nx (env.set i (some (.dis (.lst (s.xs.map fun _=>.lst [])))))) else .stuck
theorem Cf (i:Nat)(src:En->Res Src)(env:En):wl i src env=(src env).bind (Ce i env):=(rfl)
theorem An {i:Nat}{env:En}{xs:List D}{f:Bool}{al:List Nat}(h:xs.length<=1000000)(h2:i<env.length):Ce i env ⟨xs,f,al⟩=.ok (.nx (env.set i (some (.dis (.lst (xs.map fun _=>.lst [])))))):=if_pos ⟨h,h2⟩
noncomputable def kw (i:Nat)(fe fv:En->Res R)(env:En):Option (Option Sl)->Res Fl
 |some (some (.dis (.lst ds)))=>(fe env).bind (fw i fv env ds)
 |_=>.stuck
theorem uQ (i:Nat)(fe fv:En->Res R)(env:En):ir i fe fv env=kw i fe fv env env[i]?:=by unfold ir kw;rfl
theorem oR {i:Nat}{fe fv:En->Res R}{env:En}{ds:List D}:kw i fe fv env (some (some (.dis (.lst ds))))=(fe env).bind (fw i fv env ds):=(rfl)
theorem oS {i:Nat}{fv:En->Res R}{env:En}{ds:List D}{k:Int}{f:Bool}{al:List Nat}{j:Nat}{es:List D}(h:mT ds.length k=some j)(h2:ds[j]?=some (.lst es)):fw i fv env ds (.val (.int k) f al)=(fv env).bind (gz i env ds j es):=by
 show iq i fv env ds (mT ds.length k)=_
 rw[h];unfold iq;dsimp only;rw[h2]
theorem oT {i:Nat}{env:En}{ds:List D}{j:Nat}{es:List D}{r:R}(h:r.d.flat=true)(h2:es.length<1000000)(h3:ds.all gR=true):gz i env ds j es r=.ok (.nx (env.set i (some (.dis (.lst (ds.set j (.lst (es++[r.d])))))))):=if_pos ⟨h,h2,h3⟩
theorem xg (fs:En->Res (List R))(env:En):lN fs env=(fs env).bind nH:=(rfl)
theorem uR {ds es:List D}{f g:Bool}{al bl:List Nat}:nH [.val (.lst ds) f al,.val (.lst es) g bl]=.ok ⟨gb ds es,f&&g,al++bl⟩:=(rfl)
theorem uS {ds es:List D}{f g:Bool}{al bl:List Nat}:nH [.val (.tup ds) f al,.val (.tup es) g bl]=.ok ⟨gb ds es,f&&g,al++bl⟩:=(rfl)
theorem uT {i:Nat}{fb:En->Res R}{env:En}{d:D}:rX i fb env (some (some (.dis d)))=v2 j9 (ah i) fb env:=(rfl)
theorem Cg (fo fa:En->Res R)(env:En):wq fo fa env=(fo env).bind (lP fa env):=(rfl)
noncomputable def uU (fa:En->Res R)(env:En):D->Res R
 | .lst ds=>(fa env).bind (lO ds)
 |_=>.stuck
theorem xh (fa:En->Res R)(env:En)(ra:R):lP fa env ra=uU fa env ra.d:=by unfold lP uU;rfl
theorem Ci (kvs:List (Str×Int))(f:En->Res R)(env:En):wt kvs f env=(f env).bind (rR kvs):=(rfl)
theorem Ao {kvs:List (Str×Int)}{k:Str}{v:Int}{f:Bool}{al:List Nat}(h:ju kvs k=some v):rR kvs (.val (.str k) f al)=.ok (.val (.int v) true []):=by
 show(match ju kvs k with|some v=>(Res.ok (R.val (.int v) true []):Res R)|none=>.stuck)=_
 rw[h]
end L3
local macro_rules|`(tactic| simp_arith[$as,*] $[$l:location]?)=>do
 let ls←("L3.cj L3.hZ L3.Cg L3.xh L3.Ci L3.Ao L3.uT L3.wu L3.uP L3.w6 L3.w8 L3.w_ L3.xa L3.xb L3.xc L3.xf L3.Cf L3.An L3.uQ L3.oR L3.xg L3.uR L3.uS L3.DC L3.Al L3.wZ L3.BK L3.w4 decide_true decide_false List.map_cons List.map_nil List.length_cons List.length_nil List.replicate List.cons_append List.nil_append List.append_nil Nat.reduceAdd Nat.max_self Nat.zero_max Nat.max_zero Nat.zero_add Nat.reduceSub L3.ud L3.BF L3.Dp L3.BL L3.BG L3.BH L3.BI L3.BJ L3.zw L3.zx L3.gA L3.wL L3.nL L3.uE L3.gB L3.kr L3.i9 L3.cO L3.pX L3.Ad L3.wM L3.wN L3.mz L3.wO L3.ku L3.i_ L3.Eg L3.nM List.getElem?_cons_zero List.getElem?_cons_succ L3.BO L3.BP L3.BM L3.BN L3.zy Int.reduceLT Int.reduceLE Int.reduceNeg L3.zq L3.zr L3.zt L3.zu L3.Dm L3.Dn List.set_cons_zero List.set_cons_succ Nat.reduceLT Nat.reduceLeDiff L3.zo L3.Bz L3.BA L3.BB L3.BD L3.zp L3.Dq L3.Ds L3.Dt L3.iz L3.wv L3.ww L3.wx L3.wy L3.zA L3.wz L3.wA L3.ug L3.BR L3.zB L3.BT L3.zC L3.uh L3.rT L3.ui L3.rV L3.zD L3.wB L3.uk L3.ul L3.kq L3.um L3.uq L3.rW L3.Du L3.BU L3.zE L3.zF L3.Dv L3.Dw L3.zH L3.zI L3.zJ L3.wD L3.zL L3.BV L3.zM L3.zN L3.BW L3.BX L3.zO L3.wE L3.wF L3.zP L3.zQ L3.Dx L3.BY L3.BZ L3.B0 L3.B1 L3.zR L3.zS L3.zT L3.zU L3.xB L3.Eh L3.Ei L3.Ej L3.wH L3.wI L3.Dy L3.B3 L3.zV L3.uv L3.zW L3.zX L3.zY L3.B5 L3.zZ L3.z9 L3.uw L3.ux L3.wJ L3.uy L3.uz L3.B6 L3.wK L3.uA L3.uB L3.uC L3.z_ L3.wU L3.wV L3.wW L3.wX L3.B_ L3.wS L3.wT L3.uM L3.Res.noX_ok L3.Cb L3.Ag L3.xN L3.Ek L3.El L3.Em L3.Eo L3.Ep Int.reduceBEq L3.nN Bool.not_not Nat.reduceEqDiff L3.Aa L3.B8 L3.Ab L3.Ac L3.wP L3.wQ L3.wR L3.uF L3.uG L3.uH L3.uI L3.uJ L3.uK Bool.and_true Bool.true_and Bool.and_false Bool.false_and Bool.and_self Bool.not_true Bool.not_false L3.Ae L3.Af L3.bA L3.bY L3.DA L3.wY L3.nO L3.Cc L3.Ah L3.Aj L3.Ak L3.ja".splitOn " ").toArray.mapM fun s=>`(Lean.Parser.Tactic.simpLemma| $(Lean.mkIdent s.toName):ident)
 `(tactic| simp only[$[$ls:simpLemma],*,$as,*] $[$l]?)
local macro_rules|`(tactic| simp_arith $[$l:location]?)=>`(tactic| simp_arith[L3.nM] $[$l]?)
namespace L3
open PySem L2
theorem uV {α β:Type}(g:α->β)(xs:List α)(lo hi:Option Int):eL (xs.map g) lo hi=(eL xs lo hi).map g:=by
 unfold eL;rw[List.length_map,List.map_take,List.map_drop]
theorem uW {α:Type}(xs:List α)(lo hi:Option Int):(eL xs lo hi).length<=xs.length:=by
 unfold eL;rw[List.length_take,List.length_drop];omega
theorem cZ {ds:List D}:(∀ d∈ds,d.flat=true)->D.flats ds=true:=by
 induction ds with
 |nil=>intro _;rfl
 |cons d r ih=>intro h;rw[cO,h d (by simp),ih fun x hx=>h x (by simp[hx])];rfl
theorem aU {α:Type}(g:α->D)(xs:List α)(h:∀ a,(g a).flat=true):D.flats (xs.map g)=true:=
 cZ fun d hd=>by obtain⟨a,_,rfl⟩:=List.mem_map.mp hd;exact h a
theorem aX (xs:List Int):D.flats (xs.map D.int)=true:=aU _ _ gA
theorem pY {ds:List D}{n:Nat}:(∀ d∈ds,d.dep<=n)->D.deps ds<=n:=by
 induction ds with
 |nil=>intro _;rw[ku];omega
 |cons d r ih=>
  intro h
  have h1:=h d (by simp)
  have h2:=ih fun x hx=>h x (by simp[hx])
  rw[i_];omega
theorem uX {α:Type}{g:α->D}{xs:List α}{n:Nat}(h:∀ a,(g a).dep<=n):D.deps (xs.map g)<=n:=
 pY fun d hd=>by obtain⟨a,_,rfl⟩:=List.mem_map.mp hd;exact h a
theorem r8 (xs:List Int):D.deps (xs.map D.int)<=0:=uX fun _=>Nat.le_refl 0
theorem dH {α:Type}(g:α->D)(fr:Bool)(al:List Nat)(xs:List α):(xs.map fun a=>R.val (g a) fr al).map R.d=xs.map g:=by rw[List.map_map];rfl
theorem jb {α:Type}(g:α->D):∀(xs:List α)(n:Nat),cq n (xs.map g)=(xs.zipIdx n).map fun p=>.tup [.int (p.2:Nat),g p.1]
 | [],_=>rfl
 |a::r,n=>by rw[List.map_cons,List.zipIdx_cons,List.map_cons];unfold cq;rw[jb g r (n+1)]
theorem fF (n:Nat):et 0 n=(List.range n).map fun k=>.int (k:Nat):=by
 unfold et;congr 1;funext k;simp
theorem nP {α:Type}(g:α->D){asg:D->Bool->En->Option En}{fr:Bool}{body:En->Res Fl}(P:List α->En->Prop):∀(xs pre:List α)(env:En),P pre env->
 (∀(pre post:List α)(a:α)(env:En),(∀ b∈pre,b∈pre)->P pre env->a∈xs->∃ env1 env2,asg (g a) fr env=some env1/\body env1=.ok (.nx env2)/\P (pre++[a]) env2)->
 ∃ bf,bP asg fr body (xs.map g) env=.ok (.nx bf)/\P (pre++xs) bf
 | [],pre,env,h,_=>⟨env,rfl,by rw[List.append_nil];exact h⟩
 |a::r,pre,env,h,st=>by
  obtain⟨env1,env2,h1,h2,h3⟩:=st pre [] a env (fun _ z=>z) h (by simp)
  obtain⟨bf,e1,e2⟩:=nP g P r (pre++[a]) env2 h3 fun p q b e z hp hb=>st p q b e z hp (by simp[hb])
  refine⟨bf,?_,by rw[List.append_assoc]at e2;exact e2⟩
  rw[List.map_cons]
  unfold bP
  rw[h1];dsimp only
  rw[h2];exact e1
theorem dl {α:Type}(g:α->D){asg:D->Bool->En->Option En}{fr:Bool}{body:En->Res Fl}(all:List α)(P:List α->En->Prop):∀(xs pre:List α)(env:En),all=pre++xs->P pre env->
 (∀(pre post:List α)(a:α)(env:En),all=pre++a::post->P pre env->∃ env1 env2,asg (g a) fr env=some env1/\body env1=.ok (.nx env2)/\P (pre++[a]) env2)->
 ∃ bf,bP asg fr body (xs.map g) env=.ok (.nx bf)/\P all bf
 | [],pre,env,e,h,_=>⟨env,rfl,by rw[e,List.append_nil];exact h⟩
 |a::r,pre,env,e,h,st=>by
  obtain⟨env1,env2,h1,h2,h3⟩:=st pre r a env e h
  obtain⟨bf,e1,e2⟩:=dl g all P r (pre++[a]) env2 (by rw[e];simp) h3 st
  refine⟨bf,?_,e2⟩
  rw[List.map_cons]
  unfold bP
  rw[h1];dsimp only
  rw[h2];exact e1
theorem pZ {α β:Type}(g:α->β)(xs:List α)(k:Int):atI (xs.map g) k=(atI xs k).map g:=by
 unfold atI;rw[List.length_map]
 cases mT xs.length k with
 |none=>rfl
 |some j=>simp
theorem mB {α:Type}{xs:List α}{k:Int}(h0:0<=k)(h:k<xs.length):∃ a,atI xs k=some a/\xs[k.toNat]?=some a:=by
 unfold atI mT;rw[if_pos h0,if_pos h]
 have:k.toNat<xs.length:=by omega
 exact⟨xs[k.toNat],by simp[this],by simp[this]⟩
structure Rl where
 room:Int
 sign:Int
 to:Int
 put:List Int
noncomputable def Rl.d (r:Rl):D:=.tup [.int r.room,.int r.sign,.int r.to,.tup (r.put.map .int)]
end L3
namespace W
open PySem PySem.Spec PyProof.Rows L2 L3
noncomputable def top (i:Nat):Stmt:=PySem.Challenge.pw_callwalk_k55_rules_of_rows.main.body.getD i (.Pass ⟨0,0,0,0⟩)
noncomputable abbrev s__law_cell_at:Stmt:=top 18
noncomputable abbrev gC:List Str:=["_law_script", "_law_k"]
noncomputable abbrev P__law_cell_at:List Str:=["_law_script", "_law_k"]
theorem jG:FnScope gC P__law_cell_at (defScope s__law_cell_at):=⟨rfl,rfl,rfl,by decide +kernel,rfl,by decide +kernel,by decide +kernel⟩
noncomputable def dI:En->Res Fl:=
 (aD (cY (vB (v2 CC (ah 1) (e_ cx (ad (ah 0) ak)))) (aQ (v2 k9 (ay 0 (ah 1)) (v2 wj (vC (.int 10)) (vC (.int 60))))) bj)
 (aQ (vC (.int 0))))
noncomputable def bG:List D->Res R:=cj gC dI
noncomputable abbrev s__law_digit:Stmt:=top 19
noncomputable abbrev iA:List Str:=["_law_cell", "_law_prime", "_law_many"]
noncomputable abbrev P__law_digit:List Str:=["_law_cell", "_law_prime", "_law_many"]
theorem la:FnScope iA P__law_digit (defScope s__law_digit):=⟨rfl,rfl,rfl,by decide +kernel,rfl,by decide +kernel,by decide +kernel⟩
noncomputable def iB:En->Res Fl:=
 (aQ (v2 k9 (v2 k9 (v2 ba (v2 gm (v2 k9 (ah 0) (v2 wj (vC (.int 10)) (vC (.int 60)))) (vC (.int 48271))) (vC (.int 11))) (ah 1)) (ah 2)))
noncomputable def aK:List D->Res R:=cj iA iB
noncomputable abbrev s__law_names:Stmt:=top 20
noncomputable abbrev iC:List Str:=["_law_cell", "_law_others", "_law_size", "_law_base", "_law_k", "_law_spot", "_law_lot", "_law_sign", "_law_name", "_law_at"]
noncomputable abbrev P__law_names:List Str:=["_law_cell"]
theorem sc__law_names:FnScope iC P__law_names (defScope s__law_names):=⟨rfl,rfl,rfl,by decide +kernel,rfl,by decide +kernel,by decide +kernel⟩
noncomputable def cz:En->Res Fl:=fun env=>
 (bN 3 (v2 ba (ah 3) (v2 j9 (vC (.str "abcdefghijklmnopqrstuvwxyz")) (aF aK (ad (v2 ba (ah 0) (v2 gm (v2 gm (vC (.int 5)) (ah 4)) (ah 4))) (ad (vC (.int 1093)) (ad (vC (.int 26)) ak))))))) env
noncomputable def bH:En->Res Fl:=fun env=>
 (aD (bN 7 (v2 j9 (vC (.str "bcdefghjklopqrstuvwxyz")) (v2 k9 (v2 ba (ah 0) (v2 gm (ah 4) (v2 ba (vC (.int 1)) (v2 k9 (v2 tz (ah 0) (vC (.int 22))) (vC (.int 7)))))) (vC (.int 22)))))
 (aD (bN 8 (v2 ba (v2 ba (cW (ah 3) ip (gr (ah 5))) (ah 7)) (cW (ah 3) (gr (v2 ba (ah 5) (vC (.int 1)))) ip)))
 (aD (cY (vB (v2 d8 (ah 6) (vC (.int 2)))) (bN 8 (v2 ba (vC (.str "main")) (ah 7))) bj)
 (aD (cY (vB (v2 d8 (ah 6) (vC (.int 3)))) (bN 8 (cW (vC (.str "main")) ip (gr (v2 ba (vC (.int 1)) (ah 4))))) bj)
 (nw 1 (ah 8)))))) env
noncomputable def iD:En->Res Fl:=
 (aD (bN 1 (bF ak))
 (aD (bN 2 (v2 ba (vC (.int 1)) (aF aK (ad (ah 0) (ad (vC (.int 1063)) (ad (vC (.int 8)) ak))))))
 (aD (bN 3 (vC (.str "")))
 (aD (fC (xG (ad (ah 2) ak)) (gN 4) cz)
 (aD (cr 5 (aF aK (ad (ah 0) (ad (vC (.int 1069)) (ad (ah 2) ak)))))
 (aD (cr 6 (aF aK (ad (ah 0) (ad (vC (.int 1087)) (ad (vC (.int 4)) ak)))))
 (aD (fC (xG (ad (aF aK (ad (ah 0) (ad (vC (.int 1061)) (ad (vC (.int 4)) ak)))) ak)) (gN 4) bH)
 (aD (cr 9 (aF aK (ad (ah 0) (ad (vC (.int 1091)) (ad (v2 ba (e_ cx (ad (ah 1) ak)) (vC (.int 1))) ak)))))
 (aQ (v2 ba (v2 ba (cW (ah 1) ip (gr (ah 9))) (bF (ad (vC (.str "main")) ak))) (cW (ah 1) (gr (ah 9)) ip)))))))))))
noncomputable def dn:List D->Res R:=cj iC iD
noncomputable abbrev s__law_row:Stmt:=top 21
noncomputable abbrev ky:List Str:=["_law_cell", "_law_values", "_law_many", "_law_names_here", "_law_last", "_law_lot", "_law_side", "_law_which", "_law_number", "_law_goal"]
noncomputable abbrev P__law_row:List Str:=["_law_cell", "_law_values", "_law_many", "_law_names_here", "_law_last"]
theorem sc__law_row:FnScope ky P__law_row (defScope s__law_row):=⟨rfl,rfl,rfl,by decide +kernel,rfl,by decide +kernel,by decide +kernel⟩
noncomputable def lb:En->Res Fl:=fun env=>
 (aQ (bo (ad (vC (.str "skip")) ak))) env
noncomputable def lc:En->Res Fl:=fun env=>
 (aD (cY (vB (v2 AL (ah 5) (vC (.int 10)))) (aQ (bo (ad (v2 j9 (bF (ad (vC (.str "back")) (ad (vC (.str "stop")) ak))) (v2 nr (ah 5) (vC (.int 10)))) ak))) bj)
 lb) env
noncomputable def ld:En->Res Fl:=fun env=>
 (aD (cY (rl (vB (v2 AL (ah 5) (vC (.int 7)))) (vB (v2 Da (ah 5) (vC (.int 9))))) (aQ (bo (ad (v2 j9 (bF (ad (vC (.str "go")) (ad (vC (.str "fork")) (ad (vC (.str "fork")) ak)))) (v2 nr (ah 5) (vC (.int 7)))) (ad (ah 9) ak)))) bj)
 lc) env
noncomputable def le:En->Res Fl:=fun env=>
 (aD (cY (im (vB (v2 d8 (ah 5) (vC (.int 5)))) (vB (v2 d8 (ah 5) (vC (.int 6))))) (aQ (bo (ad (vC (.str "if")) (ad (ah 7) (ad (ah 8) (ad (ah 9) ak)))))) bj)
 ld) env
noncomputable def mC:En->Res Fl:=fun env=>
 (aD (cY (im (vB (v2 d8 (ah 5) (vC (.int 3)))) (vB (v2 d8 (ah 5) (vC (.int 4))))) (aQ (bo (ad (v2 j9 (bF (ad (vC (.str "any")) (ad (vC (.str "turn")) ak))) (v2 nr (ah 5) (vC (.int 3)))) (ad (ah 7) ak)))) bj)
 le) env
noncomputable def mE:En->Res Fl:=fun env=>
 (aD (cY (im (vB (v2 d8 (ah 5) (vC (.int 1)))) (vB (v2 d8 (ah 5) (vC (.int 2))))) (aQ (bo (ad (vC (.str "set")) (ad (ah 7) (ad (ah 8) ak))))) bj)
 mC) env
noncomputable def fG:En->Res Fl:=fun env=>
 (aD (cY (vB (v2 AL (ah 5) (vC (.int 12)))) (aQ (bo (ad (vC (.str "call")) (ad (ay 3 (aF aK (ad (ah 0) (ad (vC (.int 1031)) (ad (e_ cx (ad (ah 3) ak)) ak))))) ak)))) bj)
 mE) env
noncomputable def fH:En->Res Fl:=fun env=>
 (aD (cr 9 (aF aK (ad (ah 0) (ad (vC (.int 1021)) (ad (ah 2) ak)))))
 fG) env
noncomputable def fJ:En->Res Fl:=fun env=>
 (aD (cr 8 (aF aK (ad (ah 0) (ad (vC (.int 1019)) (ad (ay 1 (ah 6)) ak)))))
 fH) env
noncomputable def fK:En->Res Fl:=fun env=>
 (aD (bN 7 (v2 j9 (bF (ad (vC (.str "shared")) (ad (vC (.str "own")) ak))) (ah 6)))
 fJ) env
noncomputable def dq:En->Res Fl:=fun env=>
 (aD (cr 6 (aF aK (ad (ah 0) (ad (vC (.int 1013)) (ad (vC (.int 2)) ak)))))
 fK) env
noncomputable def fL:En->Res Fl:=fun env=>
 (aD (cY (cw (ah 4)) (bN 5 (v2 j9 (bF (ad (vC (.int 7)) (ad (vC (.int 10)) (ad (vC (.int 11)) ak)))) (aF aK (ad (ah 0) (ad (vC (.int 1009)) (ad (vC (.int 3)) ak)))))) bj)
 dq) env
noncomputable def h7:En->Res Fl:=
 (aD (cr 5 (aF aK (ad (ah 0) (ad (vC (.int 1009)) (ad (vC (.int 14)) ak)))))
 fL)
noncomputable def dJ:List D->Res R:=cj ky h7
noncomputable abbrev s__law_program:Stmt:=top 22
noncomputable abbrev dL:List Str:=["_law_cells", "_law_values", "_law_names_here", "_law_seed", "_law_dealt", "_law_cell", "_law_procedures", "_law_k", "_law_name", "_law_own", "_law_rows", "_law_at"]
noncomputable abbrev P__law_program:List Str:=["_law_cells", "_law_values", "_law_names_here", "_law_seed"]
theorem sc__law_program:FnScope dL P__law_program (defScope s__law_program):=⟨rfl,rfl,rfl,by decide +kernel,rfl,by decide +kernel,by decide +kernel⟩
theorem h8:((["_law_name"]:List Str)++([]:List Str)).Nodup:=by decide +kernel
noncomputable def bZ:En->Res Fl:=fun env=>
 (ir 4 (aF aK (ad (ah 5) (ad (vC (.int 1051)) (ad (e_ cx (ad (ah 2) ak)) ak)))) (ah 5)) env
noncomputable def b0:En->Res Fl:=fun env=>
 (nw 10 (aF dJ (ad (ah 5) (ad (ah 1) (ad (e_ cx (ad (ah 9) ak)) (ad (ah 2) (ad (v2 d8 (ah 11) (v2 nr (e_ cx (ad (ah 9) ak)) (vC (.int 1)))) ak))))))) env
noncomputable def b5:En->Res Fl:=fun env=>
 (aD (bN 9 (v2 ba (ay 4 (ah 7)) (bF (ad (v2 ba (ah 3) (v2 gm (v2 gm (vC (.int 7)) (ah 7)) (ah 7))) ak))))
 (aD (bN 10 (bF ak))
 (aD (fC (nz (ad (ah 9) ak)) (gT 2 (aE (gN 11) (aE (gN 5) bO))) b0)
 (nw 6 (bo (ad (ah 8) (ad (ah 10) ak))))))) env
noncomputable def gD:En->Res Fl:=
 (aD (wl 4 (fg (ah 2)))
 (aD (fC (fg (ah 0)) (gN 5) bZ)
 (aD (bN 6 (bF ak))
 (aD (fC (nz (ad (ah 2) ak)) (gT 2 (aE (gN 7) (aE (gN 8) bO))) b5)
 (aQ (bo (ad (ay 1 (vC (.int 0))) (ad (ay 1 (vC (.int 1))) (ad (ah 6) ak)))))))))
noncomputable def cA:List D->Res R:=cj dL gD
noncomputable abbrev s__law_made:Stmt:=top 23
noncomputable abbrev jv:List Str:=["_law_script", "_law_room", "_law_cell", "_law_values", "_law_names_here", "_law_most"]
noncomputable abbrev P__law_made:List Str:=["_law_script", "_law_room"]
theorem sc__law_made:FnScope jv P__law_made (defScope s__law_made):=⟨rfl,rfl,rfl,by decide +kernel,rfl,by decide +kernel,by decide +kernel⟩
noncomputable def jw:En->Res Fl:=
 (aD (cr 2 (aF bG (ad (ah 0) (ad (vC (.int 0)) ak))))
 (aD (bN 3 (bF (ad (v2 ba (vC (.int 1)) (aF aK (ad (ah 2) (ad (vC (.int 1033)) (ad (vC (.int 4)) ak))))) (ad (v2 ba (vC (.int 1)) (aF aK (ad (ah 2) (ad (vC (.int 1039)) (ad (vC (.int 4)) ak))))) ak))))
 (aD (cr 4 (aF dn (ad (aF bG (ad (ah 0) (ad (vC (.int 1)) ak))) ak)))
 (aD (bN 5 (e_ y9 (ad (vC (.int 2)) (ad (v2 nr (v2 tz (ah 1) (v2 gm (ay 3 (vC (.int 0))) (ay 3 (vC (.int 1))))) (vC (.int 4))) ak))))
 (aQ (aF cA (ad (cW (ah 0) (gr (vC (.int 2))) (gr (v2 ba (vC (.int 2)) (ah 5)))) (ad (ah 3) (ad (ah 4) (ad (ah 2) ak))))))))))
noncomputable def c7:List D->Res R:=cj jv jw
noncomputable abbrev s__law_whole:Stmt:=top 24
noncomputable abbrev iE:List Str:=["_law_found"]
noncomputable abbrev P__law_whole:List Str:=["_law_found"]
theorem lf:FnScope iE P__law_whole (defScope s__law_whole):=⟨rfl,rfl,rfl,by decide +kernel,rfl,by decide +kernel,by decide +kernel⟩
noncomputable def iF:En->Res Fl:=
 (aQ (tB (fE "int" (ah 0)) (yT (fE "bool" (ah 0)))))
noncomputable def aR:List D->Res R:=cj iE iF
noncomputable abbrev s__law_rule_same:Stmt:=top 32
noncomputable abbrev cP:List Str:=["_law_found", "_law_due"]
noncomputable abbrev P__law_rule_same:List Str:=["_law_found", "_law_due"]
theorem iG:FnScope cP P__law_rule_same (defScope s__law_rule_same):=⟨rfl,rfl,rfl,by decide +kernel,rfl,by decide +kernel,by decide +kernel⟩
theorem gE:((["_law_sign"]:List Str)++([]:List Str)).Nodup:=by decide +kernel
noncomputable def cm:En->Res R:=fun env=>
 (aF aR (ad (ah 0) ak)) env
noncomputable def fy:En->Res Fl:=
 (aD (cY (im (cX (cw (fE "tuple" (ah 0)))) (im (vB (v2 mn (e_ cx (ad (ah 0) ak)) (vC (.int 4)))) (cX (cw (fE "tuple" (ay 0 (vC (.int 3)))))))) (aQ (vC (.bl false))) bj)
 (aD (cY (im (cX (cw (aF aR (ad (ay 0 (vC (.int 0))) ak)))) (im (cX (cw (aF aR (ad (ay 0 (vC (.int 1))) ak)))) (cX (cw (aF aR (ad (ay 0 (vC (.int 2))) ak)))))) (aQ (vC (.bl false))) bj)
 (aQ (tB (e_ oJ (ad (cJ 1 [] (fg (ay 0 (vC (.int 3)))) (gN 0) (fun _=>.ok true) cm) ak)) (v2 d8 (ah 0) (ah 1))))))
noncomputable def b6:List D->Res R:=cj cP fy
noncomputable abbrev s__law_house_same:Stmt:=top 33
noncomputable abbrev bU:List Str:=["_law_found", "_law_program_here", "_law_rules_here", "_law_count"]
noncomputable abbrev P__law_house_same:List Str:=["_law_found", "_law_program_here", "_law_rules_here"]
theorem sc__law_house_same:FnScope bU P__law_house_same (defScope s__law_house_same):=⟨rfl,rfl,rfl,by decide +kernel,rfl,by decide +kernel,by decide +kernel⟩
theorem cK:((["_law_name", "_law_rows"]:List Str)++([]:List Str)).Nodup:=by decide +kernel
theorem cL:((["_law_one", "_law_rule"]:List Str)++([]:List Str)).Nodup:=by decide +kernel
noncomputable def ca:En->Res R:=fun env=>
 (e_ cx (ad (ah 1) ak)) env
noncomputable def cb:En->Res R:=fun env=>
 (aF b6 (ad (ah 0) (ad (ah 1) ak))) env
noncomputable def eB:En->Res Fl:=
 (aD (cY (im (cX (cw (fE "tuple" (ah 0)))) (im (vB (v2 mn (e_ cx (ad (ah 0) ak)) (vC (.int 3)))) (cX (cw (fE "list" (ay 0 (vC (.int 2)))))))) (aQ (vC (.bl false))) bj)
 (aD (cY (im (cX (cw (aF aR (ad (ay 0 (vC (.int 0))) ak)))) (im (cX (cw (aF aR (ad (ay 0 (vC (.int 1))) ak)))) (vB (v2 mn (ay 0 (vC (.int 0))) (ay 1 (vC (.int 0))))))) (aQ (vC (.bl false))) bj)
 (aD (bN 3 (e_ t7 (ad (cJ 2 [] (fg (ay 1 (vC (.int 2)))) (gT 2 (aE (gN 0) (aE (gN 1) bO))) (fun _=>.ok true) ca) ak)))
 (aD (cY (im (vB (v2 mn (ay 0 (vC (.int 1))) (v2 gm (ay 1 (vC (.int 1))) (ah 3)))) (vB (v2 mn (e_ cx (ad (ay 0 (vC (.int 2))) ak)) (e_ cx (ad (ah 2) ak))))) (aQ (vC (.bl false))) bj)
 (aQ (e_ oJ (ad (cJ 2 [] (lN (ad (ay 0 (vC (.int 2))) (ad (ah 2) ak))) (gT 2 (aE (gN 0) (aE (gN 1) bO))) (fun _=>.ok true) cb) ak)))))))
noncomputable def bV:List D->Res R:=cj bU eB
noncomputable abbrev s_point_of:Stmt:=top 6
noncomputable abbrev kz:List Str:=["program", "name", "row", "first", "other", "rows"]
noncomputable abbrev P_point_of:List Str:=["program", "name", "row"]
theorem sc_point_of:FnScope kz P_point_of (defScope s_point_of):=⟨rfl,rfl,rfl,by decide +kernel,rfl,by decide +kernel,by decide +kernel⟩
noncomputable def cB:En->Res Fl:=fun env=>
 (aD (cY (vB (v2 d8 (ah 4) (ah 1))) (aD (cY (im (vB (v2 CC (ah 2) (vC (.int 0)))) (vB (v2 AL (ah 2) (e_ cx (ad (ah 5) ak))))) (kh "NoRow" (ad (vC (.str "the procedure has no row of this number")) ak)) bj)
 (aQ (v2 ba (ah 3) (ah 2)))) bj)
 (bN 3 (v2 ba (ah 3) (e_ cx (ad (ah 5) ak))))) env
noncomputable def kA:En->Res Fl:=
 (aD (bN 3 (vC (.int 0)))
 (aD (fC (fg (ay 0 (vC (.int 2)))) (gT 2 (aE (gN 4) (aE (gN 5) bO))) cB)
 (kh "NoName" (ad (vC (.str "no procedure has this name")) ak))))
noncomputable def dM:List D->Res R:=cj kz kA
noncomputable abbrev s_first_points:Stmt:=top 8
noncomputable abbrev dN:List Str:=["program"]
noncomputable abbrev P_first_points:List Str:=["program"]
theorem jH:FnScope dN P_first_points (defScope s_first_points):=⟨rfl,rfl,rfl,by decide +kernel,rfl,by decide +kernel,by decide +kernel⟩
theorem dO:((["name", "rows"]:List Str)++(["program"]:List Str)).Nodup:=by decide +kernel
noncomputable def cQ:En->Res R:=fun env=>
 (bo (ad (ah 0) (ad (aF dM (ad (ah 2) (ad (ah 0) (ad (vC (.int 0)) ak)))) ak))) env
noncomputable def gF:En->Res Fl:=
 (aQ (e_ kj (ad (cJ 2 [0] (fg (ay 0 (vC (.int 2)))) (gT 2 (aE (gN 0) (aE (gN 1) bO))) (fun _=>.ok true) cQ) ak)))
noncomputable def cC:List D->Res R:=cj dN gF
noncomputable abbrev s_sign_of:Stmt:=top 7
noncomputable abbrev lT:List Str:=["program", "point", "own"]
noncomputable abbrev P_sign_of:List Str:=["program", "point", "own"]
theorem oU:FnScope lT P_sign_of (defScope s_sign_of):=⟨rfl,rfl,rfl,by decide +kernel,rfl,by decide +kernel,by decide +kernel⟩
noncomputable def lU:En->Res Fl:=
 (aQ (v2 ba (v2 gm (ah 1) (ay 0 (vC (.int 1)))) (ah 2)))
noncomputable def b7:List D->Res R:=cj lT lU
noncomputable abbrev s_rows_behind:Stmt:=top 10
noncomputable abbrev g_:List Str:=["row", "place", "values"]
noncomputable abbrev P_rows_behind:List Str:=["row", "place", "values"]
theorem kC:FnScope g_ P_rows_behind (defScope s_rows_behind):=⟨rfl,rfl,rfl,by decide +kernel,rfl,by decide +kernel,by decide +kernel⟩
noncomputable def eM:En->Res Fl:=
 (aD (cY (vB (v2 d8 (ay 0 (vC (.int 0))) (vC (.str "go")))) (aQ (bF (ad (ay 0 (vC (.int 1))) ak))) bj)
 (aD (cY (vB (v2 d8 (ay 0 (vC (.int 0))) (vC (.str "fork")))) (aQ (bF (ad (v2 ba (ah 1) (vC (.int 1))) (ad (ay 0 (vC (.int 1))) ak)))) bj)
 (aD (cY (rl (vB (v2 d8 (ay 0 (vC (.int 0))) (vC (.str "if")))) (vB (v2 d8 (ay 2 (wt [("shared",0),("own",1)] (ay 0 (vC (.int 1))))) (ay 0 (vC (.int 2)))))) (aQ (bF (ad (ay 0 (vC (.int 3))) ak))) bj)
 (aQ (bF (ad (v2 ba (ah 1) (vC (.int 1))) ak))))))
noncomputable def cc:List D->Res R:=cj g_ eM
noncomputable abbrev s_values_made:Stmt:=top 9
noncomputable abbrev hG:List Str:=["row", "value", "count"]
noncomputable abbrev P_values_made:List Str:=["row", "value", "count"]
theorem kD:FnScope hG P_values_made (defScope s_values_made):=⟨rfl,rfl,rfl,by decide +kernel,rfl,by decide +kernel,by decide +kernel⟩
noncomputable def eO:En->Res Fl:=
 (aD (cY (vB (v2 d8 (ay 0 (vC (.int 0))) (vC (.str "set")))) (aQ (bF (ad (ay 0 (vC (.int 2))) ak))) bj)
 (aD (cY (vB (v2 d8 (ay 0 (vC (.int 0))) (vC (.str "turn")))) (aQ (bF (ad (v2 k9 (v2 ba (ah 1) (vC (.int 1))) (ah 2)) ak))) bj)
 (aQ (e_ jQ (ad (ah 2) ak)))))
noncomputable def ce:List D->Res R:=cj hG eO
noncomputable abbrev s_changed:Stmt:=top 11
noncomputable abbrev lV:List Str:=["values", "which", "value"]
noncomputable abbrev P_changed:List Str:=["values", "which", "value"]
theorem oV:FnScope lV P_changed (defScope s_changed):=⟨rfl,rfl,rfl,by decide +kernel,rfl,by decide +kernel,by decide +kernel⟩
noncomputable def jc:En->Res Fl:=
 (aQ (CD (vB (v2 d8 (ah 1) (vC (.int 0)))) (bo (ad (ah 2) (ad (ay 0 (vC (.int 1))) ak))) (bo (ad (ay 0 (vC (.int 0))) (ad (ah 2) ak)))))
noncomputable def dC:List D->Res R:=cj lV jc
noncomputable abbrev s_goes_on:Stmt:=top 12
noncomputable abbrev gU:List Str:=["program", "row", "place", "values", "which", "made"]
noncomputable abbrev P_goes_on:List Str:=["program", "row", "place", "values"]
theorem sc_goes_on:FnScope gU P_goes_on (defScope s_goes_on):=⟨rfl,rfl,rfl,by decide +kernel,rfl,by decide +kernel,by decide +kernel⟩
theorem lg:((["other"]:List Str)++(["values"]:List Str)).Nodup:=by decide +kernel
theorem lh:((["value"]:List Str)++(["place", "values", "which"]:List Str)).Nodup:=by decide +kernel
noncomputable def gG:En->Res R:=fun env=>
 (bo (ad (ah 0) (ad (ah 1) ak))) env
noncomputable def c8:En->Res R:=fun env=>
 (bo (ad (v2 ba (ah 1) (vC (.int 1))) (ad (aF dC (ad (ah 2) (ad (ah 3) (ad (ah 0) ak)))) ak))) env
noncomputable def gW:En->Res Fl:=
 (aD (cY (vB (v2 mx (ay 1 (vC (.int 0))) (bo (ad (vC (.str "set")) (ad (vC (.str "any")) (ad (vC (.str "turn")) ak)))))) (aQ (cJ 1 [3] (fg (aF cc (ad (ah 1) (ad (ah 2) (ad (ah 3) ak))))) (gN 0) (fun _=>.ok true) gG)) bj)
 (aD (bN 4 (wt [("shared",0),("own",1)] (ay 1 (vC (.int 1)))))
 (aD (cr 5 (aF ce (ad (ah 1) (ad (ay 3 (ah 4)) (ad (ay 0 (ah 4)) ak)))))
 (aQ (cJ 1 [2,3,4] (fg (ah 5)) (gN 0) (fun _=>.ok true) c8)))))
noncomputable def dD:List D->Res R:=cj gU gW
noncomputable abbrev s_leads_to:Stmt:=top 13
noncomputable abbrev h9:List Str:=["program", "firsts", "first", "row", "place", "values", "called", "ahead"]
noncomputable abbrev P_leads_to:List Str:=["program", "firsts", "first", "row", "place", "values"]
theorem sc_leads_to:FnScope h9 P_leads_to (defScope s_leads_to):=⟨rfl,rfl,rfl,by decide +kernel,rfl,by decide +kernel,by decide +kernel⟩
theorem gH:((["other", "there"]:List Str)++(["program", "first"]:List Str)).Nodup:=by decide +kernel
noncomputable def fM:En->Res R:=fun env=>
 (bo (ad (ay 1 (vC (.int 0))) (ad (bo (ad (aF b7 (ad (ah 2) (ad (v2 ba (ah 3) (ah 0)) (ad (ay 1 (vC (.int 1))) ak)))) ak)) ak))) env
noncomputable def h_:En->Res Fl:=
 (aD (cY (vB (v2 d8 (ay 3 (vC (.int 0))) (vC (.str "stop")))) (aQ (bF ak)) bj)
 (aD (cY (vB (v2 d8 (ay 3 (vC (.int 0))) (vC (.str "back")))) (aQ (bF (ad (bo (ad (ay 5 (vC (.int 0))) (ad (bo ak) ak))) ak))) bj)
 (aD (cY (vB (v2 d8 (ay 3 (vC (.int 0))) (vC (.str "call")))) (aD (cr 6 (aF b7 (ad (ah 0) (ad (v2 ki (ah 1) (ay 3 (vC (.int 1)))) (ad (ay 5 (vC (.int 1))) ak)))))
 (aQ (bF (ad (bo (ad (ay 5 (vC (.int 0))) (ad (bo (ad (ah 6) (ad (aF b7 (ad (ah 0) (ad (v2 ba (v2 ba (ah 2) (ah 4)) (vC (.int 1))) (ad (ay 5 (vC (.int 1))) ak)))) ak))) ak))) ak)))) bj)
 (aD (cr 7 (aF dD (ad (ah 0) (ad (ah 3) (ad (ah 4) (ad (ah 5) ak))))))
 (aQ (cJ 2 [0,2] (fg (ah 7)) (gT 2 (aE (gN 0) (aE (gN 1) bO))) (fun _=>.ok true) fM))))))
noncomputable def dP:List D->Res R:=cj h9 h_
noncomputable abbrev s_rules_at:Stmt:=top 14
noncomputable abbrev ia:List Str:=["program", "firsts", "first", "row", "place", "rules", "own", "sign", "shared", "ahead"]
noncomputable abbrev P_rules_at:List Str:=["program", "firsts", "first", "row", "place"]
theorem sc_rules_at:FnScope ia P_rules_at (defScope s_rules_at):=⟨rfl,rfl,rfl,by decide +kernel,rfl,by decide +kernel,by decide +kernel⟩
theorem gI:((["room", "put"]:List Str)++(["sign", "shared"]:List Str)).Nodup:=by decide +kernel
noncomputable def fN:En->Res R:=fun env=>
 (bo (ad (ah 3) (ad (ah 2) (ad (ah 0) (ad (ah 1) ak))))) env
noncomputable def dr:En->Res Fl:=fun env=>
 (aD (cr 9 (aF dP (ad (ah 0) (ad (ah 1) (ad (ah 2) (ad (ah 3) (ad (ah 4) (ad (bo (ad (ah 8) (ad (ah 6) ak))) ak))))))))
 (tZ 5 (cJ 2 [7,8] (fg (ah 9)) (gT 2 (aE (gN 0) (aE (gN 1) bO))) (fun _=>.ok true) fN))) env
noncomputable def fP:En->Res Fl:=fun env=>
 (aD (cr 7 (aF b7 (ad (ah 0) (ad (v2 ba (ah 2) (ah 4)) (ad (ah 6) ak)))))
 (fC (xG (ad (ay 0 (vC (.int 0))) ak)) (gN 8) dr)) env
noncomputable def kE:En->Res Fl:=
 (aD (bN 5 (bF ak))
 (aD (fC (xG (ad (ay 0 (vC (.int 1))) ak)) (gN 6) fP)
 (aQ (ah 5))))
noncomputable def fQ:List D->Res R:=cj ia kE
noncomputable abbrev s_house_of:Stmt:=top 15
noncomputable abbrev ib:List Str:=["program", "firsts", "rules", "name", "rows", "place", "row", "points"]
noncomputable abbrev P_house_of:List Str:=["program"]
theorem sc_house_of:FnScope ib P_house_of (defScope s_house_of):=⟨rfl,rfl,rfl,by decide +kernel,rfl,by decide +kernel,by decide +kernel⟩
theorem gJ:((["name", "rows"]:List Str)++([]:List Str)).Nodup:=by decide +kernel
noncomputable def dt:En->Res Fl:=fun env=>
 (nJ 2 (aF fQ (ad (ah 0) (ad (ah 1) (ad (v2 ki (ah 1) (ah 3)) (ad (ah 6) (ad (ah 5) ak))))))) env
noncomputable def dv:En->Res Fl:=fun env=>
 (fC (nz (ad (ah 4) ak)) (gT 2 (aE (gN 5) (aE (gN 6) bO))) dt) env
noncomputable def fR:En->Res R:=fun env=>
 (e_ cx (ad (ah 1) ak)) env
noncomputable def kF:En->Res Fl:=
 (aD (cr 1 (aF cC (ad (ah 0) ak)))
 (aD (bN 2 (bF ak))
 (aD (fC (fg (ay 0 (vC (.int 2)))) (gT 2 (aE (gN 3) (aE (gN 4) bO))) dv)
 (aD (bN 7 (e_ t7 (ad (cJ 2 [] (fg (ay 0 (vC (.int 2)))) (gT 2 (aE (gN 0) (aE (gN 1) bO))) (fun _=>.ok true) fR) ak)))
 (aQ (bo (ad (ay 0 (vC (.int 0))) (ad (aF b7 (ad (ah 0) (ad (ah 7) (ad (vC (.int 0)) ak)))) (ad (ah 2) ak)))))))))
noncomputable def fS:List D->Res R:=cj ib kF
noncomputable abbrev s__law_first:Stmt:=top 28
noncomputable abbrev iH:List Str:=["_law_program_here", "_law_name", "_law_count", "_law_known", "_law_rows"]
noncomputable abbrev P__law_first:List Str:=["_law_program_here", "_law_name"]
theorem sc__law_first:FnScope iH P__law_first (defScope s__law_first):=⟨rfl,rfl,rfl,by decide +kernel,rfl,by decide +kernel,by decide +kernel⟩
noncomputable def bI:En->Res Fl:=fun env=>
 (aD (cY (vB (v2 d8 (ah 3) (ah 1))) (aQ (ah 2)) bj)
 (bN 2 (v2 ba (ah 2) (e_ cx (ad (ah 4) ak))))) env
noncomputable def fT:En->Res Fl:=
 (aD (bN 2 (vC (.int 0)))
 (aD (fC (fg (ay 0 (vC (.int 2)))) (gT 2 (aE (gN 3) (aE (gN 4) bO))) bI)
 (aQ (ah 2))))
noncomputable def bL:List D->Res R:=cj iH fT
noncomputable abbrev s__law_behind:Stmt:=top 29
noncomputable abbrev eQ:List Str:=["_law_row_here", "_law_now", "_law_many"]
noncomputable abbrev P__law_behind:List Str:=["_law_row_here", "_law_now", "_law_many"]
theorem kG:FnScope eQ P__law_behind (defScope s__law_behind):=⟨rfl,rfl,rfl,by decide +kernel,rfl,by decide +kernel,by decide +kernel⟩
theorem iI:((["_law_value"]:List Str)++([]:List Str)).Nodup:=by decide +kernel
noncomputable def dc:En->Res R:=fun env=>
 (ah 0) env
noncomputable def eR:En->Res Fl:=
 (aD (cY (vB (v2 d8 (ay 0 (vC (.int 0))) (vC (.str "set")))) (aQ (bF (ad (ay 0 (vC (.int 2))) ak))) bj)
 (aD (cY (vB (v2 d8 (ay 0 (vC (.int 0))) (vC (.str "turn")))) (aQ (bF (ad (v2 j9 (bF (ad (v2 ba (ah 1) (vC (.int 1))) (ad (vC (.int 0)) ak))) (e_ oK (ad (v2 d8 (ah 1) (v2 nr (ah 2) (vC (.int 1)))) ak))) ak))) bj)
 (aQ (cJ 1 [] (xG (ad (ah 2) ak)) (gN 0) (fun _=>.ok true) dc))))
noncomputable def bR:List D->Res R:=cj eQ eR
noncomputable abbrev s__law_moves:Stmt:=top 30
noncomputable abbrev dw:List Str:=["_law_program_here", "_law_name", "_law_row_here", "_law_at", "_law_pair", "_law_owns", "_law_shared", "_law_own", "_law_after", "_law_there", "_law_side"]
noncomputable abbrev P__law_moves:List Str:=["_law_program_here", "_law_name", "_law_row_here", "_law_at", "_law_pair"]
theorem sc__law_moves:FnScope dw P__law_moves (defScope s__law_moves):=⟨rfl,rfl,rfl,by decide +kernel,rfl,by decide +kernel,by decide +kernel⟩
theorem jd:((["_law_value"]:List Str)++(["_law_own", "_law_after"]:List Str)).Nodup:=by decide +kernel
theorem je:((["_law_value"]:List Str)++(["_law_shared", "_law_after"]:List Str)).Nodup:=by decide +kernel
noncomputable def dQ:En->Res R:=fun env=>
 (bo (ad (ah 0) (ad (bo (ad (v2 ba (ah 2) (ah 1)) ak)) ak))) env
noncomputable def dR:En->Res R:=fun env=>
 (bo (ad (ah 1) (ad (bo (ad (v2 ba (ah 2) (ah 0)) ak)) ak))) env
noncomputable def fZ:En->Res Fl:=fun env=>
 (aQ (cJ 1 [6,8] (fg (aF bR (ad (ah 2) (ad (ah 7) (ad (ah 5) ak))))) (gN 0) (fun _=>.ok true) dR)) env
noncomputable def bQ:En->Res Fl:=fun env=>
 (aD (cY (vB (v2 d8 (ah 10) (vC (.int 0)))) (aQ (cJ 1 [7,8] (fg (aF bR (ad (ah 2) (ad (ah 6) (ad (ay 0 (vC (.int 0))) ak))))) (gN 0) (fun _=>.ok true) dQ)) bj)
 fZ) env
noncomputable def de:En->Res Fl:=fun env=>
 (aD (cY (vB (v2 d8 (ay 2 (vC (.int 0))) (vC (.str "if")))) (aQ (bF (ad (bo (ad (ah 6) (ad (bo (ad (v2 ba (v2 j9 (bF (ad (ah 8) (ad (ah 9) ak))) (e_ oK (ad (v2 d8 (ay 4 (ah 10)) (ay 2 (vC (.int 2)))) ak))) (ah 7)) ak)) ak))) ak))) bj)
 bQ) env
noncomputable def cf:En->Res Fl:=fun env=>
 (aD (bN 10 (wq (bF (ad (vC (.str "shared")) (ad (vC (.str "own")) ak))) (ay 2 (vC (.int 1)))))
 de) env
noncomputable def df:En->Res Fl:=fun env=>
 (aD (cY (vB (v2 d8 (ay 2 (vC (.int 0))) (vC (.str "fork")))) (aQ (bF (ad (bo (ad (ah 6) (ad (bo (ad (v2 ba (ah 8) (ah 7)) ak)) ak))) (ad (bo (ad (ah 6) (ad (bo (ad (v2 ba (ah 9) (ah 7)) ak)) ak))) ak)))) bj)
 cf) env
noncomputable def dh:En->Res Fl:=fun env=>
 (aD (cY (vB (v2 d8 (ay 2 (vC (.int 0))) (vC (.str "go")))) (aQ (bF (ad (bo (ad (ah 6) (ad (bo (ad (v2 ba (ah 9) (ah 7)) ak)) ak))) ak))) bj)
 df) env
noncomputable def dS:En->Res Fl:=fun env=>
 (aD (cY (vB (v2 d8 (ay 2 (vC (.int 0))) (vC (.str "skip")))) (aQ (bF (ad (bo (ad (ah 6) (ad (bo (ad (v2 ba (ah 8) (ah 7)) ak)) ak))) ak))) bj)
 dh) env
noncomputable def dU:En->Res Fl:=fun env=>
 (aD (cY (vB (v2 d8 (ay 2 (vC (.int 0))) (vC (.str "call")))) (aQ (bF (ad (bo (ad (ah 6) (ad (bo (ad (v2 ba (v2 gm (aF bL (ad (ah 0) (ad (ay 2 (vC (.int 1))) ak))) (ah 5)) (ah 7)) (ad (v2 ba (ah 8) (ah 7)) ak))) ak))) ak))) bj)
 dS) env
noncomputable def dW:En->Res Fl:=fun env=>
 (aD (cY (vB (v2 d8 (ay 2 (vC (.int 0))) (vC (.str "back")))) (aQ (bF (ad (bo (ad (ah 6) (ad (bo ak) ak))) ak))) bj)
 dU) env
noncomputable def cD:En->Res Fl:=fun env=>
 (aD (cY (vB (v2 d8 (ay 2 (vC (.int 0))) (vC (.str "stop")))) (aQ (bF ak)) bj)
 dW) env
noncomputable def dX:En->Res Fl:=fun env=>
 (aD (bN 9 (CD (vB (v2 ze (ay 2 (vC (.int 0))) (bo (ad (vC (.str "go")) (ad (vC (.str "fork")) (ad (vC (.str "if")) ak)))))) (v2 gm (v2 ba (aF bL (ad (ah 0) (ad (ah 1) ak))) (ay 2 (wb (vC (.int 1))))) (ah 5)) (vC (.int 0))))
 cD) env
noncomputable def dY:En->Res Fl:=fun env=>
 (aD (bN 8 (v2 gm (v2 ba (ah 3) (vC (.int 1))) (ah 5)))
 dX) env
noncomputable def dZ:En->Res Fl:=fun env=>
 (aD (bN 7 (ay 4 (vC (.int 1))))
 dY) env
noncomputable def d6:En->Res Fl:=fun env=>
 (aD (bN 6 (ay 4 (vC (.int 0))))
 dZ) env
noncomputable def fU:En->Res Fl:=
 (aD (bN 5 (ay 0 (vC (.int 1))))
 d6)
noncomputable def b8:List D->Res R:=cj dw fU
noncomputable abbrev s__law_rules:Stmt:=top 31
noncomputable abbrev iJ:List Str:=["_law_program_here", "_law_rules_here", "_law_at", "_law_name", "_law_rows", "_law_row_here", "_law_number", "_law_pair", "_law_move"]
noncomputable abbrev P__law_rules:List Str:=["_law_program_here"]
theorem sc__law_rules:FnScope iJ P__law_rules (defScope s__law_rules):=⟨rfl,rfl,rfl,by decide +kernel,rfl,by decide +kernel,by decide +kernel⟩
noncomputable def cE:En->Res Fl:=fun env=>
 (nw 1 (bo (ad (ay 7 (vC (.int 0))) (ad (v2 ba (v2 gm (ah 2) (ay 0 (vC (.int 1)))) (ay 7 (vC (.int 1)))) (ad (ay 8 (vC (.int 0))) (ad (ay 8 (vC (.int 1))) ak)))))) env
noncomputable def cF:En->Res Fl:=fun env=>
 (aD (bN 7 (bo (ad (v2 k9 (ah 6) (ay 0 (vC (.int 0)))) (ad (v2 tz (ah 6) (ay 0 (vC (.int 0)))) ak))))
 (fC (fg (aF b8 (ad (ah 0) (ad (ah 3) (ad (ah 5) (ad (ah 2) (ad (ah 7) ak))))))) (gN 8) cE)) env
noncomputable def cG:En->Res Fl:=fun env=>
 (aD (fC (xG (ad (v2 gm (ay 0 (vC (.int 0))) (ay 0 (vC (.int 1)))) ak)) (gN 6) cF)
 (bN 2 (v2 ba (ah 2) (vC (.int 1))))) env
noncomputable def cH:En->Res Fl:=fun env=>
 (fC (fg (ah 4)) (gN 5) cG) env
noncomputable def iL:En->Res Fl:=
 (aD (bN 1 (bF ak))
 (aD (bN 2 (vC (.int 0)))
 (aD (fC (fg (ay 0 (vC (.int 2)))) (gT 2 (aE (gN 3) (aE (gN 4) bO))) cH)
 (aQ (ah 1)))))
noncomputable def dy:List D->Res R:=cj iJ iL
noncomputable abbrev s_beginning:Stmt:=top 16
noncomputable abbrev jy:List Str:=["program"]
noncomputable abbrev P_beginning:List Str:=["program"]
theorem mF:FnScope jy P_beginning (defScope s_beginning):=⟨rfl,rfl,rfl,by decide +kernel,rfl,by decide +kernel,by decide +kernel⟩
noncomputable def jz:En->Res Fl:=
 (aQ (bo (ad (vC (.int 0)) (ad (bF (ad (aF b7 (ad (ah 0) (ad (aF dM (ad (ah 0) (ad (vC (.str "main")) (ad (vC (.int 0)) ak)))) (ad (vC (.int 0)) ak)))) ak)) ak))))
noncomputable def eF:List D->Res R:=cj jy jz
noncomputable abbrev s__law_row_same:Stmt:=top 25
noncomputable abbrev f6:List Str:=["_law_found", "_law_due", "_law_one", "_law_word"]
noncomputable abbrev P__law_row_same:List Str:=["_law_found", "_law_due"]
theorem sc__law_row_same:FnScope f6 P__law_row_same (defScope s__law_row_same):=⟨rfl,rfl,rfl,by decide +kernel,rfl,by decide +kernel,by decide +kernel⟩
noncomputable def bx:En->Res Fl:=fun env=>
 (aD (cY (rl (cw (fE "str" (ah 3))) (cX (cw (fE "str" (ah 2))))) (aQ (vC (.bl false))) bj)
 (cY (rl (cw (fE "int" (ah 3))) (cX (cw (aF aR (ad (ah 2) ak))))) (aQ (vC (.bl false))) bj)) env
noncomputable def f7:En->Res Fl:=
 (aD (cY (im (cX (cw (fE "tuple" (ah 0)))) (vB (v2 mn (e_ cx (ad (ah 0) ak)) (e_ cx (ad (ah 1) ak))))) (aQ (vC (.bl false))) bj)
 (aD (fC (lN (ad (ah 0) (ad (ah 1) ak))) (gT 2 (aE (gN 2) (aE (gN 3) bO))) bx)
 (aQ (v2 d8 (ah 0) (ah 1)))))
noncomputable def cg:List D->Res R:=cj f6 f7
noncomputable abbrev s__law_rows_same:Stmt:=top 26
noncomputable abbrev cS:List Str:=["_law_found", "_law_due"]
noncomputable abbrev P__law_rows_same:List Str:=["_law_found", "_law_due"]
theorem iM:FnScope cS P__law_rows_same (defScope s__law_rows_same):=⟨rfl,rfl,rfl,by decide +kernel,rfl,by decide +kernel,by decide +kernel⟩
theorem c9:((["_law_one", "_law_row_here"]:List Str)++([]:List Str)).Nodup:=by decide +kernel
noncomputable def cn:En->Res R:=fun env=>
 (aF cg (ad (ah 0) (ad (ah 1) ak))) env
noncomputable def fA:En->Res Fl:=
 (aD (cY (im (cX (cw (fE "tuple" (ah 0)))) (im (vB (v2 mn (e_ cx (ad (ah 0) ak)) (vC (.int 2)))) (cX (cw (fE "str" (ay 0 (vC (.int 0)))))))) (aQ (vC (.bl false))) bj)
 (aD (cY (im (vB (v2 mn (ay 0 (vC (.int 0))) (ay 1 (vC (.int 0))))) (im (cX (cw (fE "list" (ay 0 (vC (.int 1)))))) (vB (v2 mn (e_ cx (ad (ay 0 (vC (.int 1))) ak)) (e_ cx (ad (ay 1 (vC (.int 1))) ak)))))) (aQ (vC (.bl false))) bj)
 (aQ (e_ oJ (ad (cJ 2 [] (lN (ad (ay 0 (vC (.int 1))) (ad (ay 1 (vC (.int 1))) ak))) (gT 2 (aE (gN 0) (aE (gN 1) bO))) (fun _=>.ok true) cn) ak)))))
noncomputable def b9:List D->Res R:=cj cS fA
noncomputable abbrev s__law_same:Stmt:=top 27
noncomputable abbrev gK:List Str:=["_law_found", "_law_due"]
noncomputable abbrev P__law_same:List Str:=["_law_found", "_law_due"]
theorem mG:FnScope gK P__law_same (defScope s__law_same):=⟨rfl,rfl,rfl,by decide +kernel,rfl,by decide +kernel,by decide +kernel⟩
theorem f8:((["_law_one", "_law_part"]:List Str)++([]:List Str)).Nodup:=by decide +kernel
noncomputable def eS:En->Res R:=fun env=>
 (aF b9 (ad (ah 0) (ad (ah 1) ak))) env
noncomputable def jA:En->Res Fl:=
 (aD (cY (im (cX (cw (fE "tuple" (ah 0)))) (vB (v2 mn (e_ cx (ad (ah 0) ak)) (vC (.int 3))))) (aQ (vC (.bl false))) bj)
 (aD (cY (im (cX (cw (aF aR (ad (ay 0 (vC (.int 0))) ak)))) (im (cX (cw (aF aR (ad (ay 0 (vC (.int 1))) ak)))) (vB (v2 mn (cW (ah 0) ip (gr (vC (.int 2)))) (cW (ah 1) ip (gr (vC (.int 2)))))))) (aQ (vC (.bl false))) bj)
 (aD (cY (im (cX (cw (fE "list" (ay 0 (vC (.int 2)))))) (vB (v2 mn (e_ cx (ad (ay 0 (vC (.int 2))) ak)) (e_ cx (ad (ay 1 (vC (.int 2))) ak))))) (aQ (vC (.bl false))) bj)
 (aQ (e_ oJ (ad (cJ 2 [] (lN (ad (ay 0 (vC (.int 2))) (ad (ay 1 (vC (.int 2))) ak))) (gT 2 (aE (gN 0) (aE (gN 1) bO))) (fun _=>.ok true) eS) ak))))))
noncomputable def c_:List D->Res R:=cj gK jA
noncomputable abbrev s_law:Stmt:=top 34
noncomputable abbrev xS:List Str:=["_law_script", "_law_due", "_law_handed", "_law_found"]
noncomputable abbrev P_law:List Str:=["_law_script"]
theorem sc_law:FnScope xS P_law (defScope s_law):=⟨rfl,rfl,rfl,by decide +kernel,rfl,by decide +kernel,by decide +kernel⟩
noncomputable def p_:En->Res Fl:=fun env=>
 (aQ (tB (v2 d8 (v2 j9 (ay 3 (vC (.int 1))) (vC (.int 0))) (v2 gm (aF bL (ad (ah 1) (ad (vC (.str "main")) ak))) (ay 1 (vC (.int 1))))) (aF c_ (ad (ah 2) (ad (ah 1) ak))))) env
noncomputable def qf:En->Res Fl:=fun env=>
 (aD (cY (im (cX (cw (fE "list" (ay 3 (vC (.int 1)))))) (im (vB (v2 mn (e_ cx (ad (ay 3 (vC (.int 1))) ak)) (vC (.int 1)))) (cX (cw (aF aR (ad (v2 j9 (ay 3 (vC (.int 1))) (vC (.int 0))) ak)))))) (aQ (vC (.bl false))) bj)
 p_) env
noncomputable def qg:En->Res Fl:=fun env=>
 (aD (cY (im (cX (cw (fE "tuple" (ah 3)))) (im (vB (v2 mn (e_ cx (ad (ah 3) ak)) (vC (.int 2)))) (im (cX (cw (aF aR (ad (ay 3 (vC (.int 0))) ak)))) (vB (v2 mn (ay 3 (vC (.int 0))) (vC (.int 0))))))) (aQ (vC (.bl false))) bj)
 qf) env
noncomputable def qh:En->Res Fl:=fun env=>
 (aD (cr 3 (aF eF (ad (ah 2) ak)))
 qg) env
noncomputable def ql:En->Res Fl:=fun env=>
 (aD (cY (cX (cw (aF bV (ad (aF fS (ad (ah 2) ak)) (ad (ah 1) (ad (aF dy (ad (ah 1) ak)) ak)))))) (aQ (vC (.bl false))) bj)
 qh) env
noncomputable def qm:En->Res Fl:=fun env=>
 (aD (cr 2 (aF c7 (ad (ah 0) (ad (vC (.int 140)) ak))))
 ql) env
noncomputable def xT:En->Res Fl:=
 (aD (cr 1 (aF c7 (ad (ah 0) (ad (vC (.int 140)) ak))))
 qm)
noncomputable def nQ:List D->Res R:=cj xS xT
set_option genInjectivity false in
structure Tx (w:World) (K:PySem.W.Frag) (mg:Str->Option Value) where
 f_a:Addr
 fd_a:FuncData
 h_a:Fn K mg "_law_cell_at" s__law_cell_at P__law_cell_at f_a fd_a
 f_b:Addr
 fd_b:FuncData
 h_b:Fn K mg "_law_digit" s__law_digit P__law_digit f_b fd_b
 f_c:Addr
 fd_c:FuncData
 h_c:Fn K mg "_law_names" s__law_names P__law_names f_c fd_c
 f_d:Addr
 fd_d:FuncData
 h_d:Fn K mg "_law_row" s__law_row P__law_row f_d fd_d
 f_e:Addr
 fd_e:FuncData
 h_e:Fn K mg "_law_program" s__law_program P__law_program f_e fd_e
 f_f:Addr
 fd_f:FuncData
 h_f:Fn K mg "_law_made" s__law_made P__law_made f_f fd_f
 f_g:Addr
 fd_g:FuncData
 h_g:Fn K mg "_law_whole" s__law_whole P__law_whole f_g fd_g
 f_h:Addr
 fd_h:FuncData
 h_h:Fn K mg "_law_rule_same" s__law_rule_same P__law_rule_same f_h fd_h
 f_i:Addr
 fd_i:FuncData
 h_i:Fn K mg "_law_house_same" s__law_house_same P__law_house_same f_i fd_i
 f_j:Addr
 fd_j:FuncData
 h_j:Fn K mg "point_of" s_point_of P_point_of f_j fd_j
 f_k:Addr
 fd_k:FuncData
 h_k:Fn K mg "first_points" s_first_points P_first_points f_k fd_k
 f_l:Addr
 fd_l:FuncData
 h_l:Fn K mg "sign_of" s_sign_of P_sign_of f_l fd_l
 f_m:Addr
 fd_m:FuncData
 h_m:Fn K mg "rows_behind" s_rows_behind P_rows_behind f_m fd_m
 f_n:Addr
 fd_n:FuncData
 h_n:Fn K mg "values_made" s_values_made P_values_made f_n fd_n
 f_o:Addr
 fd_o:FuncData
 h_o:Fn K mg "changed" s_changed P_changed f_o fd_o
 f_p:Addr
 fd_p:FuncData
 h_p:Fn K mg "goes_on" s_goes_on P_goes_on f_p fd_p
 f_q:Addr
 fd_q:FuncData
 h_q:Fn K mg "leads_to" s_leads_to P_leads_to f_q fd_q
 f_r:Addr
 fd_r:FuncData
 h_r:Fn K mg "rules_at" s_rules_at P_rules_at f_r fd_r
 f_s:Addr
 fd_s:FuncData
 h_s:Fn K mg "house_of" s_house_of P_house_of f_s fd_s
 f_t:Addr
 fd_t:FuncData
 h_t:Fn K mg "_law_first" s__law_first P__law_first f_t fd_t
 f_u:Addr
 fd_u:FuncData
 h_u:Fn K mg "_law_behind" s__law_behind P__law_behind f_u fd_u
 f_v:Addr
 fd_v:FuncData
 h_v:Fn K mg "_law_moves" s__law_moves P__law_moves f_v fd_v
 f_w:Addr
 fd_w:FuncData
 h_w:Fn K mg "_law_rules" s__law_rules P__law_rules f_w fd_w
 f_x:Addr
 fd_x:FuncData
 h_x:Fn K mg "beginning" s_beginning P_beginning f_x fd_x
 f_y:Addr
 fd_y:FuncData
 h_y:Fn K mg "_law_row_same" s__law_row_same P__law_row_same f_y fd_y
 f_z:Addr
 fd_z:FuncData
 h_z:Fn K mg "_law_rows_same" s__law_rows_same P__law_rows_same f_z fd_z
 f_A:Addr
 fd_A:FuncData
 h_A:Fn K mg "_law_same" s__law_same P__law_same f_A fd_A
 f_B:Addr
 fd_B:FuncData
 h_B:Fn K mg "law" s_law P_law f_B fd_B
 nb_all:mg "all"=none
 nb_bool:mg "bool"=none
 nb_dict:mg "dict"=none
 nb_enumerate:mg "enumerate"=none
 nb_int:mg "int"=none
 nb_isinstance:mg "isinstance"=none
 nb_len:mg "len"=none
 nb_list:mg "list"=none
 nb_max:mg "max"=none
 nb_range:mg "range"=none
 nb_str:mg "str"=none
 nb_sum:mg "sum"=none
 nb_tuple:mg "tuple"=none
 nb_zip:mg "zip"=none
 C_NoRow:Addr
 x_NoRow:XC K mg "NoRow" C_NoRow
 C_NoName:Addr
 x_NoName:XC K mg "NoName" C_NoName
 tb_PLACES:∃ a,mg "PLACES"=some (.ref a)/\TabAt w K a [("shared",0),("own",1)]
section
variable {P:Program}{w:World}{K:PySem.W.Frag}{mg:Str->Option Value}{base:Heap}
theorem f9 (t:Tx w K mg):FnOk P w K mg base (gh P w) 1 t.f_a t.fd_a P__law_cell_at (g6 mg 2 bG):=
 bB t.h_a.fu jG fun cdv A outer s H E hr=>
  have hu:=hr.units
  (ag (aJ (aw (xD) (qv 1) (aH bn (by rfl) t.nb_len (by decide +kernel) (aa (qv 0) ae)) (aA _)) (ai (ao (az gn (aj (pv 0) (qv 1) (fun _ _=>rfl)) (az t6 af af)))) ar)
    (ai (ao af)))
theorem aN (t:Tx w K mg):FnOk P w K mg base (gh P w) 1 t.f_b t.fd_b P__law_digit (g6 mg 3 aK):=
 bB t.h_b.fu la fun cdv A outer s H E hr=>
  have hu:=hr.units
  (ai (ao (az gn (az gn (az aM (az ci (az gn (qv 0) (az t6 af af)) af) af) (qv 1)) (qv 2))))
theorem li (t:Tx w K mg):FnOk P w K mg base (gh P w) 2 t.f_c t.fd_c P__law_names (g6 mg 1 dn):=
 bB t.h_c.fu sc__law_names fun cdv A outer s H E hr=>
  have hu:=hr.units
  (ag (aO sc__law_names.nd rfl (.inl rfl) (aS ae))
    (ag (aO sc__law_names.nd rfl (.inl rfl) (az aM af (aq (aN t) (hr.mono (by decide)) (by rfl) t.h_b.gl t.h_b.fu.kp t.h_b.bi av (aa (qv 0) (aa af (aa af ae))) (ac (ac (ac am))))))
    (ag (aO sc__law_names.nd rfl (.inl rfl) aI)
    (ag (bD gY rfl (cM (by rfl) t.nb_range (aa (qv 2) ae)) (au sc__law_names.nd rfl (.inl rfl)) (ai (aO sc__law_names.nd rfl (.inl rfl) (az aM (qv 3) (gp aI (aq (aN t) (hr.mono (by decide)) (by rfl) t.h_b.gl t.h_b.fu.kp t.h_b.bi av (aa (az aM (qv 0) (az ci (az ci af (qv 4)) (qv 4))) (aa af (aa af ae))) (ac (ac (ac am)))) (fun _ _=>rfl))))))
    (ag (bb sc__law_names.nd rfl (.inl rfl) (aq (aN t) (hr.mono (by decide)) (by rfl) t.h_b.gl t.h_b.fu.kp t.h_b.bi av (aa (qv 0) (aa af (aa (qv 2) ae))) (ac (ac (ac am)))))
    (ag (bb sc__law_names.nd rfl (.inl rfl) (aq (aN t) (hr.mono (by decide)) (by rfl) t.h_b.gl t.h_b.fu.kp t.h_b.bi av (aa (qv 0) (aa af (aa af ae))) (ac (ac (ac am)))))
    (ag (bD gY rfl (cM (by rfl) t.nb_range (aa (aq (aN t) (hr.mono (by decide)) (by rfl) t.h_b.gl t.h_b.fu.kp t.h_b.bi av (aa (qv 0) (aa af (aa af ae))) (ac (ac (ac am)))) ae)) (au sc__law_names.nd rfl (.inl rfl)) (ag (aO sc__law_names.nd rfl (.inl rfl) (gp aI (az gn (az aM (qv 0) (az ci (qv 4) (az aM af (az gn (az oD (qv 0) af) af)))) af) (fun _ _=>rfl)))
    (ag (aO sc__law_names.nd rfl (.inl rfl) (az aM (az aM (cv (qv 3) dF (cy (qv 5))) (qv 7)) (cv (qv 3) (cy (az aM (qv 5) af)) dF)))
    (ag (aJ (aw (be hu) (qv 6) af (aA _)) (ai (aO sc__law_names.nd rfl (.inl rfl) (az aM aI (qv 7)))) ar)
    (ag (aJ (aw (be hu) (qv 6) af (aA _)) (ai (aO sc__law_names.nd rfl (.inl rfl) (cv aI dF (cy (az aM af (qv 4)))))) ar)
    (ai (jP (pv 1) (qv 8))))))))
    (ag (bb sc__law_names.nd rfl (.inl rfl) (aq (aN t) (hr.mono (by decide)) (by rfl) t.h_b.gl t.h_b.fu.kp t.h_b.bi av (aa (qv 0) (aa af (aa (az aM (aH bn (by rfl) t.nb_len (by decide +kernel) (aa (qv 1) ae)) af) ae))) (ac (ac (ac am)))))
    (ai (ao (az aM (az aM (cv (qv 1) dF (cy (qv 9))) (aS (aa aI ae))) (cv (qv 1) (cy (qv 9)) dF))))))))))))
theorem nR (t:Tx w K mg):FnOk P w K mg base (gh P w) 2 t.f_d t.fd_d P__law_row (g6 mg 5 dJ):=
 bB t.h_d.fu sc__law_row fun cdv A outer s H E hr=>
  have hu:=hr.units
  (ag (bb sc__law_row.nd rfl (.inl rfl) (aq (aN t) (hr.mono (by decide)) (by rfl) t.h_b.gl t.h_b.fu.kp t.h_b.bi av (aa (qv 0) (aa af (aa af ae))) (ac (ac (ac am)))))
    (ag (aJ (bc (qv 4)) (ai (aO sc__law_row.nd rfl (.inl rfl) (gp (aS (aa af (aa af (aa af ae)))) (aq (aN t) (hr.mono (by decide)) (by rfl) t.h_b.gl t.h_b.fu.kp t.h_b.bi av (aa (qv 0) (aa af (aa af ae))) (ac (ac (ac am)))) (fun _ _=>rfl)))) ar)
    (ag (bb sc__law_row.nd rfl (.inl rfl) (aq (aN t) (hr.mono (by decide)) (by rfl) t.h_b.gl t.h_b.fu.kp t.h_b.bi av (aa (qv 0) (aa af (aa af ae))) (ac (ac (ac am)))))
    (ag (aO sc__law_row.nd rfl (.inl rfl) (gp (aS (aa aI (aa aI ae))) (qv 6) (fun _ _=>rfl)))
    (ag (bb sc__law_row.nd rfl (.inl rfl) (aq (aN t) (hr.mono (by decide)) (by rfl) t.h_b.gl t.h_b.fu.kp t.h_b.bi av (aa (qv 0) (aa af (aa (aj (pv 1) (qv 6) (fun _ _=>rfl)) ae))) (ac (ac (ac am)))))
    (ag (bb sc__law_row.nd rfl (.inl rfl) (aq (aN t) (hr.mono (by decide)) (by rfl) t.h_b.gl t.h_b.fu.kp t.h_b.bi av (aa (qv 0) (aa af (aa (qv 2) ae))) (ac (ac (ac am)))))
    (ag (aJ (aw (pG) (qv 5) af (aA _)) (ai (ao (aL (aa aI (aa (aj (pv 3) (aq (aN t) (hr.mono (by decide)) (by rfl) t.h_b.gl t.h_b.fu.kp t.h_b.bi av (aa (qv 0) (aa af (aa (aH bn (by rfl) t.nb_len (by decide +kernel) (aa (qv 3) ae)) ae))) (ac (ac (ac am)))) (fun _ _=>rfl)) ae))))) ar)
    (ag (aJ (PWD.pt (bd (aw (be hu) (qv 5) af (aA _)) (bv (aw (be hu) (qv 5) af (aA _))))) (ai (ao (aL (aa aI (aa (qv 7) (aa (qv 8) ae)))))) ar)
    (ag (aJ (PWD.pt (bd (aw (be hu) (qv 5) af (aA _)) (bv (aw (be hu) (qv 5) af (aA _))))) (ai (ao (aL (aa (gp (aS (aa aI (aa aI ae))) (az iX (qv 5) af) (fun _ _=>rfl)) (aa (qv 7) ae))))) ar)
    (ag (aJ (PWD.pt (bd (aw (be hu) (qv 5) af (aA _)) (bv (aw (be hu) (qv 5) af (aA _))))) (ai (ao (aL (aa aI (aa (qv 7) (aa (qv 8) (aa (qv 9) ae))))))) ar)
    (ag (aJ (PWD.pt (jO (aw (pG) (qv 5) af (aA _)) (io (aw (Bj) (qv 5) af (aA _))))) (ai (ao (aL (aa (gp (aS (aa aI (aa aI (aa aI ae)))) (az iX (qv 5) af) (fun _ _=>rfl)) (aa (qv 9) ae))))) ar)
    (ag (aJ (aw (pG) (qv 5) af (aA _)) (ai (ao (aL (aa (gp (aS (aa aI (aa aI ae))) (az iX (qv 5) af) (fun _ _=>rfl)) ae)))) ar)
    (ai (ao (aL (aa aI ae))))))))))))))))
theorem jI (t:Tx w K mg):FnOk P w K mg base (gh P w) 3 t.f_e t.fd_e P__law_program (g6 mg 4 cA):=
 bB t.h_e.fu sc__law_program fun cdv A outer s H E hr=>
  have hu:=hr.units
  (ag (wn rfl (CScope.of (osc:=defScope s__law_program) (N:=dL) (tN:=["_law_name"]) (capN:=[]) (caps:=[]) rfl rfl (by decide +kernel)) sc__law_program.nd rfl rfl (bq (qv 2)) (fun cl C s3 H3 fp=>ph h8 rfl (.inl rfl)) (by decide))
    (ag (bD gY rfl (bq (qv 0)) (au sc__law_program.nd rfl (.inl rfl)) (ai (oO (pv 4) (aq (aN t) (hr.mono (by decide)) (by rfl) t.h_b.gl t.h_b.fu.kp t.h_b.bi av (aa (qv 5) (aa af (aa (aH bn (by rfl) t.nb_len (by decide +kernel) (aa (qv 2) ae)) ae))) (ac (ac (ac am)))) (qv 5) (fun _ _=>rfl))))
    (ag (aO sc__law_program.nd rfl (.inl rfl) (aS ae))
    (ag (bD gY rfl (ke (by rfl) t.nb_enumerate (aa (qv 2) ae)) (bC rfl (aB (au sc__law_program.nd rfl (.inl rfl)) (aB (au sc__law_program.nd rfl (.inl rfl)) bp (fun _ a _ b=>aG a b)) (fun _ a _ b=>aG a b))) (ag (aO sc__law_program.nd rfl (.inl rfl) (az aM (aj (pv 4) (qv 7) (fun _ _=>rfl)) (aS (aa (az aM (qv 3) (az ci (az ci af (qv 7)) (qv 7))) ae))))
    (ag (aO sc__law_program.nd rfl (.inl rfl) (aS ae))
    (ag (bD gY rfl (ke (by rfl) t.nb_enumerate (aa (qv 9) ae)) (bC rfl (aB (au sc__law_program.nd rfl (.inl rfl)) (aB (au sc__law_program.nd rfl (.inl rfl)) bp (fun _ a _ b=>aG a b)) (fun _ a _ b=>aG a b))) (ai (jP (pv 10) (aq (nR t) (hr.mono (by decide)) (by rfl) t.h_d.gl t.h_d.fu.kp t.h_d.bi av (aa (qv 5) (aa (qv 1) (aa (aH bn (by rfl) t.nb_len (by decide +kernel) (aa (qv 9) ae)) (aa (qv 2) (aa (iW (be hu) (qv 11) (az iX (aH bn (by rfl) t.nb_len (by decide +kernel) (aa (qv 9) ae)) af) (aA _)) ae))))) (ac (ac (ac (ac (ac am)))))))))
    (ai (jP (pv 6) (aL (aa (qv 8) (aa (qv 10) ae)))))))))
    (ai (ao (aL (aa (aj (pv 1) af (fun _ _=>rfl)) (aa (aj (pv 1) af (fun _ _=>rfl)) (aa (qv 6) ae))))))))))
theorem iN (t:Tx w K mg):FnOk P w K mg base (gh P w) 4 t.f_f t.fd_f P__law_made (g6 mg 2 c7):=
 bB t.h_f.fu sc__law_made fun cdv A outer s H E hr=>
  have hu:=hr.units
  (ag (bb sc__law_made.nd rfl (.inl rfl) (aq (f9 t) (hr.mono (by decide)) (by rfl) t.h_a.gl t.h_a.fu.kp t.h_a.bi av (aa (qv 0) (aa af ae)) (ac (ac am))))
    (ag (aO sc__law_made.nd rfl (.inl rfl) (aS (aa (az aM af (aq (aN t) (hr.mono (by decide)) (by rfl) t.h_b.gl t.h_b.fu.kp t.h_b.bi av (aa (qv 2) (aa af (aa af ae))) (ac (ac (ac am))))) (aa (az aM af (aq (aN t) (hr.mono (by decide)) (by rfl) t.h_b.gl t.h_b.fu.kp t.h_b.bi av (aa (qv 2) (aa af (aa af ae))) (ac (ac (ac am))))) ae))))
    (ag (bb sc__law_made.nd rfl (.inl rfl) (aq (li t) (hr.mono (by decide)) (by rfl) t.h_c.gl t.h_c.fu.kp t.h_c.bi av (aa (aq (f9 t) (hr.mono (by decide)) (by rfl) t.h_a.gl t.h_a.fu.kp t.h_a.bi av (aa (qv 0) (aa af ae)) (ac (ac am))) ae) (ac am)))
    (ag (aO sc__law_made.nd rfl (.inl rfl) (aH (y_ (by rfl)) (by rfl) t.nb_max (by decide +kernel) (aa af (aa (az iX (az oD (qv 1) (az ci (aj (pv 3) af (fun _ _=>rfl)) (aj (pv 3) af (fun _ _=>rfl)))) af) ae))))
    (ai (ao (aq (jI t) (hr.mono (by decide)) (by rfl) t.h_e.gl t.h_e.fu.kp t.h_e.bi av (aa (cv (qv 0) (cy af) (cy (az aM af (qv 5)))) (aa (qv 3) (aa (qv 4) (aa (qv 2) ae)))) (ac (ac (ac (ac am)))))))))))
theorem aV (t:Tx w K mg):FnOk P w K mg base (gh P w) 1 t.f_g t.fd_g P__law_whole (g6 mg 1 aR):=
 bB t.h_g.fu lf fun cdv A outer s H E hr=>
  have hu:=hr.units
  (ai (ao (oF (bW ny (by rfl) t.nb_isinstance (by rfl) t.nb_int (by decide +kernel) (qv 0)) (oE (yU (bW rE (by rfl) t.nb_isinstance (by rfl) t.nb_bool (by decide +kernel) (qv 0)))))))
theorem iO (t:Tx w K mg):FnOk P w K mg base (gh P w) 2 t.f_h t.fd_h P__law_rule_same (g6 mg 2 b6):=
 bB t.h_h.fu iG fun cdv A outer s H E hr=>
  have hu:=hr.units
  (ag (aJ (PWD.pt (bd (aY (bc (bW ck (by rfl) t.nb_isinstance (by rfl) t.nb_tuple (by decide +kernel) (qv 0)))) (bd (aw (dE hu) (aH bn (by rfl) t.nb_len (by decide +kernel) (aa (qv 0) ae)) af (aA _)) (bv (aY (bc (bW ck (by rfl) t.nb_isinstance (by rfl) t.nb_tuple (by decide +kernel) (aj (pv 0) af (fun _ _=>rfl))))))))) (ai (ao di)) ar)
    (ag (aJ (PWD.pt (bd (aY (bc (aq (aV t) (hr.mono (by decide)) (by rfl) t.h_g.gl t.h_g.fu.kp t.h_g.bi av (aa (aj (pv 0) af (fun _ _=>rfl)) ae) (ac am)))) (bd (aY (bc (aq (aV t) (hr.mono (by decide)) (by rfl) t.h_g.gl t.h_g.fu.kp t.h_g.bi av (aa (aj (pv 0) af (fun _ _=>rfl)) ae) (ac am)))) (bv (aY (bc (aq (aV t) (hr.mono (by decide)) (by rfl) t.h_g.gl t.h_g.fu.kp t.h_g.bi av (aa (aj (pv 0) af (fun _ _=>rfl)) ae) (ac am)))))))) (ai (ao di)) ar)
    (ai (ao (oF (aH (mw (by rfl)) (by rfl) t.nb_all (by decide +kernel) (aa (bT rfl (CScope.of (osc:=defScope s__law_rule_same) (N:=cP) (tN:=["_law_sign"]) (capN:=[]) (caps:=[]) rfl rfl (by decide +kernel)) (bq (aj (pv 0) af (fun _ _=>rfl))) (by decide) (fun cl C s3 H3 fp=>(au gE rfl (.inl rfl))) (fun cl C s3 H3 fp=>bw) (fun cl C s3 H3 fp=>(aq (aV t) (hr.mono (by decide)) (by rfl) t.h_g.gl t.h_g.fu.kp t.h_g.bi kg (aa (qv 0) ae) (ac am)))) ae)) (oE (iW (be hu) (qv 0) (qv 1) (aA _))))))))
theorem ic (t:Tx w K mg):FnOk P w K mg base (gh P w) 3 t.f_i t.fd_i P__law_house_same (g6 mg 3 bV):=
 bB t.h_i.fu sc__law_house_same fun cdv A outer s H E hr=>
  have hu:=hr.units
  (ag (aJ (PWD.pt (bd (aY (bc (bW ck (by rfl) t.nb_isinstance (by rfl) t.nb_tuple (by decide +kernel) (qv 0)))) (bd (aw (dE hu) (aH bn (by rfl) t.nb_len (by decide +kernel) (aa (qv 0) ae)) af (aA _)) (bv (aY (bc (bW gQ (by rfl) t.nb_isinstance (by rfl) t.nb_list (by decide +kernel) (aj (pv 0) af (fun _ _=>rfl))))))))) (ai (ao di)) ar)
    (ag (aJ (PWD.pt (bd (aY (bc (aq (aV t) (hr.mono (by decide)) (by rfl) t.h_g.gl t.h_g.fu.kp t.h_g.bi av (aa (aj (pv 0) af (fun _ _=>rfl)) ae) (ac am)))) (bd (aY (bc (aq (aV t) (hr.mono (by decide)) (by rfl) t.h_g.gl t.h_g.fu.kp t.h_g.bi av (aa (aj (pv 0) af (fun _ _=>rfl)) ae) (ac am)))) (bv (aw (dE hu) (aj (pv 0) af (fun _ _=>rfl)) (aj (pv 1) af (fun _ _=>rfl)) (aA _)))))) (ai (ao di)) ar)
    (ag (aO sc__law_house_same.nd rfl (.inl rfl) (aH (t8 (by rfl)) (by rfl) t.nb_sum (by decide +kernel) (aa (bT rfl (CScope.of (osc:=defScope s__law_house_same) (N:=bU) (tN:=["_law_name", "_law_rows"]) (capN:=[]) (caps:=[]) rfl rfl (by decide +kernel)) (bq (aj (pv 1) af (fun _ _=>rfl))) (by decide) (fun cl C s3 H3 fp=>(bC rfl (aB (au cK rfl (.inl rfl)) (aB (au cK rfl (.inl rfl)) bp (fun _ a _ b=>aG a b)) (fun _ a _ b=>aG a b)))) (fun cl C s3 H3 fp=>bw) (fun cl C s3 H3 fp=>(aH bn (by rfl) t.nb_len (by decide +kernel) (aa (qv 1) ae)))) ae)))
    (ag (aJ (PWD.pt (bd (aw (dE hu) (aj (pv 0) af (fun _ _=>rfl)) (az ci (aj (pv 1) af (fun _ _=>rfl)) (qv 3)) (aA _)) (bv (aw (dE hu) (aH bn (by rfl) t.nb_len (by decide +kernel) (aa (aj (pv 0) af (fun _ _=>rfl)) ae)) (aH bn (by rfl) t.nb_len (by decide +kernel) (aa (qv 2) ae)) (aA _))))) (ai (ao di)) ar)
    (ai (ao (aH (mw (by rfl)) (by rfl) t.nb_all (by decide +kernel) (aa (bT rfl (CScope.of (osc:=defScope s__law_house_same) (N:=bU) (tN:=["_law_one", "_law_rule"]) (capN:=[]) (caps:=[]) rfl rfl (by decide +kernel)) (iy (by rfl) t.nb_zip (aa (aj (pv 0) af (fun _ _=>rfl)) (aa (qv 2) ae))) (by decide) (fun cl C s3 H3 fp=>(bC rfl (aB (au cL rfl (.inl rfl)) (aB (au cL rfl (.inl rfl)) bp (fun _ a _ b=>aG a b)) (fun _ a _ b=>aG a b)))) (fun cl C s3 H3 fp=>bw) (fun cl C s3 H3 fp=>(aq (iO t) (hr.mono (by decide)) (by rfl) t.h_h.gl t.h_h.fu.kp t.h_h.bi kg (aa (qv 0) (aa (qv 1) ae)) (ac (ac am))))) ae))))))))
theorem jB (t:Tx w K mg):FnOk P w K mg base (gh P w) 1 t.f_j t.fd_j P_point_of (g6 mg 3 dM):=
 bB t.h_j.fu sc_point_of fun cdv A outer s H E hr=>
  have hu:=hr.units
  (ag (aO sc_point_of.nd rfl (.inl rfl) af)
    (ag (bD gY rfl (bq (aj (pv 0) af (fun _ _=>rfl))) (bC rfl (aB (au sc_point_of.nd rfl (.inl rfl)) (aB (au sc_point_of.nd rfl (.inl rfl)) bp (fun _ a _ b=>aG a b)) (fun _ a _ b=>aG a b))) (ag (aJ (aw (be hu) (qv 4) (qv 1) (aA _)) (ag (aJ (PWD.pt (bd (aw (xD) (qv 2) af (aA _)) (bv (aw (pG) (qv 2) (aH bn (by rfl) t.nb_len (by decide +kernel) (aa (qv 5) ae)) (aA _))))) (ai (lK t.x_NoRow (by rfl) (aa aI ae))) ar)
    (ai (ao (az aM (qv 3) (qv 2))))) ar)
    (ai (aO sc_point_of.nd rfl (.inl rfl) (az aM (qv 3) (aH bn (by rfl) t.nb_len (by decide +kernel) (aa (qv 5) ae)))))))
    (ai (lK t.x_NoName (by rfl) (aa aI ae)))))
theorem jJ (t:Tx w K mg):FnOk P w K mg base (gh P w) 2 t.f_k t.fd_k P_first_points (g6 mg 1 cC):=
 bB t.h_k.fu jH fun cdv A outer s H E hr=>
  have hu:=hr.units
  (ai (ao (iY (t4 (by rfl) hu) (by rfl) t.nb_dict (by decide +kernel) (aa (bT rfl (CScope.of (osc:=defScope s_first_points) (N:=dN) (tN:=["name", "rows"]) (capN:=["program"]) (caps:=[0]) rfl rfl (by decide +kernel)) (bq (aj (pv 0) af (fun _ _=>rfl))) (by decide) (fun cl C s3 H3 fp=>(bC rfl (aB (au dO rfl (.inl rfl)) (aB (au dO rfl (.inl rfl)) bp (fun _ a _ b=>aG a b)) (fun _ a _ b=>aG a b)))) (fun cl C s3 H3 fp=>bw) (fun cl C s3 H3 fp=>(aL (aa (qv 0) (aa (aq (jB t) (hr.mono (by decide)) (by rfl) t.h_j.gl t.h_j.fu.kp t.h_j.bi kg (aa (qv 2) (aa (qv 0) (aa af ae))) (ac (ac (ac am)))) ae))))) ae))))
theorem cT (t:Tx w K mg):FnOk P w K mg base (gh P w) 1 t.f_l t.fd_l P_sign_of (g6 mg 3 b7):=
 bB t.h_l.fu oU fun cdv A outer s H E hr=>
  have hu:=hr.units
  (ai (ao (az aM (az ci (qv 1) (aj (pv 0) af (fun _ _=>rfl))) (qv 2))))
theorem kH (t:Tx w K mg):FnOk P w K mg base (gh P w) 1 t.f_m t.fd_m P_rows_behind (g6 mg 3 cc):=
 bB t.h_m.fu kC fun cdv A outer s H E hr=>
  have hu:=hr.units
  (ag (aJ (aw (be hu) (aj (pv 0) af (fun _ _=>rfl)) aI (aA _)) (ai (ao (aS (aa (aj (pv 0) af (fun _ _=>rfl)) ae)))) ar)
    (ag (aJ (aw (be hu) (aj (pv 0) af (fun _ _=>rfl)) aI (aA _)) (ai (ao (aS (aa (az aM (qv 1) af) (aa (aj (pv 0) af (fun _ _=>rfl)) ae))))) ar)
    (ag (aJ (PWD.pt (jO (aw (be hu) (aj (pv 0) af (fun _ _=>rfl)) aI (aA _)) (io (aw (be hu) (aj (pv 2) (ub (by rfl) t.tb_PLACES (aj (pv 0) af (fun _ _=>rfl)) (fun _ _=>rfl)) (fun _ _=>rfl)) (aj (pv 0) af (fun _ _=>rfl)) (aA _))))) (ai (ao (aS (aa (aj (pv 0) af (fun _ _=>rfl)) ae)))) ar)
    (ai (ao (aS (aa (az aM (qv 1) af) ae)))))))
theorem kI (t:Tx w K mg):FnOk P w K mg base (gh P w) 1 t.f_n t.fd_n P_values_made (g6 mg 3 ce):=
 bB t.h_n.fu kD fun cdv A outer s H E hr=>
  have hu:=hr.units
  (ag (aJ (aw (be hu) (aj (pv 0) af (fun _ _=>rfl)) aI (aA _)) (ai (ao (aS (aa (aj (pv 0) af (fun _ _=>rfl)) ae)))) ar)
    (ag (aJ (aw (be hu) (aj (pv 0) af (fun _ _=>rfl)) aI (aA _)) (ai (ao (aS (aa (az gn (az aM (qv 1) af) (qv 2)) ae)))) ar)
    (ai (ao (rN (by rfl) (by rfl) t.nb_list (by decide +kernel) (by rfl) t.nb_range (aa (qv 2) ae))))))
theorem oW (t:Tx w K mg):FnOk P w K mg base (gh P w) 1 t.f_o t.fd_o P_changed (g6 mg 3 dC):=
 bB t.h_o.fu oV fun cdv A outer s H E hr=>
  have hu:=hr.units
  (ai (ao (xE (aw (be hu) (qv 1) af (aA _)) (aL (aa (qv 2) (aa (aj (pv 0) af (fun _ _=>rfl)) ae))) (aL (aa (aj (pv 0) af (fun _ _=>rfl)) (aa (qv 2) ae))))))
theorem oX (t:Tx w K mg):FnOk P w K mg base (gh P w) 2 t.f_p t.fd_p P_goes_on (g6 mg 4 dD):=
 bB t.h_p.fu sc_goes_on fun cdv A outer s H E hr=>
  have hu:=hr.units
  (ag (aJ (aw (rM hu) (aj (pv 1) af (fun _ _=>rfl)) (aL (aa aI (aa aI (aa aI ae)))) (by rfl)) (ai (ao (bT rfl (CScope.of (osc:=defScope s_goes_on) (N:=gU) (tN:=["other"]) (capN:=["values"]) (caps:=[3]) rfl rfl (by decide +kernel)) (bq (aq (kH t) (hr.mono (by decide)) (by rfl) t.h_m.gl t.h_m.fu.kp t.h_m.bi av (aa (qv 1) (aa (qv 2) (aa (qv 3) ae))) (ac (ac (ac am))))) (by decide) (fun cl C s3 H3 fp=>(au lg rfl (.inl rfl))) (fun cl C s3 H3 fp=>bw) (fun cl C s3 H3 fp=>(aL (aa (qv 0) (aa (qv 1) ae))))))) ar)
    (ag (aO sc_goes_on.nd rfl (.inr rfl) (ub (by rfl) t.tb_PLACES (aj (pv 1) af (fun _ _=>rfl)) (fun _ _=>rfl)))
    (ag (bb sc_goes_on.nd rfl (.inl rfl) (aq (kI t) (hr.mono (by decide)) (by rfl) t.h_n.gl t.h_n.fu.kp t.h_n.bi av (aa (qv 1) (aa (aj (pv 3) (qv 4) (fun _ _=>rfl)) (aa (aj (pv 0) (qv 4) (fun _ _=>rfl)) ae))) (ac (ac (ac am)))))
    (ai (ao (bT rfl (CScope.of (osc:=defScope s_goes_on) (N:=gU) (tN:=["value"]) (capN:=["place", "values", "which"]) (caps:=[2,3,4]) rfl rfl (by decide +kernel)) (bq (qv 5)) (by decide) (fun cl C s3 H3 fp=>(au lh rfl (.inl rfl))) (fun cl C s3 H3 fp=>bw) (fun cl C s3 H3 fp=>(aL (aa (az aM (qv 1) af) (aa (aq (oW t) (hr.mono (by decide)) (by rfl) t.h_o.gl t.h_o.fu.kp t.h_o.bi kg (aa (qv 2) (aa (qv 3) (aa (qv 0) ae))) (ac (ac (ac am)))) ae))))))))))
theorem nS (t:Tx w K mg):FnOk P w K mg base (gh P w) 3 t.f_q t.fd_q P_leads_to (g6 mg 6 dP):=
 bB t.h_q.fu sc_leads_to fun cdv A outer s H E hr=>
  have hu:=hr.units
  (ag (aJ (aw (be hu) (aj (pv 3) af (fun _ _=>rfl)) aI (aA _)) (ai (ao (aS ae))) ar)
    (ag (aJ (aw (be hu) (aj (pv 3) af (fun _ _=>rfl)) aI (aA _)) (ai (ao (aS (aa (aL (aa (aj (pv 5) af (fun _ _=>rfl)) (aa (aL ae) ae))) ae)))) ar)
    (ag (aJ (aw (be hu) (aj (pv 3) af (fun _ _=>rfl)) aI (aA _)) (ag (bb sc_leads_to.nd rfl (.inl rfl) (aq (cT t) (hr.mono (by decide)) (by rfl) t.h_l.gl t.h_l.fu.kp t.h_l.bi av (aa (qv 0) (aa (pN hu (qv 1) (aj (pv 3) af (fun _ _=>rfl)) (fun _ _=>rfl)) (aa (aj (pv 5) af (fun _ _=>rfl)) ae))) (ac (ac (ac am)))))
    (ai (ao (aS (aa (aL (aa (aj (pv 5) af (fun _ _=>rfl)) (aa (aL (aa (qv 6) (aa (aq (cT t) (hr.mono (by decide)) (by rfl) t.h_l.gl t.h_l.fu.kp t.h_l.bi av (aa (qv 0) (aa (az aM (az aM (qv 2) (qv 4)) af) (aa (aj (pv 5) af (fun _ _=>rfl)) ae))) (ac (ac (ac am)))) ae))) ae))) ae))))) ar)
    (ag (bb sc_leads_to.nd rfl (.inl rfl) (aq (oX t) (hr.mono (by decide)) (by rfl) t.h_p.gl t.h_p.fu.kp t.h_p.bi av (aa (qv 0) (aa (qv 3) (aa (qv 4) (aa (qv 5) ae)))) (ac (ac (ac (ac am))))))
    (ai (ao (bT rfl (CScope.of (osc:=defScope s_leads_to) (N:=h9) (tN:=["other", "there"]) (capN:=["program", "first"]) (caps:=[0,2]) rfl rfl (by decide +kernel)) (bq (qv 7)) (by decide) (fun cl C s3 H3 fp=>(bC rfl (aB (au gH rfl (.inl rfl)) (aB (au gH rfl (.inl rfl)) bp (fun _ a _ b=>aG a b)) (fun _ a _ b=>aG a b)))) (fun cl C s3 H3 fp=>bw) (fun cl C s3 H3 fp=>(aL (aa (aj (pv 1) af (fun _ _=>rfl)) (aa (aL (aa (aq (cT t) (hr.mono (by decide)) (by rfl) t.h_l.gl t.h_l.fu.kp t.h_l.bi kg (aa (qv 2) (aa (az aM (qv 3) (qv 0)) (aa (aj (pv 1) af (fun _ _=>rfl)) ae))) (ac (ac (ac am)))) ae)) ae)))))))))))
theorem nT (t:Tx w K mg):FnOk P w K mg base (gh P w) 4 t.f_r t.fd_r P_rules_at (g6 mg 5 fQ):=
 bB t.h_r.fu sc_rules_at fun cdv A outer s H E hr=>
  have hu:=hr.units
  (ag (aO sc_rules_at.nd rfl (.inl rfl) (aS ae))
    (ag (bD gY rfl (cM (by rfl) t.nb_range (aa (aj (pv 0) af (fun _ _=>rfl)) ae)) (au sc_rules_at.nd rfl (.inl rfl)) (ag (bb sc_rules_at.nd rfl (.inr rfl) (aq (cT t) (hr.mono (by decide)) (by rfl) t.h_l.gl t.h_l.fu.kp t.h_l.bi av (aa (qv 0) (aa (az aM (qv 2) (qv 4)) (aa (qv 6) ae))) (ac (ac (ac am)))))
    (ai (bD gY rfl (cM (by rfl) t.nb_range (aa (aj (pv 0) af (fun _ _=>rfl)) ae)) (au sc_rules_at.nd rfl (.inr rfl)) (ag (bb sc_rules_at.nd rfl (.inl rfl) (aq (nS t) (hr.mono (by decide)) (by rfl) t.h_q.gl t.h_q.fu.kp t.h_q.bi av (aa (qv 0) (aa (qv 1) (aa (qv 2) (aa (qv 3) (aa (qv 4) (aa (aL (aa (qv 8) (aa (qv 6) ae))) ae)))))) (ac (ac (ac (ac (ac (ac am))))))))
    (ai (wf (pv 5) (bT rfl (CScope.of (osc:=defScope s_rules_at) (N:=ia) (tN:=["room", "put"]) (capN:=["sign", "shared"]) (caps:=[7,8]) rfl rfl (by decide +kernel)) (bq (qv 9)) (by decide) (fun cl C s3 H3 fp=>(bC rfl (aB (au gI rfl (.inl rfl)) (aB (au gI rfl (.inl rfl)) bp (fun _ a _ b=>aG a b)) (fun _ a _ b=>aG a b)))) (fun cl C s3 H3 fp=>bw) (fun cl C s3 H3 fp=>(aL (aa (qv 3) (aa (qv 2) (aa (qv 0) (aa (qv 1) ae))))))))))))))
    (ai (ao (qv 5)))))
theorem nU (t:Tx w K mg):FnOk P w K mg base (gh P w) 5 t.f_s t.fd_s P_house_of (g6 mg 1 fS):=
 bB t.h_s.fu sc_house_of fun cdv A outer s H E hr=>
  have hu:=hr.units
  (ag (bb sc_house_of.nd rfl (.inl rfl) (aq (jJ t) (hr.mono (by decide)) (by rfl) t.h_k.gl t.h_k.fu.kp t.h_k.bi av (aa (qv 0) ae) (ac am)))
    (ag (aO sc_house_of.nd rfl (.inl rfl) (aS ae))
    (ag (bD gY rfl (bq (aj (pv 0) af (fun _ _=>rfl))) (bC rfl (aB (au sc_house_of.nd rfl (.inl rfl)) (aB (au sc_house_of.nd rfl (.inl rfl)) bp (fun _ a _ b=>aG a b)) (fun _ a _ b=>aG a b))) (ai (bD gY rfl (ke (by rfl) t.nb_enumerate (aa (qv 4) ae)) (bC rfl (aB (au sc_house_of.nd rfl (.inl rfl)) (aB (au sc_house_of.nd rfl (.inl rfl)) bp (fun _ a _ b=>aG a b)) (fun _ a _ b=>aG a b))) (ai (uc (pv 2) (aq (nT t) (hr.mono (by decide)) (by rfl) t.h_r.gl t.h_r.fu.kp t.h_r.bi av (aa (qv 0) (aa (qv 1) (aa (pN hu (qv 1) (qv 3) (fun _ _=>rfl)) (aa (qv 6) (aa (qv 5) ae))))) (ac (ac (ac (ac (ac am)))))))))))
    (ag (aO sc_house_of.nd rfl (.inl rfl) (aH (t8 (by rfl)) (by rfl) t.nb_sum (by decide +kernel) (aa (bT rfl (CScope.of (osc:=defScope s_house_of) (N:=ib) (tN:=["name", "rows"]) (capN:=[]) (caps:=[]) rfl rfl (by decide +kernel)) (bq (aj (pv 0) af (fun _ _=>rfl))) (by decide) (fun cl C s3 H3 fp=>(bC rfl (aB (au gJ rfl (.inl rfl)) (aB (au gJ rfl (.inl rfl)) bp (fun _ a _ b=>aG a b)) (fun _ a _ b=>aG a b)))) (fun cl C s3 H3 fp=>bw) (fun cl C s3 H3 fp=>(aH bn (by rfl) t.nb_len (by decide +kernel) (aa (qv 1) ae)))) ae)))
    (ai (ao (aL (aa (aj (pv 0) af (fun _ _=>rfl)) (aa (aq (cT t) (hr.mono (by decide)) (by rfl) t.h_l.gl t.h_l.fu.kp t.h_l.bi av (aa (qv 0) (aa (qv 7) (aa af ae))) (ac (ac (ac am)))) (aa (qv 2) ae))))))))))
theorem eU (t:Tx w K mg):FnOk P w K mg base (gh P w) 1 t.f_t t.fd_t P__law_first (g6 mg 2 bL):=
 bB t.h_t.fu sc__law_first fun cdv A outer s H E hr=>
  have hu:=hr.units
  (ag (aO sc__law_first.nd rfl (.inl rfl) af)
    (ag (bD gY rfl (bq (aj (pv 0) af (fun _ _=>rfl))) (bC rfl (aB (au sc__law_first.nd rfl (.inl rfl)) (aB (au sc__law_first.nd rfl (.inl rfl)) bp (fun _ a _ b=>aG a b)) (fun _ a _ b=>aG a b))) (ag (aJ (aw (be hu) (qv 3) (qv 1) (aA _)) (ai (ao (qv 2))) ar)
    (ai (aO sc__law_first.nd rfl (.inl rfl) (az aM (qv 2) (aH bn (by rfl) t.nb_len (by decide +kernel) (aa (qv 4) ae)))))))
    (ai (ao (qv 2)))))
theorem gL (t:Tx w K mg):FnOk P w K mg base (gh P w) 1 t.f_u t.fd_u P__law_behind (g6 mg 3 bR):=
 bB t.h_u.fu kG fun cdv A outer s H E hr=>
  have hu:=hr.units
  (ag (aJ (aw (be hu) (aj (pv 0) af (fun _ _=>rfl)) aI (aA _)) (ai (ao (aS (aa (aj (pv 0) af (fun _ _=>rfl)) ae)))) ar)
    (ag (aJ (aw (be hu) (aj (pv 0) af (fun _ _=>rfl)) aI (aA _)) (ai (ao (aS (aa (gp (aS (aa (az aM (qv 1) af) (aa af ae))) (iY tP (by rfl) t.nb_int (by decide +kernel) (aa (iW (be hu) (qv 1) (az iX (qv 2) af) (aA _)) ae)) (fun _ _=>rfl)) ae)))) ar)
    (ai (ao (bT rfl (CScope.of (osc:=defScope s__law_behind) (N:=eQ) (tN:=["_law_value"]) (capN:=[]) (caps:=[]) rfl rfl (by decide +kernel)) (cM (by rfl) t.nb_range (aa (qv 2) ae)) (by decide) (fun cl C s3 H3 fp=>(au iI rfl (.inl rfl))) (fun cl C s3 H3 fp=>bw) (fun cl C s3 H3 fp=>(qv 0)))))))
theorem lj (t:Tx w K mg):FnOk P w K mg base (gh P w) 2 t.f_v t.fd_v P__law_moves (g6 mg 5 b8):=
 bB t.h_v.fu sc__law_moves fun cdv A outer s H E hr=>
  have hu:=hr.units
  (ag (aO sc__law_moves.nd rfl (.inl rfl) (aj (pv 0) af (fun _ _=>rfl)))
    (ag (aO sc__law_moves.nd rfl (.inr rfl) (aj (pv 4) af (fun _ _=>rfl)))
    (ag (aO sc__law_moves.nd rfl (.inr rfl) (aj (pv 4) af (fun _ _=>rfl)))
    (ag (aO sc__law_moves.nd rfl (.inr rfl) (az ci (az aM (qv 3) af) (qv 5)))
    (ag (aO sc__law_moves.nd rfl (.inl rfl) (xE (aw (zh hu) (aj (pv 2) af (fun _ _=>rfl)) (aL (aa aI (aa aI (aa aI ae)))) (by rfl)) (az ci (az aM (aq (eU t) (hr.mono (by decide)) (by rfl) t.h_t.gl t.h_t.fu.kp t.h_t.bi av (aa (qv 0) (aa (qv 1) ae)) (ac (ac am))) (aj (pv 2) (za af) (fun _ _=>rfl))) (qv 5)) af))
    (ag (aJ (aw (be hu) (aj (pv 2) af (fun _ _=>rfl)) aI (aA _)) (ai (ao (aS ae))) ar)
    (ag (aJ (aw (be hu) (aj (pv 2) af (fun _ _=>rfl)) aI (aA _)) (ai (ao (aS (aa (aL (aa (qv 6) (aa (aL ae) ae))) ae)))) ar)
    (ag (aJ (aw (be hu) (aj (pv 2) af (fun _ _=>rfl)) aI (aA _)) (ai (ao (aS (aa (aL (aa (qv 6) (aa (aL (aa (az aM (az ci (aq (eU t) (hr.mono (by decide)) (by rfl) t.h_t.gl t.h_t.fu.kp t.h_t.bi av (aa (qv 0) (aa (aj (pv 2) af (fun _ _=>rfl)) ae)) (ac (ac am))) (qv 5)) (qv 7)) (aa (az aM (qv 8) (qv 7)) ae))) ae))) ae)))) ar)
    (ag (aJ (aw (be hu) (aj (pv 2) af (fun _ _=>rfl)) aI (aA _)) (ai (ao (aS (aa (aL (aa (qv 6) (aa (aL (aa (az aM (qv 8) (qv 7)) ae)) ae))) ae)))) ar)
    (ag (aJ (aw (be hu) (aj (pv 2) af (fun _ _=>rfl)) aI (aA _)) (ai (ao (aS (aa (aL (aa (qv 6) (aa (aL (aa (az aM (qv 9) (qv 7)) ae)) ae))) ae)))) ar)
    (ag (aJ (aw (be hu) (aj (pv 2) af (fun _ _=>rfl)) aI (aA _)) (ai (ao (aS (aa (aL (aa (qv 6) (aa (aL (aa (az aM (qv 8) (qv 7)) ae)) ae))) (aa (aL (aa (qv 6) (aa (aL (aa (az aM (qv 9) (qv 7)) ae)) ae))) ae))))) ar)
    (ag (aO sc__law_moves.nd rfl (.inl rfl) (zl hu (aS (aa aI (aa aI ae))) (aj (pv 2) af (fun _ _=>rfl))))
    (ag (aJ (aw (be hu) (aj (pv 2) af (fun _ _=>rfl)) aI (aA _)) (ai (ao (aS (aa (aL (aa (qv 6) (aa (aL (aa (az aM (gp (aS (aa (qv 8) (aa (qv 9) ae))) (iY tP (by rfl) t.nb_int (by decide +kernel) (aa (iW (be hu) (aj (pv 4) (qv 10) (fun _ _=>rfl)) (aj (pv 2) af (fun _ _=>rfl)) (aA _)) ae)) (fun _ _=>rfl)) (qv 7)) ae)) ae))) ae)))) ar)
    (ag (aJ (aw (be hu) (qv 10) af (aA _)) (ai (ao (bT rfl (CScope.of (osc:=defScope s__law_moves) (N:=dw) (tN:=["_law_value"]) (capN:=["_law_own", "_law_after"]) (caps:=[7,8]) rfl rfl (by decide +kernel)) (bq (aq (gL t) (hr.mono (by decide)) (by rfl) t.h_u.gl t.h_u.fu.kp t.h_u.bi av (aa (qv 2) (aa (qv 6) (aa (aj (pv 0) af (fun _ _=>rfl)) ae))) (ac (ac (ac am))))) (by decide) (fun cl C s3 H3 fp=>(au jd rfl (.inl rfl))) (fun cl C s3 H3 fp=>bw) (fun cl C s3 H3 fp=>(aL (aa (qv 0) (aa (aL (aa (az aM (qv 2) (qv 1)) ae)) ae))))))) ar)
    (ai (ao (bT rfl (CScope.of (osc:=defScope s__law_moves) (N:=dw) (tN:=["_law_value"]) (capN:=["_law_shared", "_law_after"]) (caps:=[6,8]) rfl rfl (by decide +kernel)) (bq (aq (gL t) (hr.mono (by decide)) (by rfl) t.h_u.gl t.h_u.fu.kp t.h_u.bi av (aa (qv 2) (aa (qv 7) (aa (qv 5) ae))) (ac (ac (ac am))))) (by decide) (fun cl C s3 H3 fp=>(au je rfl (.inl rfl))) (fun cl C s3 H3 fp=>bw) (fun cl C s3 H3 fp=>(aL (aa (qv 1) (aa (aL (aa (az aM (qv 2) (qv 0)) ae)) ae)))))))))))))))))))))
theorem ll (t:Tx w K mg):FnOk P w K mg base (gh P w) 3 t.f_w t.fd_w P__law_rules (g6 mg 1 dy):=
 bB t.h_w.fu sc__law_rules fun cdv A outer s H E hr=>
  have hu:=hr.units
  (ag (aO sc__law_rules.nd rfl (.inl rfl) (aS ae))
    (ag (aO sc__law_rules.nd rfl (.inl rfl) af)
    (ag (bD gY rfl (bq (aj (pv 0) af (fun _ _=>rfl))) (bC rfl (aB (au sc__law_rules.nd rfl (.inl rfl)) (aB (au sc__law_rules.nd rfl (.inl rfl)) bp (fun _ a _ b=>aG a b)) (fun _ a _ b=>aG a b))) (ai (bD gY rfl (bq (qv 4)) (au sc__law_rules.nd rfl (.inl rfl)) (ag (bD gY rfl (cM (by rfl) t.nb_range (aa (az ci (aj (pv 0) af (fun _ _=>rfl)) (aj (pv 0) af (fun _ _=>rfl))) ae)) (au sc__law_rules.nd rfl (.inl rfl)) (ag (aO sc__law_rules.nd rfl (.inl rfl) (aL (aa (az gn (qv 6) (aj (pv 0) af (fun _ _=>rfl))) (aa (az oD (qv 6) (aj (pv 0) af (fun _ _=>rfl))) ae))))
    (ai (bD gY rfl (bq (aq (lj t) (hr.mono (by decide)) (by rfl) t.h_v.gl t.h_v.fu.kp t.h_v.bi av (aa (qv 0) (aa (qv 3) (aa (qv 5) (aa (qv 2) (aa (qv 7) ae))))) (ac (ac (ac (ac (ac am))))))) (au sc__law_rules.nd rfl (.inl rfl)) (ai (jP (pv 1) (aL (aa (aj (pv 7) af (fun _ _=>rfl)) (aa (az aM (az ci (qv 2) (aj (pv 0) af (fun _ _=>rfl))) (aj (pv 7) af (fun _ _=>rfl))) (aa (aj (pv 8) af (fun _ _=>rfl)) (aa (aj (pv 8) af (fun _ _=>rfl)) ae)))))))))))
    (ai (aO sc__law_rules.nd rfl (.inl rfl) (az aM (qv 2) af)))))))
    (ai (ao (qv 1))))))
theorem mH (t:Tx w K mg):FnOk P w K mg base (gh P w) 2 t.f_x t.fd_x P_beginning (g6 mg 1 eF):=
 bB t.h_x.fu mF fun cdv A outer s H E hr=>
  have hu:=hr.units
  (ai (ao (aL (aa af (aa (aS (aa (aq (cT t) (hr.mono (by decide)) (by rfl) t.h_l.gl t.h_l.fu.kp t.h_l.bi av (aa (qv 0) (aa (aq (jB t) (hr.mono (by decide)) (by rfl) t.h_j.gl t.h_j.fu.kp t.h_j.bi av (aa (qv 0) (aa aI (aa af ae))) (ac (ac (ac am)))) (aa af ae))) (ac (ac (ac am)))) ae)) ae)))))
theorem jf (t:Tx w K mg):FnOk P w K mg base (gh P w) 2 t.f_y t.fd_y P__law_row_same (g6 mg 2 cg):=
 bB t.h_y.fu sc__law_row_same fun cdv A outer s H E hr=>
  have hu:=hr.units
  (ag (aJ (PWD.pt (bd (aY (bc (bW ck (by rfl) t.nb_isinstance (by rfl) t.nb_tuple (by decide +kernel) (qv 0)))) (bv (aw (dE hu) (aH bn (by rfl) t.nb_len (by decide +kernel) (aa (qv 0) ae)) (aH bn (by rfl) t.nb_len (by decide +kernel) (aa (qv 1) ae)) (aA _))))) (ai (ao di)) ar)
    (ag (bD gY rfl (iy (by rfl) t.nb_zip (aa (qv 0) (aa (qv 1) ae))) (bC rfl (aB (au sc__law_row_same.nd rfl (.inl rfl)) (aB (au sc__law_row_same.nd rfl (.inl rfl)) bp (fun _ a _ b=>aG a b)) (fun _ a _ b=>aG a b))) (ag (aJ (PWD.pt (jO (bc (bW kc (by rfl) t.nb_isinstance (by rfl) t.nb_str (by decide +kernel) (qv 3))) (io (aY (bc (bW kc (by rfl) t.nb_isinstance (by rfl) t.nb_str (by decide +kernel) (qv 2))))))) (ai (ao di)) ar)
    (ai (aJ (PWD.pt (jO (bc (bW ny (by rfl) t.nb_isinstance (by rfl) t.nb_int (by decide +kernel) (qv 3))) (io (aY (bc (aq (aV t) (hr.mono (by decide)) (by rfl) t.h_g.gl t.h_g.fu.kp t.h_g.bi av (aa (qv 2) ae) (ac am))))))) (ai (ao di)) ar))))
    (ai (ao (iW (be hu) (qv 0) (qv 1) (aA _))))))
theorem iP (t:Tx w K mg):FnOk P w K mg base (gh P w) 3 t.f_z t.fd_z P__law_rows_same (g6 mg 2 b9):=
 bB t.h_z.fu iM fun cdv A outer s H E hr=>
  have hu:=hr.units
  (ag (aJ (PWD.pt (bd (aY (bc (bW ck (by rfl) t.nb_isinstance (by rfl) t.nb_tuple (by decide +kernel) (qv 0)))) (bd (aw (dE hu) (aH bn (by rfl) t.nb_len (by decide +kernel) (aa (qv 0) ae)) af (aA _)) (bv (aY (bc (bW kc (by rfl) t.nb_isinstance (by rfl) t.nb_str (by decide +kernel) (aj (pv 0) af (fun _ _=>rfl))))))))) (ai (ao di)) ar)
    (ag (aJ (PWD.pt (bd (aw (dE hu) (aj (pv 0) af (fun _ _=>rfl)) (aj (pv 1) af (fun _ _=>rfl)) (aA _)) (bd (aY (bc (bW gQ (by rfl) t.nb_isinstance (by rfl) t.nb_list (by decide +kernel) (aj (pv 0) af (fun _ _=>rfl))))) (bv (aw (dE hu) (aH bn (by rfl) t.nb_len (by decide +kernel) (aa (aj (pv 0) af (fun _ _=>rfl)) ae)) (aH bn (by rfl) t.nb_len (by decide +kernel) (aa (aj (pv 1) af (fun _ _=>rfl)) ae)) (aA _)))))) (ai (ao di)) ar)
    (ai (ao (aH (mw (by rfl)) (by rfl) t.nb_all (by decide +kernel) (aa (bT rfl (CScope.of (osc:=defScope s__law_rows_same) (N:=cS) (tN:=["_law_one", "_law_row_here"]) (capN:=[]) (caps:=[]) rfl rfl (by decide +kernel)) (iy (by rfl) t.nb_zip (aa (aj (pv 0) af (fun _ _=>rfl)) (aa (aj (pv 1) af (fun _ _=>rfl)) ae))) (by decide) (fun cl C s3 H3 fp=>(bC rfl (aB (au c9 rfl (.inl rfl)) (aB (au c9 rfl (.inl rfl)) bp (fun _ a _ b=>aG a b)) (fun _ a _ b=>aG a b)))) (fun cl C s3 H3 fp=>bw) (fun cl C s3 H3 fp=>(aq (jf t) (hr.mono (by decide)) (by rfl) t.h_y.gl t.h_y.fu.kp t.h_y.bi kg (aa (qv 0) (aa (qv 1) ae)) (ac (ac am))))) ae))))))
theorem mI (t:Tx w K mg):FnOk P w K mg base (gh P w) 4 t.f_A t.fd_A P__law_same (g6 mg 2 c_):=
 bB t.h_A.fu mG fun cdv A outer s H E hr=>
  have hu:=hr.units
  (ag (aJ (PWD.pt (bd (aY (bc (bW ck (by rfl) t.nb_isinstance (by rfl) t.nb_tuple (by decide +kernel) (qv 0)))) (bv (aw (dE hu) (aH bn (by rfl) t.nb_len (by decide +kernel) (aa (qv 0) ae)) af (aA _))))) (ai (ao di)) ar)
    (ag (aJ (PWD.pt (bd (aY (bc (aq (aV t) (hr.mono (by decide)) (by rfl) t.h_g.gl t.h_g.fu.kp t.h_g.bi av (aa (aj (pv 0) af (fun _ _=>rfl)) ae) (ac am)))) (bd (aY (bc (aq (aV t) (hr.mono (by decide)) (by rfl) t.h_g.gl t.h_g.fu.kp t.h_g.bi av (aa (aj (pv 0) af (fun _ _=>rfl)) ae) (ac am)))) (bv (aw (dE hu) (cv (qv 0) dF (cy af)) (cv (qv 1) dF (cy af)) (aA _)))))) (ai (ao di)) ar)
    (ag (aJ (PWD.pt (bd (aY (bc (bW gQ (by rfl) t.nb_isinstance (by rfl) t.nb_list (by decide +kernel) (aj (pv 0) af (fun _ _=>rfl))))) (bv (aw (dE hu) (aH bn (by rfl) t.nb_len (by decide +kernel) (aa (aj (pv 0) af (fun _ _=>rfl)) ae)) (aH bn (by rfl) t.nb_len (by decide +kernel) (aa (aj (pv 1) af (fun _ _=>rfl)) ae)) (aA _))))) (ai (ao di)) ar)
    (ai (ao (aH (mw (by rfl)) (by rfl) t.nb_all (by decide +kernel) (aa (bT rfl (CScope.of (osc:=defScope s__law_same) (N:=gK) (tN:=["_law_one", "_law_part"]) (capN:=[]) (caps:=[]) rfl rfl (by decide +kernel)) (iy (by rfl) t.nb_zip (aa (aj (pv 0) af (fun _ _=>rfl)) (aa (aj (pv 1) af (fun _ _=>rfl)) ae))) (by decide) (fun cl C s3 H3 fp=>(bC rfl (aB (au f8 rfl (.inl rfl)) (aB (au f8 rfl (.inl rfl)) bp (fun _ a _ b=>aG a b)) (fun _ a _ b=>aG a b)))) (fun cl C s3 H3 fp=>bw) (fun cl C s3 H3 fp=>(aq (iP t) (hr.mono (by decide)) (by rfl) t.h_z.gl t.h_z.fu.kp t.h_z.bi kg (aa (qv 0) (aa (qv 1) ae)) (ac (ac am))))) ae)))))))
theorem Ap (t:Tx w K mg):FnOk P w K mg base (gh P w) 6 t.f_B t.fd_B P_law (g6 mg 1 nQ):=
 bB t.h_B.fu sc_law fun cdv A outer s H E hr=>
  have hu:=hr.units
  (ag (bb sc_law.nd rfl (.inl rfl) (aq (iN t) (hr.mono (by decide)) (by rfl) t.h_f.gl t.h_f.fu.kp t.h_f.bi av (aa (qv 0) (aa af ae)) (ac (ac am))))
    (ag (bb sc_law.nd rfl (.inl rfl) (aq (iN t) (hr.mono (by decide)) (by rfl) t.h_f.gl t.h_f.fu.kp t.h_f.bi av (aa (qv 0) (aa af ae)) (ac (ac am))))
    (ag (aJ (aY (bc (aq (ic t) (hr.mono (by decide)) (by rfl) t.h_i.gl t.h_i.fu.kp t.h_i.bi av (aa (aq (nU t) (hr.mono (by decide)) (by rfl) t.h_s.gl t.h_s.fu.kp t.h_s.bi av (aa (qv 2) ae) (ac am)) (aa (qv 1) (aa (aq (ll t) (hr.mono (by decide)) (by rfl) t.h_w.gl t.h_w.fu.kp t.h_w.bi av (aa (qv 1) ae) (ac am)) ae))) (ac (ac (ac am)))))) (ai (ao di)) ar)
    (ag (bb sc_law.nd rfl (.inl rfl) (aq (mH t) (hr.mono (by decide)) (by rfl) t.h_x.gl t.h_x.fu.kp t.h_x.bi av (aa (qv 2) ae) (ac am)))
    (ag (aJ (PWD.pt (bd (aY (bc (bW ck (by rfl) t.nb_isinstance (by rfl) t.nb_tuple (by decide +kernel) (qv 3)))) (bd (aw (dE hu) (aH bn (by rfl) t.nb_len (by decide +kernel) (aa (qv 3) ae)) af (aA _)) (bd (aY (bc (aq (aV t) (hr.mono (by decide)) (by rfl) t.h_g.gl t.h_g.fu.kp t.h_g.bi av (aa (aj (pv 3) af (fun _ _=>rfl)) ae) (ac am)))) (bv (aw (dE hu) (aj (pv 3) af (fun _ _=>rfl)) af (aA _))))))) (ai (ao di)) ar)
    (ag (aJ (PWD.pt (bd (aY (bc (bW gQ (by rfl) t.nb_isinstance (by rfl) t.nb_list (by decide +kernel) (aj (pv 3) af (fun _ _=>rfl))))) (bd (aw (dE hu) (aH bn (by rfl) t.nb_len (by decide +kernel) (aa (aj (pv 3) af (fun _ _=>rfl)) ae)) af (aA _)) (bv (aY (bc (aq (aV t) (hr.mono (by decide)) (by rfl) t.h_g.gl t.h_g.fu.kp t.h_g.bi av (aa (gp (aj (pv 3) af (fun _ _=>rfl)) af (fun _ _=>rfl)) ae) (ac am)))))))) (ai (ao di)) ar)
    (ai (ao (oF (iW (be hu) (gp (aj (pv 3) af (fun _ _=>rfl)) af (fun _ _=>rfl)) (az ci (aq (eU t) (hr.mono (by decide)) (by rfl) t.h_t.gl t.h_t.fu.kp t.h_t.bi av (aa (qv 1) (aa aI ae)) (ac (ac am))) (aj (pv 1) af (fun _ _=>rfl))) (aA _)) (oE (aq (mI t) (hr.mono (by decide)) (by rfl) t.h_A.gl t.h_A.fu.kp t.h_A.bi av (aa (qv 2) (aa (qv 1) ae)) (ac (ac am)))))))))))))
end
theorem oY {Q:List Value->Prop}{us:List Value}(hl:us.length=1)(h:∀ a0:Value,Q [a0]):Q us:=by
 match us,hl with
 | [a0],_=>exact h a0
theorem oZ {Q:List Value->Prop}{us:List Value}(hl:us.length=2)(h:∀ a0 a1:Value,Q [a0,a1]):Q us:=by
 match us,hl with
 | [a0,a1],_=>exact h a0 a1
theorem nV {Q:List Value->Prop}{us:List Value}(hl:us.length=3)(h:∀ a0 a1 a2:Value,Q [a0,a1,a2]):Q us:=by
 match us,hl with
 | [a0,a1,a2],_=>exact h a0 a1 a2
theorem Cj {Q:List Value->Prop}{us:List Value}(hl:us.length=4)(h:∀ a0 a1 a2 a3:Value,Q [a0,a1,a2,a3]):Q us:=by
 match us,hl with
 | [a0,a1,a2,a3],_=>exact h a0 a1 a2 a3
theorem Aq {Q:List Value->Prop}{us:List Value}(hl:us.length=5)(h:∀ a0 a1 a2 a3 a4:Value,Q [a0,a1,a2,a3,a4]):Q us:=by
 match us,hl with
 | [a0,a1,a2,a3,a4],_=>exact h a0 a1 a2 a3 a4
theorem DD {Q:List Value->Prop}{us:List Value}(hl:us.length=6)(h:∀ a0 a1 a2 a3 a4 a5:Value,Q [a0,a1,a2,a3,a4,a5]):Q us:=by
 match us,hl with
 | [a0,a1,a2,a3,a4,a5],_=>exact h a0 a1 a2 a3 a4 a5
theorem Ck {w:World}{K KK:PySem.W.Frag}{mg:Str->Option Value}{h:Heap}(X:K.In h)(G:h.Ns mainGlobals mg)(U:SubK K KK)
 {f_a:Addr} {od_a an_a:Option Addr} {sl_a:Array (Option Value)} {oc_a kV_a dc_a pm_a cd_a ct_a:Value}
 (a_a:PySem.W.nsIn K mainGlobals "_law_cell_at"=some (some (.ref f_a))) (l_a:K.lookup f_a=some ⟨oc_a,od_a,.func (PySem.W.fnOf "_law_cell_at" "_law_cell_at" (defArgs s__law_cell_at) (defBody s__law_cell_at) (defScope s__law_cell_at) .none kV_a dc_a pm_a an_a cd_a ct_a),sl_a⟩) (c_a:PySem.W.codeIn K cd_a "_law_cell_at"=true) (k_a:PySem.W.keepIn K (.ref f_a)=true)
 {f_b:Addr} {od_b an_b:Option Addr} {sl_b:Array (Option Value)} {oc_b kV_b dc_b pm_b cd_b ct_b:Value}
 (a_b:PySem.W.nsIn K mainGlobals "_law_digit"=some (some (.ref f_b))) (l_b:K.lookup f_b=some ⟨oc_b,od_b,.func (PySem.W.fnOf "_law_digit" "_law_digit" (defArgs s__law_digit) (defBody s__law_digit) (defScope s__law_digit) .none kV_b dc_b pm_b an_b cd_b ct_b),sl_b⟩) (c_b:PySem.W.codeIn K cd_b "_law_digit"=true) (k_b:PySem.W.keepIn K (.ref f_b)=true)
 {f_c:Addr} {od_c an_c:Option Addr} {sl_c:Array (Option Value)} {oc_c kV_c dc_c pm_c cd_c ct_c:Value}
 (a_c:PySem.W.nsIn K mainGlobals "_law_names"=some (some (.ref f_c))) (l_c:K.lookup f_c=some ⟨oc_c,od_c,.func (PySem.W.fnOf "_law_names" "_law_names" (defArgs s__law_names) (defBody s__law_names) (defScope s__law_names) .none kV_c dc_c pm_c an_c cd_c ct_c),sl_c⟩) (c_c:PySem.W.codeIn K cd_c "_law_names"=true) (k_c:PySem.W.keepIn K (.ref f_c)=true)
 {f_d:Addr} {od_d an_d:Option Addr} {sl_d:Array (Option Value)} {oc_d kV_d dc_d pm_d cd_d ct_d:Value}
 (a_d:PySem.W.nsIn K mainGlobals "_law_row"=some (some (.ref f_d))) (l_d:K.lookup f_d=some ⟨oc_d,od_d,.func (PySem.W.fnOf "_law_row" "_law_row" (defArgs s__law_row) (defBody s__law_row) (defScope s__law_row) .none kV_d dc_d pm_d an_d cd_d ct_d),sl_d⟩) (c_d:PySem.W.codeIn K cd_d "_law_row"=true) (k_d:PySem.W.keepIn K (.ref f_d)=true)
 {f_e:Addr} {od_e an_e:Option Addr} {sl_e:Array (Option Value)} {oc_e kV_e dc_e pm_e cd_e ct_e:Value}
 (a_e:PySem.W.nsIn K mainGlobals "_law_program"=some (some (.ref f_e))) (l_e:K.lookup f_e=some ⟨oc_e,od_e,.func (PySem.W.fnOf "_law_program" "_law_program" (defArgs s__law_program) (defBody s__law_program) (defScope s__law_program) .none kV_e dc_e pm_e an_e cd_e ct_e),sl_e⟩) (c_e:PySem.W.codeIn K cd_e "_law_program"=true) (k_e:PySem.W.keepIn K (.ref f_e)=true)
 {f_f:Addr} {od_f an_f:Option Addr} {sl_f:Array (Option Value)} {oc_f kV_f dc_f pm_f cd_f ct_f:Value}
 (a_f:PySem.W.nsIn K mainGlobals "_law_made"=some (some (.ref f_f))) (l_f:K.lookup f_f=some ⟨oc_f,od_f,.func (PySem.W.fnOf "_law_made" "_law_made" (defArgs s__law_made) (defBody s__law_made) (defScope s__law_made) .none kV_f dc_f pm_f an_f cd_f ct_f),sl_f⟩) (c_f:PySem.W.codeIn K cd_f "_law_made"=true) (k_f:PySem.W.keepIn K (.ref f_f)=true)
 {f_g:Addr} {od_g an_g:Option Addr} {sl_g:Array (Option Value)} {oc_g kV_g dc_g pm_g cd_g ct_g:Value}
 (a_g:PySem.W.nsIn K mainGlobals "_law_whole"=some (some (.ref f_g))) (l_g:K.lookup f_g=some ⟨oc_g,od_g,.func (PySem.W.fnOf "_law_whole" "_law_whole" (defArgs s__law_whole) (defBody s__law_whole) (defScope s__law_whole) .none kV_g dc_g pm_g an_g cd_g ct_g),sl_g⟩) (c_g:PySem.W.codeIn K cd_g "_law_whole"=true) (k_g:PySem.W.keepIn K (.ref f_g)=true)
 {f_h:Addr} {od_h an_h:Option Addr} {sl_h:Array (Option Value)} {oc_h kV_h dc_h pm_h cd_h ct_h:Value}
 (a_h:PySem.W.nsIn K mainGlobals "_law_rule_same"=some (some (.ref f_h))) (l_h:K.lookup f_h=some ⟨oc_h,od_h,.func (PySem.W.fnOf "_law_rule_same" "_law_rule_same" (defArgs s__law_rule_same) (defBody s__law_rule_same) (defScope s__law_rule_same) .none kV_h dc_h pm_h an_h cd_h ct_h),sl_h⟩) (c_h:PySem.W.codeIn K cd_h "_law_rule_same"=true) (k_h:PySem.W.keepIn K (.ref f_h)=true)
 {f_i:Addr} {od_i an_i:Option Addr} {sl_i:Array (Option Value)} {oc_i kV_i dc_i pm_i cd_i ct_i:Value}
 (a_i:PySem.W.nsIn K mainGlobals "_law_house_same"=some (some (.ref f_i))) (l_i:K.lookup f_i=some ⟨oc_i,od_i,.func (PySem.W.fnOf "_law_house_same" "_law_house_same" (defArgs s__law_house_same) (defBody s__law_house_same) (defScope s__law_house_same) .none kV_i dc_i pm_i an_i cd_i ct_i),sl_i⟩) (c_i:PySem.W.codeIn K cd_i "_law_house_same"=true) (k_i:PySem.W.keepIn K (.ref f_i)=true)
 {f_j:Addr} {od_j an_j:Option Addr} {sl_j:Array (Option Value)} {oc_j kV_j dc_j pm_j cd_j ct_j:Value}
 (a_j:PySem.W.nsIn K mainGlobals "point_of"=some (some (.ref f_j))) (l_j:K.lookup f_j=some ⟨oc_j,od_j,.func (PySem.W.fnOf "point_of" "point_of" (defArgs s_point_of) (defBody s_point_of) (defScope s_point_of) .none kV_j dc_j pm_j an_j cd_j ct_j),sl_j⟩) (c_j:PySem.W.codeIn K cd_j "point_of"=true) (k_j:PySem.W.keepIn K (.ref f_j)=true)
 {f_k:Addr} {od_k an_k:Option Addr} {sl_k:Array (Option Value)} {oc_k kV_k dc_k pm_k cd_k ct_k:Value}
 (a_k:PySem.W.nsIn K mainGlobals "first_points"=some (some (.ref f_k))) (l_k:K.lookup f_k=some ⟨oc_k,od_k,.func (PySem.W.fnOf "first_points" "first_points" (defArgs s_first_points) (defBody s_first_points) (defScope s_first_points) .none kV_k dc_k pm_k an_k cd_k ct_k),sl_k⟩) (c_k:PySem.W.codeIn K cd_k "first_points"=true) (k_k:PySem.W.keepIn K (.ref f_k)=true)
 {f_l:Addr} {od_l an_l:Option Addr} {sl_l:Array (Option Value)} {oc_l kV_l dc_l pm_l cd_l ct_l:Value}
 (a_l:PySem.W.nsIn K mainGlobals "sign_of"=some (some (.ref f_l))) (l_l:K.lookup f_l=some ⟨oc_l,od_l,.func (PySem.W.fnOf "sign_of" "sign_of" (defArgs s_sign_of) (defBody s_sign_of) (defScope s_sign_of) .none kV_l dc_l pm_l an_l cd_l ct_l),sl_l⟩) (c_l:PySem.W.codeIn K cd_l "sign_of"=true) (k_l:PySem.W.keepIn K (.ref f_l)=true)
 {f_m:Addr} {od_m an_m:Option Addr} {sl_m:Array (Option Value)} {oc_m kV_m dc_m pm_m cd_m ct_m:Value}
 (a_m:PySem.W.nsIn K mainGlobals "rows_behind"=some (some (.ref f_m))) (l_m:K.lookup f_m=some ⟨oc_m,od_m,.func (PySem.W.fnOf "rows_behind" "rows_behind" (defArgs s_rows_behind) (defBody s_rows_behind) (defScope s_rows_behind) .none kV_m dc_m pm_m an_m cd_m ct_m),sl_m⟩) (c_m:PySem.W.codeIn K cd_m "rows_behind"=true) (k_m:PySem.W.keepIn K (.ref f_m)=true)
 {f_n:Addr} {od_n an_n:Option Addr} {sl_n:Array (Option Value)} {oc_n kV_n dc_n pm_n cd_n ct_n:Value}
 (a_n:PySem.W.nsIn K mainGlobals "values_made"=some (some (.ref f_n))) (l_n:K.lookup f_n=some ⟨oc_n,od_n,.func (PySem.W.fnOf "values_made" "values_made" (defArgs s_values_made) (defBody s_values_made) (defScope s_values_made) .none kV_n dc_n pm_n an_n cd_n ct_n),sl_n⟩) (c_n:PySem.W.codeIn K cd_n "values_made"=true) (k_n:PySem.W.keepIn K (.ref f_n)=true)
 {f_o:Addr} {od_o an_o:Option Addr} {sl_o:Array (Option Value)} {oc_o kV_o dc_o pm_o cd_o ct_o:Value}
 (a_o:PySem.W.nsIn K mainGlobals "changed"=some (some (.ref f_o))) (l_o:K.lookup f_o=some ⟨oc_o,od_o,.func (PySem.W.fnOf "changed" "changed" (defArgs s_changed) (defBody s_changed) (defScope s_changed) .none kV_o dc_o pm_o an_o cd_o ct_o),sl_o⟩) (c_o:PySem.W.codeIn K cd_o "changed"=true) (k_o:PySem.W.keepIn K (.ref f_o)=true)
 {f_p:Addr} {od_p an_p:Option Addr} {sl_p:Array (Option Value)} {oc_p kV_p dc_p pm_p cd_p ct_p:Value}
 (a_p:PySem.W.nsIn K mainGlobals "goes_on"=some (some (.ref f_p))) (l_p:K.lookup f_p=some ⟨oc_p,od_p,.func (PySem.W.fnOf "goes_on" "goes_on" (defArgs s_goes_on) (defBody s_goes_on) (defScope s_goes_on) .none kV_p dc_p pm_p an_p cd_p ct_p),sl_p⟩) (c_p:PySem.W.codeIn K cd_p "goes_on"=true) (k_p:PySem.W.keepIn K (.ref f_p)=true)
 {f_q:Addr} {od_q an_q:Option Addr} {sl_q:Array (Option Value)} {oc_q kV_q dc_q pm_q cd_q ct_q:Value}
 (a_q:PySem.W.nsIn K mainGlobals "leads_to"=some (some (.ref f_q))) (l_q:K.lookup f_q=some ⟨oc_q,od_q,.func (PySem.W.fnOf "leads_to" "leads_to" (defArgs s_leads_to) (defBody s_leads_to) (defScope s_leads_to) .none kV_q dc_q pm_q an_q cd_q ct_q),sl_q⟩) (c_q:PySem.W.codeIn K cd_q "leads_to"=true) (k_q:PySem.W.keepIn K (.ref f_q)=true)
 {f_r:Addr} {od_r an_r:Option Addr} {sl_r:Array (Option Value)} {oc_r kV_r dc_r pm_r cd_r ct_r:Value}
 (a_r:PySem.W.nsIn K mainGlobals "rules_at"=some (some (.ref f_r))) (l_r:K.lookup f_r=some ⟨oc_r,od_r,.func (PySem.W.fnOf "rules_at" "rules_at" (defArgs s_rules_at) (defBody s_rules_at) (defScope s_rules_at) .none kV_r dc_r pm_r an_r cd_r ct_r),sl_r⟩) (c_r:PySem.W.codeIn K cd_r "rules_at"=true) (k_r:PySem.W.keepIn K (.ref f_r)=true)
 {f_s:Addr} {od_s an_s:Option Addr} {sl_s:Array (Option Value)} {oc_s kV_s dc_s pm_s cd_s ct_s:Value}
 (a_s:PySem.W.nsIn K mainGlobals "house_of"=some (some (.ref f_s))) (l_s:K.lookup f_s=some ⟨oc_s,od_s,.func (PySem.W.fnOf "house_of" "house_of" (defArgs s_house_of) (defBody s_house_of) (defScope s_house_of) .none kV_s dc_s pm_s an_s cd_s ct_s),sl_s⟩) (c_s:PySem.W.codeIn K cd_s "house_of"=true) (k_s:PySem.W.keepIn K (.ref f_s)=true)
 {f_t:Addr} {od_t an_t:Option Addr} {sl_t:Array (Option Value)} {oc_t kV_t dc_t pm_t cd_t ct_t:Value}
 (a_t:PySem.W.nsIn K mainGlobals "_law_first"=some (some (.ref f_t))) (l_t:K.lookup f_t=some ⟨oc_t,od_t,.func (PySem.W.fnOf "_law_first" "_law_first" (defArgs s__law_first) (defBody s__law_first) (defScope s__law_first) .none kV_t dc_t pm_t an_t cd_t ct_t),sl_t⟩) (c_t:PySem.W.codeIn K cd_t "_law_first"=true) (k_t:PySem.W.keepIn K (.ref f_t)=true)
 {f_u:Addr} {od_u an_u:Option Addr} {sl_u:Array (Option Value)} {oc_u kV_u dc_u pm_u cd_u ct_u:Value}
 (a_u:PySem.W.nsIn K mainGlobals "_law_behind"=some (some (.ref f_u))) (l_u:K.lookup f_u=some ⟨oc_u,od_u,.func (PySem.W.fnOf "_law_behind" "_law_behind" (defArgs s__law_behind) (defBody s__law_behind) (defScope s__law_behind) .none kV_u dc_u pm_u an_u cd_u ct_u),sl_u⟩) (c_u:PySem.W.codeIn K cd_u "_law_behind"=true) (k_u:PySem.W.keepIn K (.ref f_u)=true)
 {f_v:Addr} {od_v an_v:Option Addr} {sl_v:Array (Option Value)} {oc_v kV_v dc_v pm_v cd_v ct_v:Value}
 (a_v:PySem.W.nsIn K mainGlobals "_law_moves"=some (some (.ref f_v))) (l_v:K.lookup f_v=some ⟨oc_v,od_v,.func (PySem.W.fnOf "_law_moves" "_law_moves" (defArgs s__law_moves) (defBody s__law_moves) (defScope s__law_moves) .none kV_v dc_v pm_v an_v cd_v ct_v),sl_v⟩) (c_v:PySem.W.codeIn K cd_v "_law_moves"=true) (k_v:PySem.W.keepIn K (.ref f_v)=true)
 {f_w:Addr} {od_w an_w:Option Addr} {sl_w:Array (Option Value)} {oc_w kV_w dc_w pm_w cd_w ct_w:Value}
 (a_w:PySem.W.nsIn K mainGlobals "_law_rules"=some (some (.ref f_w))) (l_w:K.lookup f_w=some ⟨oc_w,od_w,.func (PySem.W.fnOf "_law_rules" "_law_rules" (defArgs s__law_rules) (defBody s__law_rules) (defScope s__law_rules) .none kV_w dc_w pm_w an_w cd_w ct_w),sl_w⟩) (c_w:PySem.W.codeIn K cd_w "_law_rules"=true) (k_w:PySem.W.keepIn K (.ref f_w)=true)
 {f_x:Addr} {od_x an_x:Option Addr} {sl_x:Array (Option Value)} {oc_x kV_x dc_x pm_x cd_x ct_x:Value}
 (a_x:PySem.W.nsIn K mainGlobals "beginning"=some (some (.ref f_x))) (l_x:K.lookup f_x=some ⟨oc_x,od_x,.func (PySem.W.fnOf "beginning" "beginning" (defArgs s_beginning) (defBody s_beginning) (defScope s_beginning) .none kV_x dc_x pm_x an_x cd_x ct_x),sl_x⟩) (c_x:PySem.W.codeIn K cd_x "beginning"=true) (k_x:PySem.W.keepIn K (.ref f_x)=true)
 {f_y:Addr} {od_y an_y:Option Addr} {sl_y:Array (Option Value)} {oc_y kV_y dc_y pm_y cd_y ct_y:Value}
 (a_y:PySem.W.nsIn K mainGlobals "_law_row_same"=some (some (.ref f_y))) (l_y:K.lookup f_y=some ⟨oc_y,od_y,.func (PySem.W.fnOf "_law_row_same" "_law_row_same" (defArgs s__law_row_same) (defBody s__law_row_same) (defScope s__law_row_same) .none kV_y dc_y pm_y an_y cd_y ct_y),sl_y⟩) (c_y:PySem.W.codeIn K cd_y "_law_row_same"=true) (k_y:PySem.W.keepIn K (.ref f_y)=true)
 {f_z:Addr} {od_z an_z:Option Addr} {sl_z:Array (Option Value)} {oc_z kV_z dc_z pm_z cd_z ct_z:Value}
 (a_z:PySem.W.nsIn K mainGlobals "_law_rows_same"=some (some (.ref f_z))) (l_z:K.lookup f_z=some ⟨oc_z,od_z,.func (PySem.W.fnOf "_law_rows_same" "_law_rows_same" (defArgs s__law_rows_same) (defBody s__law_rows_same) (defScope s__law_rows_same) .none kV_z dc_z pm_z an_z cd_z ct_z),sl_z⟩) (c_z:PySem.W.codeIn K cd_z "_law_rows_same"=true) (k_z:PySem.W.keepIn K (.ref f_z)=true)
 {f_A:Addr} {od_A an_A:Option Addr} {sl_A:Array (Option Value)} {oc_A kV_A dc_A pm_A cd_A ct_A:Value}
 (a_A:PySem.W.nsIn K mainGlobals "_law_same"=some (some (.ref f_A))) (l_A:K.lookup f_A=some ⟨oc_A,od_A,.func (PySem.W.fnOf "_law_same" "_law_same" (defArgs s__law_same) (defBody s__law_same) (defScope s__law_same) .none kV_A dc_A pm_A an_A cd_A ct_A),sl_A⟩) (c_A:PySem.W.codeIn K cd_A "_law_same"=true) (k_A:PySem.W.keepIn K (.ref f_A)=true)
 {f_B:Addr} {od_B an_B:Option Addr} {sl_B:Array (Option Value)} {oc_B kV_B dc_B pm_B cd_B ct_B:Value}
 (a_B:PySem.W.nsIn K mainGlobals "law"=some (some (.ref f_B))) (l_B:K.lookup f_B=some ⟨oc_B,od_B,.func (PySem.W.fnOf "law" "law" (defArgs s_law) (defBody s_law) (defScope s_law) .none kV_B dc_B pm_B an_B cd_B ct_B),sl_B⟩) (c_B:PySem.W.codeIn K cd_B "law"=true) (k_B:PySem.W.keepIn K (.ref f_B)=true)
 (z_all:PySem.W.nsIn K mainGlobals "all"=some none)
 (z_bool:PySem.W.nsIn K mainGlobals "bool"=some none)
 (z_dict:PySem.W.nsIn K mainGlobals "dict"=some none)
 (z_enumerate:PySem.W.nsIn K mainGlobals "enumerate"=some none)
 (z_int:PySem.W.nsIn K mainGlobals "int"=some none)
 (z_isinstance:PySem.W.nsIn K mainGlobals "isinstance"=some none)
 (z_len:PySem.W.nsIn K mainGlobals "len"=some none)
 (z_list:PySem.W.nsIn K mainGlobals "list"=some none)
 (z_max:PySem.W.nsIn K mainGlobals "max"=some none)
 (z_range:PySem.W.nsIn K mainGlobals "range"=some none)
 (z_str:PySem.W.nsIn K mainGlobals "str"=some none)
 (z_sum:PySem.W.nsIn K mainGlobals "sum"=some none)
 (z_tuple:PySem.W.nsIn K mainGlobals "tuple"=some none)
 (z_zip:PySem.W.nsIn K mainGlobals "zip"=some none)
 {C_NoRow:Addr} (b_NoRow:PySem.W.nsIn K mainGlobals "NoRow"=some (some (.ref C_NoRow))) (e_NoRow:PySem.W.excIn K C_NoRow vMro "ValueError.__new__"=true)
 {C_NoName:Addr} (b_NoName:PySem.W.nsIn K mainGlobals "NoName"=some (some (.ref C_NoName))) (e_NoName:PySem.W.excIn K C_NoName vMro "ValueError.__new__"=true)
 {ad_PLACES ep_PLACES:Nat} {hs_PLACES_0 hs_PLACES_1:Int} {tk_PLACES_0 tv_PLACES_0 tk_PLACES_1 tv_PLACES_1:Tok} (g_PLACES:PySem.W.nsIn K mainGlobals "PLACES"=some (some (.ref ad_PLACES))) (d_PLACES:K.lookup ad_PLACES=some ⟨.type "dict",none,.dict #[⟨hs_PLACES_0,.str "shared" tk_PLACES_0,.int 0 tv_PLACES_0⟩,⟨hs_PLACES_1,.str "own" tk_PLACES_1,.int 1 tv_PLACES_1⟩] ep_PLACES,#[]⟩)
 (m_PLACES_0:hs_PLACES_0=hashStr w "shared")
 (m_PLACES_1:hs_PLACES_1=hashStr w "own")
 : ∃ t:Tx w KK mg,t.f_B=f_B:=
 ⟨⟨f_a,_,⟨aC (st:=s__law_cell_at) (U.look _ _ l_a (fun _ _ z=>nomatch z)) (U.code c_a) (U.keep l_a),(aC (st:=s__law_cell_at) (U.look _ _ l_a (fun _ _ z=>nomatch z)) (U.code c_a) (U.keep l_a)).binds (ps:=P__law_cell_at) fun _ _ _ _ _ _ us hl=>oZ (Q:=fun us=>bindArgs _ ⟨us,[]⟩=pure (List.zip P__law_cell_at us)) hl fun _ _=>rfl,PySem.W.mg_of X G a_a⟩,
   f_b,_,⟨aC (st:=s__law_digit) (U.look _ _ l_b (fun _ _ z=>nomatch z)) (U.code c_b) (U.keep l_b),(aC (st:=s__law_digit) (U.look _ _ l_b (fun _ _ z=>nomatch z)) (U.code c_b) (U.keep l_b)).binds (ps:=P__law_digit) fun _ _ _ _ _ _ us hl=>nV (Q:=fun us=>bindArgs _ ⟨us,[]⟩=pure (List.zip P__law_digit us)) hl fun _ _ _=>rfl,PySem.W.mg_of X G a_b⟩,
   f_c,_,⟨aC (st:=s__law_names) (U.look _ _ l_c (fun _ _ z=>nomatch z)) (U.code c_c) (U.keep l_c),(aC (st:=s__law_names) (U.look _ _ l_c (fun _ _ z=>nomatch z)) (U.code c_c) (U.keep l_c)).binds (ps:=P__law_names) fun _ _ _ _ _ _ us hl=>oY (Q:=fun us=>bindArgs _ ⟨us,[]⟩=pure (List.zip P__law_names us)) hl fun _=>rfl,PySem.W.mg_of X G a_c⟩,
   f_d,_,⟨aC (st:=s__law_row) (U.look _ _ l_d (fun _ _ z=>nomatch z)) (U.code c_d) (U.keep l_d),(aC (st:=s__law_row) (U.look _ _ l_d (fun _ _ z=>nomatch z)) (U.code c_d) (U.keep l_d)).binds (ps:=P__law_row) fun _ _ _ _ _ _ us hl=>Aq (Q:=fun us=>bindArgs _ ⟨us,[]⟩=pure (List.zip P__law_row us)) hl fun _ _ _ _ _=>rfl,PySem.W.mg_of X G a_d⟩,
   f_e,_,⟨aC (st:=s__law_program) (U.look _ _ l_e (fun _ _ z=>nomatch z)) (U.code c_e) (U.keep l_e),(aC (st:=s__law_program) (U.look _ _ l_e (fun _ _ z=>nomatch z)) (U.code c_e) (U.keep l_e)).binds (ps:=P__law_program) fun _ _ _ _ _ _ us hl=>Cj (Q:=fun us=>bindArgs _ ⟨us,[]⟩=pure (List.zip P__law_program us)) hl fun _ _ _ _=>rfl,PySem.W.mg_of X G a_e⟩,
   f_f,_,⟨aC (st:=s__law_made) (U.look _ _ l_f (fun _ _ z=>nomatch z)) (U.code c_f) (U.keep l_f),(aC (st:=s__law_made) (U.look _ _ l_f (fun _ _ z=>nomatch z)) (U.code c_f) (U.keep l_f)).binds (ps:=P__law_made) fun _ _ _ _ _ _ us hl=>oZ (Q:=fun us=>bindArgs _ ⟨us,[]⟩=pure (List.zip P__law_made us)) hl fun _ _=>rfl,PySem.W.mg_of X G a_f⟩,
   f_g,_,⟨aC (st:=s__law_whole) (U.look _ _ l_g (fun _ _ z=>nomatch z)) (U.code c_g) (U.keep l_g),(aC (st:=s__law_whole) (U.look _ _ l_g (fun _ _ z=>nomatch z)) (U.code c_g) (U.keep l_g)).binds (ps:=P__law_whole) fun _ _ _ _ _ _ us hl=>oY (Q:=fun us=>bindArgs _ ⟨us,[]⟩=pure (List.zip P__law_whole us)) hl fun _=>rfl,PySem.W.mg_of X G a_g⟩,
   f_h,_,⟨aC (st:=s__law_rule_same) (U.look _ _ l_h (fun _ _ z=>nomatch z)) (U.code c_h) (U.keep l_h),(aC (st:=s__law_rule_same) (U.look _ _ l_h (fun _ _ z=>nomatch z)) (U.code c_h) (U.keep l_h)).binds (ps:=P__law_rule_same) fun _ _ _ _ _ _ us hl=>oZ (Q:=fun us=>bindArgs _ ⟨us,[]⟩=pure (List.zip P__law_rule_same us)) hl fun _ _=>rfl,PySem.W.mg_of X G a_h⟩,
   f_i,_,⟨aC (st:=s__law_house_same) (U.look _ _ l_i (fun _ _ z=>nomatch z)) (U.code c_i) (U.keep l_i),(aC (st:=s__law_house_same) (U.look _ _ l_i (fun _ _ z=>nomatch z)) (U.code c_i) (U.keep l_i)).binds (ps:=P__law_house_same) fun _ _ _ _ _ _ us hl=>nV (Q:=fun us=>bindArgs _ ⟨us,[]⟩=pure (List.zip P__law_house_same us)) hl fun _ _ _=>rfl,PySem.W.mg_of X G a_i⟩,
   f_j,_,⟨aC (st:=s_point_of) (U.look _ _ l_j (fun _ _ z=>nomatch z)) (U.code c_j) (U.keep l_j),(aC (st:=s_point_of) (U.look _ _ l_j (fun _ _ z=>nomatch z)) (U.code c_j) (U.keep l_j)).binds (ps:=P_point_of) fun _ _ _ _ _ _ us hl=>nV (Q:=fun us=>bindArgs _ ⟨us,[]⟩=pure (List.zip P_point_of us)) hl fun _ _ _=>rfl,PySem.W.mg_of X G a_j⟩,
   f_k,_,⟨aC (st:=s_first_points) (U.look _ _ l_k (fun _ _ z=>nomatch z)) (U.code c_k) (U.keep l_k),(aC (st:=s_first_points) (U.look _ _ l_k (fun _ _ z=>nomatch z)) (U.code c_k) (U.keep l_k)).binds (ps:=P_first_points) fun _ _ _ _ _ _ us hl=>oY (Q:=fun us=>bindArgs _ ⟨us,[]⟩=pure (List.zip P_first_points us)) hl fun _=>rfl,PySem.W.mg_of X G a_k⟩,
   f_l,_,⟨aC (st:=s_sign_of) (U.look _ _ l_l (fun _ _ z=>nomatch z)) (U.code c_l) (U.keep l_l),(aC (st:=s_sign_of) (U.look _ _ l_l (fun _ _ z=>nomatch z)) (U.code c_l) (U.keep l_l)).binds (ps:=P_sign_of) fun _ _ _ _ _ _ us hl=>nV (Q:=fun us=>bindArgs _ ⟨us,[]⟩=pure (List.zip P_sign_of us)) hl fun _ _ _=>rfl,PySem.W.mg_of X G a_l⟩,
   f_m,_,⟨aC (st:=s_rows_behind) (U.look _ _ l_m (fun _ _ z=>nomatch z)) (U.code c_m) (U.keep l_m),(aC (st:=s_rows_behind) (U.look _ _ l_m (fun _ _ z=>nomatch z)) (U.code c_m) (U.keep l_m)).binds (ps:=P_rows_behind) fun _ _ _ _ _ _ us hl=>nV (Q:=fun us=>bindArgs _ ⟨us,[]⟩=pure (List.zip P_rows_behind us)) hl fun _ _ _=>rfl,PySem.W.mg_of X G a_m⟩,
   f_n,_,⟨aC (st:=s_values_made) (U.look _ _ l_n (fun _ _ z=>nomatch z)) (U.code c_n) (U.keep l_n),(aC (st:=s_values_made) (U.look _ _ l_n (fun _ _ z=>nomatch z)) (U.code c_n) (U.keep l_n)).binds (ps:=P_values_made) fun _ _ _ _ _ _ us hl=>nV (Q:=fun us=>bindArgs _ ⟨us,[]⟩=pure (List.zip P_values_made us)) hl fun _ _ _=>rfl,PySem.W.mg_of X G a_n⟩,
   f_o,_,⟨aC (st:=s_changed) (U.look _ _ l_o (fun _ _ z=>nomatch z)) (U.code c_o) (U.keep l_o),(aC (st:=s_changed) (U.look _ _ l_o (fun _ _ z=>nomatch z)) (U.code c_o) (U.keep l_o)).binds (ps:=P_changed) fun _ _ _ _ _ _ us hl=>nV (Q:=fun us=>bindArgs _ ⟨us,[]⟩=pure (List.zip P_changed us)) hl fun _ _ _=>rfl,PySem.W.mg_of X G a_o⟩,
   f_p,_,⟨aC (st:=s_goes_on) (U.look _ _ l_p (fun _ _ z=>nomatch z)) (U.code c_p) (U.keep l_p),(aC (st:=s_goes_on) (U.look _ _ l_p (fun _ _ z=>nomatch z)) (U.code c_p) (U.keep l_p)).binds (ps:=P_goes_on) fun _ _ _ _ _ _ us hl=>Cj (Q:=fun us=>bindArgs _ ⟨us,[]⟩=pure (List.zip P_goes_on us)) hl fun _ _ _ _=>rfl,PySem.W.mg_of X G a_p⟩,
   f_q,_,⟨aC (st:=s_leads_to) (U.look _ _ l_q (fun _ _ z=>nomatch z)) (U.code c_q) (U.keep l_q),(aC (st:=s_leads_to) (U.look _ _ l_q (fun _ _ z=>nomatch z)) (U.code c_q) (U.keep l_q)).binds (ps:=P_leads_to) fun _ _ _ _ _ _ us hl=>DD (Q:=fun us=>bindArgs _ ⟨us,[]⟩=pure (List.zip P_leads_to us)) hl fun _ _ _ _ _ _=>rfl,PySem.W.mg_of X G a_q⟩,
   f_r,_,⟨aC (st:=s_rules_at) (U.look _ _ l_r (fun _ _ z=>nomatch z)) (U.code c_r) (U.keep l_r),(aC (st:=s_rules_at) (U.look _ _ l_r (fun _ _ z=>nomatch z)) (U.code c_r) (U.keep l_r)).binds (ps:=P_rules_at) fun _ _ _ _ _ _ us hl=>Aq (Q:=fun us=>bindArgs _ ⟨us,[]⟩=pure (List.zip P_rules_at us)) hl fun _ _ _ _ _=>rfl,PySem.W.mg_of X G a_r⟩,
   f_s,_,⟨aC (st:=s_house_of) (U.look _ _ l_s (fun _ _ z=>nomatch z)) (U.code c_s) (U.keep l_s),(aC (st:=s_house_of) (U.look _ _ l_s (fun _ _ z=>nomatch z)) (U.code c_s) (U.keep l_s)).binds (ps:=P_house_of) fun _ _ _ _ _ _ us hl=>oY (Q:=fun us=>bindArgs _ ⟨us,[]⟩=pure (List.zip P_house_of us)) hl fun _=>rfl,PySem.W.mg_of X G a_s⟩,
   f_t,_,⟨aC (st:=s__law_first) (U.look _ _ l_t (fun _ _ z=>nomatch z)) (U.code c_t) (U.keep l_t),(aC (st:=s__law_first) (U.look _ _ l_t (fun _ _ z=>nomatch z)) (U.code c_t) (U.keep l_t)).binds (ps:=P__law_first) fun _ _ _ _ _ _ us hl=>oZ (Q:=fun us=>bindArgs _ ⟨us,[]⟩=pure (List.zip P__law_first us)) hl fun _ _=>rfl,PySem.W.mg_of X G a_t⟩,
   f_u,_,⟨aC (st:=s__law_behind) (U.look _ _ l_u (fun _ _ z=>nomatch z)) (U.code c_u) (U.keep l_u),(aC (st:=s__law_behind) (U.look _ _ l_u (fun _ _ z=>nomatch z)) (U.code c_u) (U.keep l_u)).binds (ps:=P__law_behind) fun _ _ _ _ _ _ us hl=>nV (Q:=fun us=>bindArgs _ ⟨us,[]⟩=pure (List.zip P__law_behind us)) hl fun _ _ _=>rfl,PySem.W.mg_of X G a_u⟩,
   f_v,_,⟨aC (st:=s__law_moves) (U.look _ _ l_v (fun _ _ z=>nomatch z)) (U.code c_v) (U.keep l_v),(aC (st:=s__law_moves) (U.look _ _ l_v (fun _ _ z=>nomatch z)) (U.code c_v) (U.keep l_v)).binds (ps:=P__law_moves) fun _ _ _ _ _ _ us hl=>Aq (Q:=fun us=>bindArgs _ ⟨us,[]⟩=pure (List.zip P__law_moves us)) hl fun _ _ _ _ _=>rfl,PySem.W.mg_of X G a_v⟩,
   f_w,_,⟨aC (st:=s__law_rules) (U.look _ _ l_w (fun _ _ z=>nomatch z)) (U.code c_w) (U.keep l_w),(aC (st:=s__law_rules) (U.look _ _ l_w (fun _ _ z=>nomatch z)) (U.code c_w) (U.keep l_w)).binds (ps:=P__law_rules) fun _ _ _ _ _ _ us hl=>oY (Q:=fun us=>bindArgs _ ⟨us,[]⟩=pure (List.zip P__law_rules us)) hl fun _=>rfl,PySem.W.mg_of X G a_w⟩,
   f_x,_,⟨aC (st:=s_beginning) (U.look _ _ l_x (fun _ _ z=>nomatch z)) (U.code c_x) (U.keep l_x),(aC (st:=s_beginning) (U.look _ _ l_x (fun _ _ z=>nomatch z)) (U.code c_x) (U.keep l_x)).binds (ps:=P_beginning) fun _ _ _ _ _ _ us hl=>oY (Q:=fun us=>bindArgs _ ⟨us,[]⟩=pure (List.zip P_beginning us)) hl fun _=>rfl,PySem.W.mg_of X G a_x⟩,
   f_y,_,⟨aC (st:=s__law_row_same) (U.look _ _ l_y (fun _ _ z=>nomatch z)) (U.code c_y) (U.keep l_y),(aC (st:=s__law_row_same) (U.look _ _ l_y (fun _ _ z=>nomatch z)) (U.code c_y) (U.keep l_y)).binds (ps:=P__law_row_same) fun _ _ _ _ _ _ us hl=>oZ (Q:=fun us=>bindArgs _ ⟨us,[]⟩=pure (List.zip P__law_row_same us)) hl fun _ _=>rfl,PySem.W.mg_of X G a_y⟩,
   f_z,_,⟨aC (st:=s__law_rows_same) (U.look _ _ l_z (fun _ _ z=>nomatch z)) (U.code c_z) (U.keep l_z),(aC (st:=s__law_rows_same) (U.look _ _ l_z (fun _ _ z=>nomatch z)) (U.code c_z) (U.keep l_z)).binds (ps:=P__law_rows_same) fun _ _ _ _ _ _ us hl=>oZ (Q:=fun us=>bindArgs _ ⟨us,[]⟩=pure (List.zip P__law_rows_same us)) hl fun _ _=>rfl,PySem.W.mg_of X G a_z⟩,
   f_A,_,⟨aC (st:=s__law_same) (U.look _ _ l_A (fun _ _ z=>nomatch z)) (U.code c_A) (U.keep l_A),(aC (st:=s__law_same) (U.look _ _ l_A (fun _ _ z=>nomatch z)) (U.code c_A) (U.keep l_A)).binds (ps:=P__law_same) fun _ _ _ _ _ _ us hl=>oZ (Q:=fun us=>bindArgs _ ⟨us,[]⟩=pure (List.zip P__law_same us)) hl fun _ _=>rfl,PySem.W.mg_of X G a_A⟩,
   f_B,_,⟨aC (st:=s_law) (U.look _ _ l_B (fun _ _ z=>nomatch z)) (U.code c_B) (U.keep l_B),(aC (st:=s_law) (U.look _ _ l_B (fun _ _ z=>nomatch z)) (U.code c_B) (U.keep l_B)).binds (ps:=P_law) fun _ _ _ _ _ _ us hl=>oY (Q:=fun us=>bindArgs _ ⟨us,[]⟩=pure (List.zip P_law us)) hl fun _=>rfl,PySem.W.mg_of X G a_B⟩,
   PySem.W.mg_none_of X G z_all,
   PySem.W.mg_none_of X G z_bool,
   PySem.W.mg_none_of X G z_dict,
   PySem.W.mg_none_of X G z_enumerate,
   PySem.W.mg_none_of X G z_int,
   PySem.W.mg_none_of X G z_isinstance,
   PySem.W.mg_none_of X G z_len,
   PySem.W.mg_none_of X G z_list,
   PySem.W.mg_none_of X G z_max,
   PySem.W.mg_none_of X G z_range,
   PySem.W.mg_none_of X G z_str,
   PySem.W.mg_none_of X G z_sum,
   PySem.W.mg_none_of X G z_tuple,
   PySem.W.mg_none_of X G z_zip,
   C_NoRow,⟨PySem.W.mg_of X G b_NoRow,(U.exc e_NoRow).1⟩,
   C_NoName,⟨PySem.W.mg_of X G b_NoName,(U.exc e_NoName).1⟩,
   ⟨_,PySem.W.mg_of X G g_PLACES,_,_,U.look _ _ d_PLACES (fun _ _ z=>nomatch z),⟨⟨m_PLACES_0,⟨_,rfl⟩,_,rfl⟩,⟨⟨m_PLACES_1,⟨_,rfl⟩,_,rfl⟩,True.intro⟩⟩,by decide⟩⟩,rfl⟩
theorem Ar {l:PySem.W.OpenLaw} {w:World} {K:PySem.W.Frag} {mg:Str->Option Value} {fa:Addr} (hfa:mg "law"=some (.ref fa)) (T:∃ t:Tx w K mg,True) :
 ∃ fd:FuncData,(∀(s:Shared)(v:Value),BindsTo s fd ⟨[v],[]⟩ [("_law_script",v)])/\∀ base:Heap,FnOk l.prog w K mg base (gh l.prog w) 6 fa fd ["_law_script"] (CH nQ):=by
 obtain⟨t,_⟩:=T
 have e:=hfa.symm.trans t.h_B.gl
 cases e
 obtain⟨oc,od,kV,doc,pm,an,cdv,ct,osl,efd,lk,hcd⟩:=t.h_B.fu.ex
 exact⟨t.fd_B,fun s v=>by rw[efd];exact .of_eq rfl,fun base=>FnOk.top (Ap t)⟩
end W
namespace W
open PySem L2 L3
end W
namespace W
open PySem L2 L3
noncomputable def xU:Int:=1000000000000000000000000000000000000000000000000000000000000
theorem DZ:(0:Int)<1000000000000000000000000000000000000000000000000000000000000:=by decide
noncomputable def dg (c p n:Int):Int:=(c % xU*48271+11) % p % n
theorem f_ (c p n:Int)(h:0<n):0<=dg c p n:=Int.emod_nonneg _ (by omega)
theorem ga (c p n:Int)(h:0<n):dg c p n<n:=Int.emod_lt_of_pos _ h
theorem aZ (c p n:Int)(hp:0<p)(hn:0<n):aK [.int c,.int p,.int n]=.ok (.val (.int (dg c p n)) true []):=by
 simp_arith[aK,iB,hp,hn,DZ]
 rfl
noncomputable def r9 (ns:List Int)(k:Int):Int:=if k<ns.length then (atI ns k).getD 0 % xU else 0
theorem uY (ns:List Int)(k:Int)(h0:0<=k):bG [.lst (ns.map .int),.int k]=.ok (.val (.int (r9 ns k)) true []):=by
 by_cases h:k<ns.length
 ·have hd:decide (k<(ns.length:Int))=true:=decide_eq_true h
  obtain⟨a,ea,_⟩:=mB h0 h
  have ha:atI (ns.map D.int) k=some (.int a):=by rw[pZ,ea];rfl
  simp_arith[bG,dI,List.length_map,hd,ha,DZ]
  unfold r9;rw[if_pos h,ea];rfl
 ·have hd:decide (k<(ns.length:Int))=false:=decide_eq_false h
  simp_arith[bG,dI,List.length_map,hd]
  unfold r9;rw[if_neg h]
noncomputable def Wd:D->Prop
 | .str _=>True
 | .int _=>True
 |_=>False
theorem Wd.flat {d:D}(h:Wd d):d.flat=true:=by cases d<;>first|rfl|exact h.elim
theorem cU (i:Int):aR [.int i]=.ok (.val (.bl true) true []):=by
 simp_arith[aR,iF]
end W
namespace W
open PySem L2 L3
theorem iQ (ds:List D):gb ds ds=ds.map fun d=>.tup [d,d]:=by
 induction ds with
 |nil=>rfl
 |cons d r ih=>rw[List.map_cons];unfold gb;rw[ih]
theorem As {x:Int}:sC "str" (.int x)=false:=(rfl)
theorem uZ {x:Str}:sC "str" (.str x)=true:=(rfl)
theorem At {x:Str}:sC "int" (.str x)=false:=(rfl)
noncomputable def Row (ds:List D):Prop:=ds.length<=4/\∀ d∈ds,Wd d
theorem Row.flats {ds:List D}(h:Row ds):D.flats ds=true:=cZ fun d hd=>(h.2 d hd).flat
theorem Row.deps {ds:List D}(h:Row ds):D.deps ds<=0:=pY fun d hd=>by
 have:=h.2 d hd
 cases d<;>first|exact Nat.le_refl _|exact this.elim
theorem u0 {a b:Option Sl}{d:D}{f:Bool}(h:Wd d):bx [a,b,some (.val d f),some (.val d f)]=.ok (.nx [a,b,some (.val d f),some (.val d f)]):=by
 cases d with
 |str x=>simp_arith[bx,uZ,At]
 |int x=>simp_arith[bx,As,uv,cU]
 |_=>exact h.elim
theorem u3 (ds:List D)(h:Row ds):cg [.tup ds,.tup ds]=.ok (.val (.bl true) true []):=by
 have hfl:=h.flats
 have hdp:=h.deps
 obtain⟨bf,lp,e2,e3,rfl⟩:=nP (fr:=true) (asg:=gT 2 (aE (gN 2) (aE (gN 3) bO))) (body:=bx) (fun d:D=>D.tup [d,d]) (fun _ env=>∃ e2 e3,env=[some (.val (.tup ds) false),some (.val (.tup ds) false),e2,e3]) ds [] [some (.val (.tup ds) false),some (.val (.tup ds) false),none,none] ⟨_,_,rfl⟩
  (by
    rintro pre post d env _ ⟨e2,e3,rfl⟩ hd
    exact⟨_,_,rfl,u0 (h.2 d hd),_,_,rfl⟩)
 have hne:(((ds.length:Nat):Int)==((ds.length:Nat):Int))=true:=beq_self_eq_true _
 have hdd:(D.tup ds).dep<=50:=by rw[mz];omega
 simp_arith[cg,f7,nK,hne,iQ,hfl]
 simp_arith[lp,hfl]
 rw[cN (a:=.val (.tup ds) true []) (b:=.val (.tup ds) true []) hdd hdd]
 simp_arith[bM]
end W
namespace W
open PySem L2 L3
noncomputable abbrev Pr:=Str×List (List D)
noncomputable def ig (p:Pr):D:=.tup [.str p.1,.lst (p.2.map .tup)]
noncomputable def vp (s o:Int)(ps:List Pr):D:=.tup [.int s,.int o,.lst (ps.map ig)]
noncomputable def Au (p:Pr):Prop:=p.1.length<=20/\0<p.2.length/\p.2.length<=400/\∀ r∈p.2,Row r
theorem r_ (p:Pr)(h:Au p):b9 [ig p,ig p]=.ok (.val (.bl true) true []):=by
 obtain⟨n,rs⟩:=p
 obtain⟨_,_,h1,h2⟩:=h
 dsimp only at h1 h2
 have hne:((((rs.map D.tup).length:Nat):Int)==(((rs.map D.tup).length:Nat):Int))=true:=beq_self_eq_true _
 have hz:gb (rs.map D.tup) (rs.map D.tup)=rs.map fun r=>D.tup [D.tup r,D.tup r]:=by rw[iQ,List.map_map];rfl
 have hc:=a_ (mk:=fun d=>gT 2 (aE (gN 0) (aE (gN 1) bO)) d false (cI [some (.val (ig (n,rs)) false),some (.val (ig (n,rs)) false)] 2 [])) (test:=fun _=>.ok true) (elt:=cn) (fun r:List D=>D.tup [D.tup r,D.tup r]) (fun _=>.val (.bl true) true []) rs
  fun r hr=>⟨[some (.val (.tup r) false),some (.val (.tup r) false)],rfl,rfl,by simp_arith[cn,u3 r (h2 r hr),(h2 r hr).flats]⟩
 have hn:(n==n)=true:=beq_self_eq_true n
 simp_arith[b9,fA,ig,uZ,nK,bM,hne,hz]
 rw[ig]at hc
 rw[bK (by rw[List.length_map];omega) hc,dH (fun _=>D.bl true),bA (aU (fun _=>D.bl true) rs fun _=>rfl)]
 simp_arith[nN,gS]
theorem u4 (p:Pr):(ig p).flat=false:=by unfold ig;simp only[gB,cO,nL,kr,Bool.true_and,Bool.false_and]
theorem xi (s o:Int)(ps:List Pr)(hl:ps.length<=400)(h:∀ p∈ps,Au p):c_ [vp s o ps,vp s o ps]=.ok (.val (.bl true) true []):=by
 have hne:((((ps.map ig).length:Nat):Int)==(((ps.map ig).length:Nat):Int))=true:=beq_self_eq_true _
 have hz:gb (ps.map ig) (ps.map ig)=ps.map fun p=>D.tup [ig p,ig p]:=by rw[iQ,List.map_map];rfl
 have hc:=a_ (mk:=fun d=>gT 2 (aE (gN 0) (aE (gN 1) bO)) d false (cI [some (.val (vp s o ps) false),some (.val (vp s o ps) false)] 2 [])) (test:=fun _=>.ok true) (elt:=eS) (fun p:Pr=>D.tup [ig p,ig p]) (fun _=>.val (.bl true) true []) ps
  fun p hp=>⟨[some (.val (ig p) false),some (.val (ig p) false)],rfl,rfl,by simp_arith[eS,r_ p (h p hp),u4 p]⟩
 have hcut:eL [D.int s,D.int o,D.lst (ps.map ig)] none (some 2)=[D.int s,D.int o]:=(rfl)
 simp_arith[c_,jA,vp,cU,nK,bM,hne,hz,hcut]
 rw[vp]at hc
 rw[bK (by rw[List.length_map];omega) hc,dH (fun _=>D.bl true),bA (aU (fun _=>D.bl true) ps fun _=>rfl)]
 simp_arith[nN,gS]
end W
namespace W
open PySem L2 L3
inductive Rw where
 |skip|back|stop
 |set (w:Bool) (n:Int)
 |any (w:Bool)
 |turn (w:Bool)
 |iff (w:Bool) (n k:Int)
 |go (k:Int)
 |fork (k:Int)
 |call (f:Str)
noncomputable def wd (w:Bool):Str:=if w then "own" else "shared"
noncomputable def Rw.d:Rw->List D
 | .skip=>[.str "skip"]
 | .back=>[.str "back"]
 | .stop=>[.str "stop"]
 | .set w n=>[.str "set",.str (wd w),.int n]
 | .any w=>[.str "any",.str (wd w)]
 | .turn w=>[.str "turn",.str (wd w)]
 | .iff w n k=>[.str "if",.str (wd w),.int n,.int k]
 | .go k=>[.str "go",.int k]
 | .fork k=>[.str "fork",.int k]
 | .call f=>[.str "call",.str f]
noncomputable def nW (names:List Str):Rw->Prop
 | .call f=>f∈names
 |_=>True
theorem eV (r:Rw):Row r.d:=by
 have t:True:=True.intro
 cases r<;>refine⟨by simp[Rw.d],fun d hd=>?_⟩<;>simp[Rw.d]at hd
 all_goals first
  |(subst hd;exact t)
  |(rcases hd with rfl|rfl<;>exact t)
  |(rcases hd with rfl|rfl|rfl<;>exact t)
  |(rcases hd with rfl|rfl|rfl|rfl<;>exact t)
noncomputable def RowC (names:List Str)(ds:List D):Prop:=∃ r:Rw,ds=r.d/\nW names r
theorem RowC.row {names:List Str}{ds:List D}(h:RowC names ds):Row ds:=by obtain⟨r,rfl,_⟩:=h;exact eV r
theorem xj:wd false="shared":=rfl
theorem xk:wd true="own":=rfl
noncomputable def CK (names:List Str)(p:Pr):Prop:=Au p/\∀ r∈p.2,RowC names r
end W
namespace W
open PySem L2 L3
theorem Cl {x:Int}(h0:0<=x)(h1:x<14):x∈([0,1,2,3,4,5,6,7,8,9,10,11,12,13]:List Int):=by
 obtain⟨m,rfl⟩:=Int.eq_ofNat_of_zero_le h0
 have:=(by decide:∀ k:Fin 14,((k.val:Nat):Int)∈([0,1,2,3,4,5,6,7,8,9,10,11,12,13]:List Int))
 exact this ⟨m,Int.ofNat_lt.mp h1⟩
theorem nX {c many number goal side lot:Int}{e1:Option Sl}{e4:Option Sl}{names:List Str}{w:Bool}(hl:0<names.length)(h0:0<=lot)(h1:lot<14) :
 ∃ ds,RowC names ds/\fG [some (.val (.int c) false),e1,some (.val (.int many) false),some (.val (.lst (names.map D.str)) false),e4,some (.val (.int lot) true),some (.val (.int side) true),some (.val (.str (wd w)) true),some (.val (.int number) true),some (.val (.int goal) true)]=.ok (.rt (.val (.tup ds) true [])):=by
 have hn0:(0:Int)<names.length:=by omega
 have bX:((names.map D.str).length:Int)=names.length:=by simp
 have d1:=f_ c 1031 names.length hn0
 have d2:=ga c 1031 names.length hn0
 obtain⟨n,en,en2⟩:=mB d1 d2
 have hmem:n∈names:=List.mem_of_getElem? en2
 have ha:atI (names.map D.str) (dg c 1031 names.length)=some (.str n):=by rw[pZ,en];rfl
 have:lot∈([0,1,2,3,4,5,6,7,8,9,10,11,12,13]:List Int):=Cl h0 h1
 simp only[List.mem_cons,List.not_mem_nil,or_false]at this
 have t:True:=True.intro
 rcases this with rfl|rfl|rfl|rfl|rfl|rfl|rfl|rfl|rfl|rfl|rfl|rfl|rfl|rfl
 ·exact⟨_,⟨.skip,rfl,t⟩,rfl⟩
 ·exact⟨_,⟨.set w number,rfl,t⟩,rfl⟩
 ·exact⟨_,⟨.set w number,rfl,t⟩,rfl⟩
 ·exact⟨_,⟨.any w,rfl,t⟩,rfl⟩
 ·exact⟨_,⟨.turn w,rfl,t⟩,rfl⟩
 ·exact⟨_,⟨.iff w number goal,rfl,t⟩,rfl⟩
 ·exact⟨_,⟨.iff w number goal,rfl,t⟩,rfl⟩
 ·exact⟨_,⟨.go goal,rfl,t⟩,rfl⟩
 ·exact⟨_,⟨.fork goal,rfl,t⟩,rfl⟩
 ·exact⟨_,⟨.fork goal,rfl,t⟩,rfl⟩
 ·exact⟨_,⟨.back,rfl,t⟩,rfl⟩
 ·exact⟨_,⟨.stop,rfl,t⟩,rfl⟩
 all_goals
  refine⟨[.str "call",.str n],⟨.call n,rfl,hmem⟩,?_⟩
  simp_arith[fG,bX,aZ c 1031 names.length (by decide) hn0,ha]
theorem Av {c sv ov many:Int}{names:List Str}{last:Bool}(hl:0<names.length)(h1:0<sv)(h2:0<ov)(h3:0<many) :
 ∃ ds,RowC names ds/\dJ [.int c,.lst [.int sv,.int ov],.int many,.lst (names.map D.str),.bl last]=.ok (.val (.tup ds) true []):=by
 have s0:=f_ c 1013 2 (by decide)
 have s1:=ga c 1013 2 (by decide)
 have l0:=f_ c 1009 14 (by decide)
 have l1:=ga c 1009 14 (by decide)
 have m0:=f_ c 1009 3 (by decide)
 have m1:=ga c 1009 3 (by decide)
 have step:∀ lot:Int,0<=lot->lot<14->∃ ds,RowC names ds/\dq [some (.val (.int c) false),some (.val (.lst [.int sv,.int ov]) false),some (.val (.int many) false),some (.val (.lst (names.map D.str)) false),some (.val (.bl last) false),some (.val (.int lot) true),none,none,none,none]=.ok (.rt (.val (.tup ds) true [])):=fun lot a b=>by
  have hs:dg c 1013 2=0\/dg c 1013 2=1:=by omega
  have i0:atI [D.str "shared",D.str "own"] 0=some (.str "shared"):=rfl
  have i1:atI [D.str "shared",D.str "own"] 1=some (.str "own"):=rfl
  have j0:atI [D.int sv,D.int ov] 0=some (.int sv):=rfl
  have j1:atI [D.int sv,D.int ov] 1=some (.int ov):=rfl
  rcases hs with hs|hs
  ·obtain⟨ds,r,e⟩:=nX (c:=c) (many:=many) (number:=dg c 1019 sv) (goal:=dg c 1021 many) (side:=0) (lot:=lot) (e1:=some (.val (.lst [.int sv,.int ov]) false)) (e4:=some (.val (.bl last) false)) (w:=false) hl a b
   refine⟨ds,r,?_⟩
   rw[<- e,xj]
   simp_arith[dq,fK,fJ,fH,aZ c 1013 2 (by decide) (by decide),hs,i0,j0,aZ c 1019 sv (by decide) h1,aZ c 1021 many (by decide) h3]
  ·obtain⟨ds,r,e⟩:=nX (c:=c) (many:=many) (number:=dg c 1019 ov) (goal:=dg c 1021 many) (side:=1) (lot:=lot) (e1:=some (.val (.lst [.int sv,.int ov]) false)) (e4:=some (.val (.bl last) false)) (w:=true) hl a b
   refine⟨ds,r,?_⟩
   rw[<- e,xk]
   simp_arith[dq,fK,fJ,fH,aZ c 1013 2 (by decide) (by decide),hs,i1,j1,aZ c 1019 ov (by decide) h2,aZ c 1021 many (by decide) h3]
 cases last with
 |false=>
  obtain⟨ds,r,e⟩:=step (dg c 1009 14) l0 l1
  refine⟨ds,r,?_⟩
  simp_arith[dJ,h7,aZ c 1009 14 (by decide) (by decide),fL,e]
 |true=>
  have hm:∃ q:Int,0<=q/\q<14/\atI [D.int 7,D.int 10,D.int 11] (dg c 1009 3)=some (.int q):=by
   have:dg c 1009 3=0\/dg c 1009 3=1\/dg c 1009 3=2:=by omega
   rcases this with h|h|h<;>rw[h]
   ·exact⟨7,by decide,by decide,rfl⟩
   ·exact⟨10,by decide,by decide,rfl⟩
   ·exact⟨11,by decide,by decide,rfl⟩
  obtain⟨q,q0,q1,eq⟩:=hm
  obtain⟨ds,r,e⟩:=step q q0 q1
  refine⟨ds,r,?_⟩
  simp_arith[dJ,h7,aZ c 1009 14 (by decide) (by decide),fL,aZ c 1009 3 (by decide) (by decide),eq,e]
end W
namespace W
open PySem L2 L3
noncomputable def jK (gs:List (List Int)):List D:=gs.map fun g=>.lst (g.map .int)
theorem u5 (gs:List (List Int)):(jK gs).all gR=true:=by
 rw[List.all_eq_true]
 intro d hd
 obtain⟨g,_,rfl⟩:=List.mem_map.mp hd
 exact aX g
theorem u6 {n:Nat}{k:Int}(h0:0<=k)(h:k<n):mT n k=some k.toNat:=by unfold mT;rw[if_pos h0,if_pos h]
section
variable {cs:List Int}{sv ov seed:Int}{names:List Str}
noncomputable abbrev e0 (cs:List Int):Option Sl:=some (.val (.lst (cs.map .int)) false)
noncomputable abbrev e1 (sv ov:Int):Option Sl:=some (.val (.lst [.int sv,.int ov]) false)
noncomputable abbrev e2 (names:List Str):Option Sl:=some (.val (.lst (names.map D.str)) false)
noncomputable abbrev e3 (seed:Int):Option Sl:=some (.val (.int seed) false)
theorem xl (hn:0<names.length)(hc:cs.length<=200):∃(gs:List (List Int))(x:Option Sl),gs.length=names.length/\(∀ g∈gs,g.length<=200)/\
 bP (gN 5) false bZ (cs.map .int) [e0 cs,e1 sv ov,e2 names,e3 seed,some (.dis (.lst (jK (names.map fun _=>[])))),none,none,none,none,none,none,none]
  = .ok (.nx [e0 cs,e1 sv ov,e2 names,e3 seed,some (.dis (.lst (jK gs))),x,none,none,none,none,none,none]):=by
 obtain⟨bf,lp,gs,x,rfl,h1,h2⟩:=dl (fun k:Int=>D.int k) (asg:=gN 5) (fr:=false) (body:=bZ) cs (fun pre env=>∃(gs:List (List Int))(x:Option Sl),env=[e0 cs,e1 sv ov,e2 names,e3 seed,some (.dis (.lst (jK gs))),x,none,none,none,none,none,none]/\gs.length=names.length/\∀ g∈gs,g.length<=pre.length) cs []
  [e0 cs,e1 sv ov,e2 names,e3 seed,some (.dis (.lst (jK (names.map fun _=>[])))),none,none,none,none,none,none,none] rfl ⟨_,_,rfl,by simp,fun g hg=>by obtain⟨_,_,rfl⟩:=List.mem_map.mp hg;exact Nat.le_refl _⟩
  (by
    rintro pre post c env ea ⟨gs,x,rfl,h1,h2⟩
    have hpl:pre.length+post.length+1=cs.length:=by have:=congrArg List.length ea;simp at this;omega
    have hn0:(0:Int)<names.length:=by omega
    have bX:((names.map D.str).length:Int)=names.length:=by simp
    have d0:=f_ c 1051 names.length hn0
    have d1:=ga c 1051 names.length hn0
    have hj:(dg c 1051 names.length).toNat<gs.length:=by omega
    have eg:gs[(dg c 1051 names.length).toNat]?=some gs[(dg c 1051 names.length).toNat]:=by simp[hj]
    generalize gs[(dg c 1051 names.length).toNat]=g at eg
    have hgl:=h2 g (List.mem_of_getElem? eg)
    have ex:mT (jK gs).length (dg c 1051 names.length)=some (dg c 1051 names.length).toNat:=u6 d0 (by unfold jK;rw[List.length_map];omega)
    have ed:(jK gs)[(dg c 1051 names.length).toNat]?=some (.lst (g.map .int)):=by unfold jK;rw[List.getElem?_map,eg];rfl
    have es:(jK gs).set (dg c 1051 names.length).toNat (.lst (g.map .int++[.int c]))=jK (gs.set (dg c 1051 names.length).toNat (g++[c])):=by unfold jK;rw[List.map_set];simp
    have hgl2:(g.map D.int).length<1000000:=by rw[List.length_map];omega
    refine⟨_,[e0 cs,e1 sv ov,e2 names,e3 seed,some (.dis (.lst (jK (gs.set (dg c 1051 names.length).toNat (g++[c]))))),some (.val (.int c) false),none,none,none,none,none,none],rfl,?_,_,_,rfl,by simp[h1],fun g' hg'=>?_⟩
    ·simp_arith[bZ,bX,aZ c 1051 names.length (by decide) hn0]
     rw[oS ex ed]
     simp_arith
     rw[oT (r:=.val (.int c) true []) rfl hgl2 (u5 gs)]
     simp_arith[es]
    ·rcases List.mem_or_eq_of_mem_set hg' with hg'|rfl
     ·have:=h2 g' hg';simp;omega
     ·simp;omega)
 exact⟨gs,x,h1,fun g hg=>Nat.le_trans (h2 g hg) hc,lp⟩
end
end W
namespace W
open PySem L2 L3
section
variable {cs:List Int}{sv ov seed:Int}{names:List Str}
theorem sd (hn:0<names.length)(h1:0<sv)(h2:0<ov){ow:List Int}(hl:ow.length<=300)(h0:0<ow.length){e4 e5 e6 e7 e8 e11:Option Sl}:∃(rs:List (List D))(x y:Option Sl),rs.length=ow.length/\(∀ r∈rs,RowC names r)/\
 bP (gT 2 (aE (gN 11) (aE (gN 5) bO))) true b0 (cq 0 (ow.map .int)) [e0 cs,e1 sv ov,e2 names,e3 seed,e4,e5,e6,e7,e8,some (.val (.lst (ow.map .int)) true),some (.own [] true),e11]
  = .ok (.nx [e0 cs,e1 sv ov,e2 names,e3 seed,e4,x,e6,e7,e8,some (.val (.lst (ow.map .int)) true),some (.own (rs.map .tup) true),y]):=by
 rw[jb]
 obtain⟨bf,lp,rs,x,y,rfl,r1,r2⟩:=dl (fun p:Int×Nat=>D.tup [.int (p.2:Nat),.int p.1]) (asg:=gT 2 (aE (gN 11) (aE (gN 5) bO))) (fr:=true) (body:=b0) (ow.zipIdx 0) (fun pre env=>∃(rs:List (List D))(x y:Option Sl),env=[e0 cs,e1 sv ov,e2 names,e3 seed,e4,x,e6,e7,e8,some (.val (.lst (ow.map .int)) true),some (.own (rs.map .tup) true),y]/\rs.length=pre.length/\∀ r∈rs,RowC names r) (ow.zipIdx 0) []
  [e0 cs,e1 sv ov,e2 names,e3 seed,e4,e5,e6,e7,e8,some (.val (.lst (ow.map .int)) true),some (.own [] true),e11] rfl ⟨[],_,_,rfl,rfl,fun _ z=>by cases z⟩
  (by
    rintro pre post ⟨c,i⟩ env ea ⟨rs,x,y,rfl,r1,r2⟩
    have hpl:pre.length+post.length+1=ow.length:=by have:=congrArg List.length ea;simp at this;omega
    have hm:(0:Int)<ow.length:=by omega
    have bX:(((ow.map D.int).length:Nat):Int)=ow.length:=by simp
    obtain⟨ds,rw_,er⟩:=Av (c:=c) (sv:=sv) (ov:=ov) (many:=ow.length) (names:=names) (last:=((i:Int)==(ow.length:Int)-1)) hn h1 h2 hm
    have hfl:=(RowC.row rw_).flats
    have hrl:(rs.map D.tup).length<1000000:=by rw[List.length_map];omega
    refine⟨_,[e0 cs,e1 sv ov,e2 names,e3 seed,e4,some (.val (.int c) true),e6,e7,e8,some (.val (.lst (ow.map .int)) true),some (.own ((rs++[ds]).map .tup) true),some (.val (.int (i:Nat)) true)],rfl,?_,rs++[ds],_,_,rfl,by simp[r1],fun r hr=>?_⟩
    ·simp_arith[b0,bX,cN,iz,er,i8,hrl,hfl,List.map_append]
    ·rcases List.mem_append.mp hr with hr|hr
     ·exact r2 r hr
     ·have:r=ds:=by simpa using hr
      exact this▸rw_)
 refine⟨rs,x,y,by rw[r1];simp,r2,lp⟩
theorem o0 (hn:0<names.length)(hn4:names.length<=4)(hns:∀ n∈names,n.length<=20)(h1:0<sv)(h2:0<ov){gs:List (List Int)}(hg:gs.length=names.length)(hgl:∀ g∈gs,g.length<=200){x:Option Sl}:∃(ps:List Pr)(a b c d e f:Option Sl),ps.map (·.1)=names/\(∀ p∈ps,CK names p)/\
 bP (gT 2 (aE (gN 7) (aE (gN 8) bO))) false b5 (cq 0 (names.map D.str)) [e0 cs,e1 sv ov,e2 names,e3 seed,some (.dis (.lst (jK gs))),x,some (.own [] true),none,none,none,none,none]
  = .ok (.nx [e0 cs,e1 sv ov,e2 names,e3 seed,some (.dis (.lst (jK gs))),a,some (.own (ps.map ig) true),b,c,d,e,f]):=by
 rw[jb]
 obtain⟨bf,lp,ps,a,b,c,d,e,f,rfl,r1,r2⟩:=dl (fun p:Str×Nat=>D.tup [.int (p.2:Nat),.str p.1]) (asg:=gT 2 (aE (gN 7) (aE (gN 8) bO))) (fr:=false) (body:=b5) (names.zipIdx 0) (fun pre env=>∃(ps:List Pr)(a b c d e f:Option Sl),env=[e0 cs,e1 sv ov,e2 names,e3 seed,some (.dis (.lst (jK gs))),a,some (.own (ps.map ig) true),b,c,d,e,f]/\ps.map (·.1)=pre.map (·.1)/\∀ p∈ps,CK names p) (names.zipIdx 0) []
  [e0 cs,e1 sv ov,e2 names,e3 seed,some (.dis (.lst (jK gs))),x,some (.own [] true),none,none,none,none,none] rfl ⟨[],_,_,_,_,_,_,rfl,rfl,fun _ z=>by cases z⟩
  (by
    rintro pre post ⟨n,k⟩ env ea ⟨ps,a,b,c,d,e,f,rfl,r1,r2⟩
    have hmem:(n,k)∈names.zipIdx 0:=by rw[ea];simp
    have hkn:names[k]?=some n:=by have:=List.mem_zipIdx_iff_getElem?.mp hmem;simpa using this
    have hk:=(List.getElem?_eq_some_iff.mp hkn).1
    have hkg:k<gs.length:=by omega
    have eg:gs[k]?=some gs[k]:=by simp[hkg]
    generalize gs[k]=g at eg
    have hgl':=hgl g (List.mem_of_getElem? eg)
    have ed:atI (jK gs) (k:Int)=some (.lst (g.map .int)):=by
     unfold atI jK
     rw[u6 (by omega) (by rw[List.length_map];omega)]
     simp[eg]
    generalize hz:((k:Nat):Int)=z at ed
    have k1:-18446744073709551616<z:=by omega
    have k2:z<18446744073709551616:=by omega
    obtain⟨rs,x',y',q1,q2,lp2⟩:=sd (cs:=cs) (seed:=seed) hn h1 h2 (ow:=g++[seed+7*z*z]) (by simp;omega) (by simp) (e4:=some (.dis (.lst (jK gs)))) (e5:=a) (e6:=some (.own (ps.map ig) true)) (e7:=some (.val (.int z) false)) (e8:=some (.val (.str n) false)) (e11:=f)
    have q1':rs.length=g.length+1:=by rw[q1];simp
    have hpl:pre.length+post.length+1=names.length:=by have:=congrArg List.length ea;simp at this;omega
    have hpsl:ps.length=pre.length:=by have:=congrArg List.length r1;simpa using this
    have hplen:(ps.map ig).length<1000000:=by rw[List.length_map];omega
    have eo:g.map D.int++[D.int (seed+7*z*z)]=(g++[seed+7*z*z]).map D.int:=by simp
    refine⟨_,[e0 cs,e1 sv ov,e2 names,e3 seed,some (.dis (.lst (jK gs))),x',some (.own ((ps++[(n,rs)]).map ig) true),some (.val (.int z) false),some (.val (.str n) false),some (.val (.lst ((g++[seed+7*z*z]).map .int)) true),some (.val (.lst (rs.map .tup)) true),y'],rfl,?_,ps++[(n,rs)],_,_,_,_,_,_,rfl,by simp[r1],fun p hp=>?_⟩
    ·have hal:(g.map D.int).length+[D.int (seed+7*z*z)].length<=1000000:=by simp;omega
     simp_arith[b5,k1,k2,ed,aX]
     rw[oP hal,eo,bA (aX _)]
     simp_arith
     rw[show frz [e0 cs,e1 sv ov,e2 names,e3 seed,some (.dis (.lst (jK gs))),a,some (.own (ps.map ig) true),some (.val (.int z) false),some (.val (.str n) false),some (.own ((g++[seed+7*z*z]).map .int) true),some (.own [] true),f] [9]=[e0 cs,e1 sv ov,e2 names,e3 seed,some (.dis (.lst (jK gs))),a,some (.own (ps.map ig) true),some (.val (.int z) false),some (.val (.str n) false),some (.val (.lst ((g++[seed+7*z*z]).map .int)) true),some (.own [] true),f] from rfl,lp2]
     simp_arith[i8,hplen,List.map_append]
     exact if_pos ⟨hplen,fun h=>absurd (show(6:Nat)∈[10] from h) (by decide)⟩
    ·rcases List.mem_append.mp hp with hp|hp
     ·exact r2 p hp
     ·have:p=(n,rs):=by simpa using hp
      subst this
      exact⟨⟨hns n (List.mem_of_getElem? hkn),by show 0<rs.length;omega,by show rs.length<=400;omega,fun r hr=>(q2 r hr).row⟩,q2⟩)
 refine⟨ps,a,b,c,d,e,f,by rw[r1];simp,r2,lp⟩
theorem o5 (hn:0<names.length)(hn4:names.length<=4)(hns:∀ n∈names,n.length<=20)(h1:0<sv)(h2:0<ov)(hc:cs.length<=200):∃ ps:List Pr,ps.map (·.1)=names/\(∀ p∈ps,CK names p)/\
 cA [.lst (cs.map .int),.lst [.int sv,.int ov],.lst (names.map D.str),.int seed]=.ok (.val (vp sv ov ps) true [6]):=by
 obtain⟨gs,x,g1,g2,lp1⟩:=xl (cs:=cs) (sv:=sv) (ov:=ov) (seed:=seed) hn hc
 obtain⟨ps,a,b,c,d,e,f,r1,r2,lp2⟩:=o0 (cs:=cs) (seed:=seed) (x:=x) hn hn4 hns h1 h2 g1 g2
 refine⟨ps,r1,r2,?_⟩
 have ed:(names.map D.str).map (fun _=>D.lst [])=jK (names.map fun _=>[]):=by unfold jK;simp
 have hl:(names.map D.str).length<=1000000:=by rw[List.length_map];omega
 have i0:atI [D.int sv,D.int ov] 0=some (.int sv):=rfl
 have i1:atI [D.int sv,D.int ov] 1=some (.int ov):=rfl
 simp_arith[cA,gD,hl,ed]
 simp only[e0,e1,e2,e3]at lp1 lp2
 simp_arith[lp1]
 simp_arith[lp2]
 rfl
end
end W
namespace W
open PySem L2 L3
noncomputable abbrev Pq:=Str×List Rw
noncomputable def Aw (q:Pq):Pr:=(q.1,q.2.map Rw.d)
noncomputable def DE (names:List Str)(q:Pq):Prop:=q.1.length<=20/\0<q.2.length/\q.2.length<=400/\∀ r∈q.2,nW names r
theorem qo {names:List Str}:∀(rs:List (List D)),(∀ r∈rs,RowC names r)->∃ ws:List Rw,rs=ws.map Rw.d/\∀ w∈ws,nW names w
 | [],_=>⟨[],rfl,fun _ z=>by cases z⟩
 |r::rs,h=>by
  obtain⟨w,e,o⟩:=h r (by simp)
  obtain⟨ws,e2,o2⟩:=qo rs fun x hx=>h x (by simp[hx])
  exact⟨w::ws,by rw[e,e2];rfl,fun x hx=>by rcases List.mem_cons.mp hx with rfl|hx;exact o;exact o2 x hx⟩
theorem nY {names:List Str}:∀(ps:List Pr),(∀ p∈ps,CK names p)->∃ qs:List Pq,ps=qs.map Aw/\∀ q∈qs,DE names q
 | [],_=>⟨[],rfl,fun _ z=>by cases z⟩
 |(n,rs)::ps,h=>by
  obtain⟨⟨a,b,c,_⟩,d⟩:=h (n,rs) (by simp)
  obtain⟨ws,e,o⟩:=qo rs d
  obtain⟨qs,e2,o2⟩:=nY ps fun x hx=>h x (by simp[hx])
  subst e
  simp only[List.length_map]at b c
  exact⟨(n,ws)::qs,by rw[e2];rfl,fun x hx=>by rcases List.mem_cons.mp hx with rfl|hx;exact⟨a,b,c,o⟩;exact o2 x hx⟩
noncomputable def pq (s o:Int)(qs:List Pq):D:=vp s o (qs.map Aw)
noncomputable def aW:Int->List Pq->Str->Int
 |f,[],_=>f
 |f,q::qs,n=>if q.1=n then f else aW (f+q.2.length) qs n
noncomputable def qD (q:Pq):D:=.tup [.str q.1,.lst (q.2.map fun r=>.tup r.d)]
theorem Cm (q:Pq):ig (Aw q)=qD q:=by unfold ig Aw qD;simp only[List.map_map];rfl
theorem Ax (qs:List Pq):(qs.map Aw).map ig=qs.map qD:=by rw[List.map_map];exact List.map_congr_left fun q _=>Cm q
theorem gM (s o:Int)(qs:List Pq):pq s o qs=.tup [.int s,.int o,.lst (qs.map qD)]:=by unfold pq vp;rw[Ax]
theorem b_ (s o:Int)(qs:List Pq):(pq s o qs).flat=false:=by rw[gM];simp only[gB,cO,gA,kr,Bool.true_and,Bool.false_and]
theorem u7 {a b:Str}(h:a≠b):bJ (.str a) (.str b)=false:=by show(a==b)=false;simpa using h
noncomputable abbrev dz (i j:Nat):D->Bool->En->Option En:=gT 2 (aE (gN i) (aE (gN j) bO))
theorem gO (q:Pq):(((q.2.map fun r=>D.tup r.d).length:Nat):Int)=q.2.length:=by simp
theorem fV {asg:D->Bool->En->Option En}{fr:Bool}{body:En->Res Fl}{d:D}{ds:List D}{env env1 env2:En}(h1:asg d fr env=some env1)(h2:body env1=.ok (.nx env2)):bP asg fr body (d::ds) env=bP asg fr body ds env2:=by
 conv=>lhs;unfold bP
 rw[h1];dsimp only;rw[h2];rfl
theorem qp {asg:D->Bool->En->Option En}{fr:Bool}{body:En->Res Fl}{d:D}{ds:List D}{env env1:En}{r:R}(h1:asg d fr env=some env1)(h2:body env1=.ok (.rt r)):bP asg fr body (d::ds) env=.ok (.rt r):=by
 unfold bP
 rw[h1];dsimp only;rw[h2];rfl
theorem mJ {f:Int}{q:Pq}{qs:List Pq}:aW f (q::qs) q.1=f:=if_pos rfl
theorem mK {f:Int}{q:Pq}{qs:List Pq}{n:Str}(h:q.1≠n):aW f (q::qs) n=aW (f+q.2.length) qs n:=if_neg h
theorem kJ {P:Option Sl}{n:Str}:∀(qs:List Pq)(f:Int)(x y:Option Sl),(∃ z,bP (dz 3 4) false bI (qs.map qD) [P,some (.val (.str n) false),some (.val (.int f) true),x,y]=.ok (.rt z)/\z=.val (.int (aW f qs n)) true [])\/
 ∃ x' y',bP (dz 3 4) false bI (qs.map qD) [P,some (.val (.str n) false),some (.val (.int f) true),x,y]=.ok (.nx [P,some (.val (.str n) false),some (.val (.int (aW f qs n)) true),x',y'])
 | [],f,x,y=>.inr ⟨x,y,rfl⟩
 |q::qs,f,x,y=>by
  have st:(dz 3 4) (qD q) false [P,some (.val (.str n) false),some (.val (.int f) true),x,y]=some [P,some (.val (.str n) false),some (.val (.int f) true),some (.val (.str q.1) false),some (.val (.lst (q.2.map fun r=>D.tup r.d)) false)]:=rfl
  by_cases h:q.1=n
  ·subst h
   refine .inl ⟨_,qp st ?_,rfl⟩
   rw[mJ]
   simp_arith[bI,cN,bM]
  ·have:bI [P,some (.val (.str n) false),some (.val (.int f) true),some (.val (.str q.1) false),some (.val (.lst (q.2.map fun r=>D.tup r.d)) false)]=.ok (.nx [P,some (.val (.str n) false),some (.val (.int (f+q.2.length)) true),some (.val (.str q.1) false),some (.val (.lst (q.2.map fun r=>D.tup r.d)) false)]):=by
    have b:=u7 h
    simp_arith[bI,cN,b,gO]
   rw[mK h,List.map_cons,fV st this]
   exact kJ qs (f+q.2.length) _ _
theorem kK (s o:Int)(qs:List Pq)(n:Str):bL [pq s o qs,.str n]=.ok (.val (.int (aW 0 qs n)) true []):=by
 rw[gM]
 rcases kJ (P:=some (.val (.tup [.int s,.int o,.lst (qs.map qD)]) false)) (n:=n) qs 0 none none with⟨z,h,rfl⟩|⟨x,y,h⟩
 ·unfold dz at h
  simp_arith[bL,fT,h]
 ·unfold dz at h
  simp_arith[bL,fT,h]
theorem kM {P:Option Sl}{n:Str}:∀(qs:List Pq)(f:Int)(x y:Option Sl),(∀ q∈qs,0<q.2.length)->n∈qs.map (·.1)->
 bP (dz 4 5) false cB (qs.map qD) [P,some (.val (.str n) false),some (.val (.int 0) false),some (.val (.int f) true),x,y]=.ok (.rt (.val (.int (aW f qs n)) true []))
 | [],f,x,y,_,h=>by cases h
 |q::qs,f,x,y,hl,hn=>by
  have st:(dz 4 5) (qD q) false [P,some (.val (.str n) false),some (.val (.int 0) false),some (.val (.int f) true),x,y]=some [P,some (.val (.str n) false),some (.val (.int 0) false),some (.val (.int f) true),some (.val (.str q.1) false),some (.val (.lst (q.2.map fun r=>D.tup r.d)) false)]:=rfl
  rw[List.map_cons]
  by_cases h:q.1=n
  ·subst h
   have h0:=hl q (by simp)
   have d2:decide ((q.2.length:Int)<=0)=false:=decide_eq_false (by omega)
   have d1:decide ((0:Int)<0)=false:=rfl
   refine qp st ?_
   rw[mJ,show f=f+0 by omega]
   simp_arith[cB,cN,bM,d1,gO,d2]
   rw[Int.add_zero]
  ·have b:=u7 h
   have:cB [P,some (.val (.str n) false),some (.val (.int 0) false),some (.val (.int f) true),some (.val (.str q.1) false),some (.val (.lst (q.2.map fun r=>D.tup r.d)) false)]=.ok (.nx [P,some (.val (.str n) false),some (.val (.int 0) false),some (.val (.int (f+q.2.length)) true),some (.val (.str q.1) false),some (.val (.lst (q.2.map fun r=>D.tup r.d)) false)]):=by
    simp_arith[cB,cN,b,gO]
   rw[mK h,fV st this]
   refine kM qs (f+q.2.length) _ _ (fun x hx=>hl x (by simp[hx])) ?_
   rw[List.map_cons,List.mem_cons]at hn
   exact hn.resolve_left fun z=>h z.symm
theorem u8 {s o:Int}{qs:List Pq}{n:Str}(hl:∀ q∈qs,0<q.2.length)(hn:n∈qs.map (·.1)):dM [pq s o qs,.str n,.int 0]=.ok (.val (.int (aW 0 qs n)) true []):=by
 have h:=kM (P:=some (.val (.tup [.int s,.int o,.lst (qs.map qD)]) false)) qs 0 none none hl hn
 unfold dz at h
 rw[gM]
 simp_arith[dM,kA,h]
noncomputable def AN (qs ps:List Pq):List DK:=ps.map fun q=>.inl (.inr q.1)
noncomputable def Cn (qs ps:List Pq):List D:=ps.map fun q=>.int (aW 0 qs q.1)
noncomputable def jL (qs:List Pq):D:=.dic (AN qs qs) (Cn qs qs)
theorem kN {α:Type}(k:α->Str)(v:α->Int):∀ xs:List α,gu (xs.map fun a=>D.tup [.str (k a),.int (v a)])=some (xs.map fun a=>(.inr (k a),.int (v a)))
 | []=>rfl
 |a::xs=>by
  rw[List.map_cons,List.map_cons]
  unfold gu
  rw[kN k v xs];rfl
theorem lW (t:List (Key×D)):∀(ps:List (Key×D))(t:List (Key×D)),((t++ps).map (·.1)).Nodup->jt t ps=t++ps
 | [],t,_=>by rw[List.append_nil];rfl
 |p::ps,t,h=>by
  have hn:(t.any fun x=>decide (x.1=p.1))=false:=by
   rw[List.any_eq_false]
   intro x hx
   rw[decide_eq_true_eq]
   intro e
   rw[List.map_append,List.nodup_append]at h
   exact h.2.2 x.1 (List.mem_map_of_mem hx) p.1 (by simp) e
  show jt (oN t p.1 p.2) ps=_
  have:oN t p.1 p.2=t++[p]:=by unfold oN;rw[if_neg (by rw[hn];simp)]
  rw[this,lW t ps (t++[p]) (by simpa using h)]
  simp
theorem sf {s o:Int}{qs:List Pq}(hl:∀ q∈qs,0<q.2.length)(hq:qs.length<=4)(nd:(qs.map (·.1)).Nodup):cC [pq s o qs]=.ok (.fre (jL qs)):=by
 have hc:=a_ (mk:=fun d=>(dz 0 1) d false (cI [some (.val (pq s o qs) false)] 2 [0])) (test:=fun _=>.ok true) (elt:=cQ) (fun q:Pq=>qD q) (fun q=>.val (.tup [.str q.1,.int (aW 0 qs q.1)]) true []) qs
  fun q hq=>⟨[some (.val (.str q.1) false),some (.val (.lst (q.2.map fun r=>D.tup r.d)) false),some (.val (pq s o qs) false)],rfl,rfl,by simp_arith[cQ,b_,u8 (s:=s) (o:=o) hl (List.mem_map_of_mem (f:=(·.1)) hq)]⟩
 have hfl:D.flats (qs.map fun q=>D.tup [.str q.1,.int (aW 0 qs q.1)])=true:=aU _ _ fun _=>rfl
 have hp:=kN (fun q:Pq=>q.1) (fun q=>aW 0 qs q.1) qs
 have hnd:(([]++(qs.map fun q:Pq=>((.inr q.1:Key),D.int (aW 0 qs q.1)))).map (fun x:Key×D=>x.1)).Nodup:=by
  rw[List.nil_append,List.map_map]
  have:((qs.map (·.1)).map fun n=>(.inr n:Key)).Nodup:=by
   rw[List.Nodup,List.pairwise_map]
   exact nd.imp fun{a b} h e=>h (Sum.inr.inj e)
  rw[List.map_map]at this
  exact this
 have hd:kj [.new (qs.map fun q=>D.tup [.str q.1,.int (aW 0 qs q.1)]) true]=.ok (.fre (jL qs)):=by
  unfold kj
  dsimp only[R.d]
  rw[hp]
  dsimp only
  rw[lW [] _ [] hnd,List.nil_append,if_pos (cZ fun d hd=>by
   obtain⟨x,hx,rfl⟩:=List.mem_map.mp hd
   obtain⟨q,_,rfl⟩:=List.mem_map.mp hx;rfl)]
  unfold zi jL AN Cn
  rw[List.map_map,List.map_map];rfl
 unfold dz at hc
 rw[gM]at hc ⊢
 simp_arith[cC,gF]
 rw[bK (by rw[List.length_map];omega) hc,dH (fun q:Pq=>D.tup [.str q.1,.int (aW 0 qs q.1)]),bA hfl]
 simp_arith[hd]
theorem u9 {s o:Int}(qs:List Pq)(n:Str):∀ ps:List Pq,n∈ps.map (·.1)->getD (AN qs ps) (Cn qs ps) (.inl (.inr n))=some (.int (aW 0 qs n))
 | [],h=>by cases h
 |q::ps,h=>by
  unfold AN Cn
  rw[List.map_cons,List.map_cons]
  unfold getD
  by_cases e:q.1=n
  ·subst e;rw[if_pos rfl]
  ·rw[if_neg fun z=>e (Sum.inr.inj (Sum.inl.inj z))]
   rw[List.map_cons,List.mem_cons]at h
   exact u9 (s:=s) (o:=o) qs n ps (h.resolve_left fun z=>e z.symm)
theorem xV {qs:List Pq}{n:Str}{f g:Bool}{al bl:List Nat}(h:n∈qs.map (·.1)):ki (.val (jL qs) f al) (.val (.str n) g bl)=.ok (mkV (.int (aW 0 qs n)) f al):=
 Am (ra:=.val (jL qs) f al) (rk:=.val (.str n) g bl) (ks:=AN qs qs) (ds:=Cn qs qs) rfl rfl (by unfold AN;rw[List.all_eq_true];intro k hk;obtain⟨q,_,rfl⟩:=List.mem_map.mp hk;rfl) (u9 (s:=0) (o:=0) qs n qs h)
end W
namespace W
open PySem L2 L3
theorem lX:bJ (.str "any") (.str "set")=false:=by decide
theorem kP:bJ (.str "any") (.str "turn")=false:=by decide
theorem kQ:bJ (.str "turn") (.str "set")=false:=by decide
theorem jC:bJ (.str "turn") (.str "turn")=true:=by decide
theorem qq:bJ (.str "if") (.str "if")=true:=by decide
theorem qu:bJ (.str "if") (.str "go")=false:=by decide
theorem lY:bJ (.str "if") (.str "fork")=false:=by decide
theorem nZ:bJ (.str "call") (.str "back")=false:=by decide
theorem n6:bJ (.str "call") (.str "stop")=false:=by decide
theorem n8:bJ (.str "call") (.str "call")=true:=by decide
theorem xW {f:Bool} {al:List Nat}:rR [("shared",0),("own",1)] (.val (.str "shared") f al)=.ok (.val (.int 0) true []):=rfl
theorem xX {f:Bool} {al:List Nat}:rR [("shared",0),("own",1)] (.val (.str "own") f al)=.ok (.val (.int 1) true []):=rfl
theorem Co {f:Bool}{al:List Nat}:oK [.val (.bl true) f al]=.ok (.val (.int 1) true []):=rfl
theorem Cp {f:Bool}{al:List Nat}:oK [.val (.bl false) f al]=.ok (.val (.int 0) true []):=rfl
section
variable {s o:Int}{qs:List Pq}
theorem jR (h1:0<o)(h2:o<=4)(p w:Int):b7 [pq s o qs,.int p,.int w]=.ok (.val (.int (p*o+w)) true []):=by
 have k1:-18446744073709551616<o:=by omega
 have k2:o<18446744073709551616:=by omega
 rw[gM]
 simp_arith[b7,lU,k1,k2]
noncomputable def rb (r:Rw)(place sh ow:Int):List Int:=match r with
 | .go k=>[k]
 | .fork k=>[place+1,k]
 | .iff w n k=>[if (if w then ow else sh)=n then k else place+1]
 |_=>[place+1]
noncomputable def og:Rw->Bool
 | .set _ _=>true
 | .any _=>true
 | .turn _=>true
 |_=>false
theorem sj (r:Rw)(place sh ow:Int)(h:og r=false):cc [.tup r.d,.int place,.tup [.int sh,.int ow]]=.ok (.new ((rb r place sh ow).map .int) true):=by
 cases r with
 |iff w n k=>
  cases w with
  |false=>
   have hb:(sh==n)=decide (sh=n):=rfl
   generalize hd:decide (sh=n)=b at hb
   have hb:bJ (.int sh) (.int n)=b:=hb
   have er:rb (.iff false n k) place sh ow=[if b then k else place+1]:=by
    subst hd
    by_cases hn:sh=n<;>simp[rb,hn]
   rw[er]
   simp_arith[cc,eM,Rw.d,cN,qu,lY,qq,xj,xW,hb]
   cases b<;>rfl
  |true=>
   have hb:(ow==n)=decide (ow=n):=rfl
   generalize hd:decide (ow=n)=b at hb
   have hb:bJ (.int ow) (.int n)=b:=hb
   have er:rb (.iff true n k) place sh ow=[if b then k else place+1]:=by
    subst hd
    by_cases hn:ow=n<;>simp[rb,hn]
   rw[er]
   simp_arith[cc,eM,Rw.d,cN,qu,lY,qq,xk,xX,hb]
   cases b<;>rfl
 |set w n=>cases h
 |any w=>cases h
 |turn w=>cases h
 |_=>rfl
noncomputable def vm (r:Rw)(v c:Int):List Int:=match r with
 | .set _ n=>[n]
 | .turn _=>[(v+1) % c]
 |_=>(List.range c.toNat).map fun(k:Nat)=>(k:Int)
theorem qw (r:Rw)(v c:Int)(h:og r=true)(h1:0<c)(h2:c<=4):ce [.tup r.d,.int v,.int c]=.ok (.new ((vm r v c).map .int) true):=by
 have z0:0<=c:=by omega
 have z1:c<=1000:=by omega
 cases r with
 |set w n=>rfl
 |turn w=>simp_arith[ce,eO,Rw.d,vm,cN,kQ,jC,h1,bY]
 |any w=>
  simp_arith[ce,eO,Rw.d,vm,cN,lX,kP,uO z0 z1,fF,List.map_map]
  rfl
 |_=>cases h
theorem kR (r:Rw)(v c:Int)(h:og r=true)(h0:0<=v)(hv:v<c)(h2:c<=4):bR [.tup r.d,.int v,.int c]=.ok (.new ((vm r v c).map .int) true):=by
 have h1:0<c:=by omega
 cases r with
 |set w n=>rfl
 |turn w=>
  have hb:∃ b:Bool,bJ (.int v) (.int (c-1))=b/\(v+1) % c=if b then 0 else v+1:=by
   by_cases hc:v=c-1
   ·exact⟨true,by rw[iz];simpa using hc,by rw[show v+1=c by omega];exact Int.emod_self⟩
   ·exact⟨false,by rw[iz];simpa using hc,Int.emod_eq_of_lt (by omega) (by omega)⟩
  obtain⟨b,hb,e⟩:=hb
  simp_arith[bR,eR,Rw.d,vm,cN,kQ,jC,hb,e]
  cases b<;>rfl
 |any w=>
  have hc:=a_ (mk:=fun d=>gN 0 d true (cI [some (.val (.tup [.str "any",.str (wd w)]) false),some (.val (.int v) false),some (.val (.int c) false)] 1 [])) (test:=fun _=>.ok true) (elt:=dc) (fun k:Nat=>D.int k) (fun k=>.val (.int k) true []) (List.range c.toNat)
   fun k hk=>⟨[some (.val (.int k) true)],rfl,rfl,by simp_arith[dc]⟩
  have k1:-4611686018427387904<=c:=by omega
  have k2:c<4611686018427387904:=by omega
  simp_arith[bR,eR,Rw.d,vm,cN,lX,kP]
  rw[lR k1 k2,nM,fF]
  rw[bK (by rw[List.length_map,List.length_range];omega) hc,dH (fun k:Nat=>D.int k),bA (aU _ _ fun _=>rfl)]
  simp_arith[List.map_map]
  rfl
 |_=>cases h
end
end W
namespace W
open PySem L2 L3
noncomputable def Ay (a b:En->Res R)(env:En)(k:Bool):Res R:=if k then a env else b env
theorem qx (c:En->Res Bool)(a b:En->Res R)(env:En):CD c a b env=(c env).bind (Ay a b env):=(rfl)
theorem o6 (a b:En->Res R)(env:En):Ay a b env true=a env:=(rfl)
theorem o7 (a b:En->Res R)(env:En):Ay a b env false=b env:=(rfl)
noncomputable def Rw.t:Rw->Str
 | .skip=>"skip"
 | .back=>"back"
 | .stop=>"stop"
 | .set _ _=>"set"
 | .any _=>"any"
 | .turn _=>"turn"
 | .iff _ _ _=>"if"
 | .go _=>"go"
 | .fork _=>"fork"
 | .call _=>"call"
theorem Az (r:Rw):∃ l,r.d=.str r.t::l:=by cases r<;>exact⟨_,rfl⟩
noncomputable def xY:Rw->Bool
 | .set w _=>w
 | .any w=>w
 | .turn w=>w
 |_=>false
theorem DF (r:Rw)(h:og r=true):∃ l,r.d=.str r.t::.str (wd (xY r))::l:=by cases r<;>first|exact⟨_,rfl⟩|cases h
theorem D0 (r:Rw):r6 true (.str r.t) (.tup [.str "set",.str "any",.str "turn"])=.ok (.val (.bl (!og r)) true []):=by cases r<;>rfl
noncomputable def DG:Rw->Bool
 | .stop=>true
 | .back=>true
 | .call _=>true
 |_=>false
theorem Er (r:Rw) (h:DG r=false):bJ (.str r.t) (.str "stop")=false/\bJ (.str r.t) (.str "back")=false/\bJ (.str r.t) (.str "call")=false:=by
 cases r<;>first|exact⟨rfl,rfl,rfl⟩|cases h
section
variable {s o:Int}{qs:List Pq}
noncomputable def gv (r:Rw)(place s o sh ow:Int):List (Int×Int×Int):=if og r=true then (if xY r=true then (vm r ow o).map fun v=>(place+1,sh,v) else (vm r sh s).map fun v=>(place+1,v,ow)) else (rb r place sh ow).map fun k=>(k,sh,ow)
noncomputable def lZ (g:Int×Int×Int):D:=.tup [.int g.1,.tup [.int g.2.1,.int g.2.2]]
theorem DH (sh ow v:Int):dC [.tup [.int sh,.int ow],.int 0,.int v]=.ok (.val (.tup [.int v,.int ow]) true []):=by
 have b:bJ (.int 0) (.int 0)=true:=rfl
 simp_arith[dC,jc,qx,o6,o7,cN,b]
theorem DI (sh ow v:Int):dC [.tup [.int sh,.int ow],.int 1,.int v]=.ok (.val (.tup [.int sh,.int v]) true []):=by
 have b:bJ (.int 1) (.int 0)=false:=rfl
 simp_arith[dC,jc,qx,o6,o7,cN,b]
theorem u_ (r:Rw)(place sh ow:Int):(rb r place sh ow).length<=2:=by cases r<;>simp[rb]
theorem jg (r:Rw)(v c:Int)(h:c<=4):(vm r v c).length<=4:=by cases r<;>simp[vm]<;>omega
theorem pL (h1:0<o)(h2:o<=4)(h3:0<s)(h4:s<=4)(r:Rw)(place sh ow:Int):dD [pq s o qs,.tup r.d,.int place,.tup [.int sh,.int ow]]=.ok (.new ((gv r place s o sh ow).map lZ) true):=by
 have hfl:D.flats ((gv r place s o sh ow).map lZ)=true:=aU _ _ fun _=>rfl
 rw[gM]
 cases hV:og r with
 |false=>
  obtain⟨l,el⟩:=Az r
  have hb:=sj r place sh ow hV
  have hn:=D0 r
  rw[hV]at hn
  have hc:=a_ (mk:=fun d=>gN 0 d true (cI [some (.val (.tup [.int s,.int o,.lst (qs.map qD)]) false),some (.val (.tup r.d) false),some (.val (.int place) false),some (.val (.tup [.int sh,.int ow]) false),none,none] 1 [3])) (test:=fun _=>.ok true) (elt:=gG) (fun k:Int=>D.int k) (fun k=>.val (lZ (k,sh,ow)) true []) (rb r place sh ow)
   fun k hk=>⟨[some (.val (.int k) true),some (.val (.tup [.int sh,.int ow]) false)],rfl,rfl,by simp_arith[gG,lZ]⟩
  have eg:(rb r place sh ow).map (fun k=>lZ (k,sh,ow))=(gv r place s o sh ow).map lZ:=by unfold gv;rw[if_neg (by rw[hV];simp),List.map_map];rfl
  have hbf:D.flats ((rb r place sh ow).map .int)=true:=aX _
  have hrf:(D.tup r.d).flat=true:=(eV r).flats
  rw[el]at hb hc hrf ⊢
  simp_arith[dD,gW,hn,hb,hbf,hrf,Bool.not_false]
  rw[bK (by rw[List.length_map];have:=u_ r place sh ow;omega) hc,dH (fun k:Int=>lZ (k,sh,ow)),eg,bA hfl]
  simp_arith
 |true=>
  obtain⟨l,el⟩:=DF r hV
  have hn:=D0 r
  rw[hV]at hn
  have hrf:(D.tup r.d).flat=true:=(eV r).flats
  cases hw:xY r with
  |false=>
   have hm:=qw r sh s hV h3 h4
   have hc:=a_ (mk:=fun d=>gN 0 d true (cI [some (.val (.tup [.int s,.int o,.lst (qs.map qD)]) false),some (.val (.tup r.d) false),some (.val (.int place) false),some (.val (.tup [.int sh,.int ow]) false),some (.val (.int 0) true),some (.val (.lst ((vm r sh s).map .int)) true)] 1 [2,3,4])) (test:=fun _=>.ok true) (elt:=c8) (fun k:Int=>D.int k) (fun k=>.val (lZ (place+1,k,ow)) true []) (vm r sh s)
    fun k hk=>⟨[some (.val (.int k) true),some (.val (.int place) false),some (.val (.tup [.int sh,.int ow]) false),some (.val (.int 0) true)],rfl,rfl,by simp_arith[c8,lZ,DH]⟩
   have eg:(vm r sh s).map (fun k=>lZ (place+1,k,ow))=(gv r place s o sh ow).map lZ:=by unfold gv;rw[if_pos hV,if_neg (by rw[hw];simp),List.map_map];rfl
   rw[hw,xj]at el
   rw[el]at hm hc hrf ⊢
   simp_arith[dD,gW,hn,hm,hrf,xW,aX,Bool.not_true]
   rw[bK (by rw[List.length_map];have:=jg r sh s h4;omega) hc,dH (fun k:Int=>lZ (place+1,k,ow)),eg,bA hfl]
   simp_arith
  |true=>
   have hm:=qw r ow o hV h1 h2
   have hc:=a_ (mk:=fun d=>gN 0 d true (cI [some (.val (.tup [.int s,.int o,.lst (qs.map qD)]) false),some (.val (.tup r.d) false),some (.val (.int place) false),some (.val (.tup [.int sh,.int ow]) false),some (.val (.int 1) true),some (.val (.lst ((vm r ow o).map .int)) true)] 1 [2,3,4])) (test:=fun _=>.ok true) (elt:=c8) (fun k:Int=>D.int k) (fun k=>.val (lZ (place+1,sh,k)) true []) (vm r ow o)
    fun k hk=>⟨[some (.val (.int k) true),some (.val (.int place) false),some (.val (.tup [.int sh,.int ow]) false),some (.val (.int 1) true)],rfl,rfl,by simp_arith[c8,lZ,DI]⟩
   have eg:(vm r ow o).map (fun k=>lZ (place+1,sh,k))=(gv r place s o sh ow).map lZ:=by unfold gv;rw[if_pos hV,if_pos hw,List.map_map];rfl
   rw[hw,xk]at el
   rw[el]at hm hc hrf ⊢
   simp_arith[dD,gW,hn,hm,hrf,xX,aX,Bool.not_true]
   rw[bK (by rw[List.length_map];have:=jg r ow o h2;omega) hc,dH (fun k:Int=>lZ (place+1,sh,k)),eg,bA hfl]
   simp_arith
end
end W
namespace W
open PySem L2 L3
section
variable {s o:Int}{qs:List Pq}
noncomputable def mD (m:Int×List Int):D:=.tup [.int m.1,.tup (m.2.map .int)]
theorem iR (m:Int×List Int):(mD m).flat=true:=by unfold mD;simp only[gB,cO,gA,aX,i9,Bool.and_self]
noncomputable def mv (s o:Int)(fo:Str->Int)(first pt sh ow:Int)(r:Rw):List (Int×List Int):=match r with
 | .stop=>[]
 | .back=>[(sh,[])]
 | .call f=>[(sh,[fo f*o+ow,(pt+1)*o+ow])]
 | .skip=>[(sh,[(pt+1)*o+ow])]
 | .go k=>[(sh,[(first+k)*o+ow])]
 | .fork k=>[(sh,[(pt+1)*o+ow]),(sh,[(first+k)*o+ow])]
 | .iff w n k=>[(sh,[(if (if w then ow else sh)=n then (first+k)*o else (pt+1)*o)+ow])]
 | .set w n=>if w=true then (vm (.set w n) ow o).map fun v=>(sh,[(pt+1)*o+v]) else (vm (.set w n) sh s).map fun v=>(v,[(pt+1)*o+ow])
 | .any w=>if w=true then (vm (.any w) ow o).map fun v=>(sh,[(pt+1)*o+v]) else (vm (.any w) sh s).map fun v=>(v,[(pt+1)*o+ow])
 | .turn w=>if w=true then (vm (.turn w) ow o).map fun v=>(sh,[(pt+1)*o+v]) else (vm (.turn w) sh s).map fun v=>(v,[(pt+1)*o+ow])
theorem Cq (fo:Str->Int)(first place sh ow:Int)(r:Rw)(h:DG r=false):(gv r place s o sh ow).map (fun g=>(g.2.1,[(first+g.1)*o+g.2.2]))=mv s o fo first (first+place) sh ow r:=by
 have e:first+(place+1)=first+place+1:=by omega
 cases r with
 |stop=>cases h
 |back=>cases h
 |call f=>cases h
 |skip=>simp[gv,og,rb,mv,e]
 |go k=>simp[gv,og,rb,mv]
 |fork k=>simp[gv,og,rb,mv,e]
 |iff w n k=>
  by_cases hc:(if w=true then ow else sh)=n
  ·simp[gv,og,rb,mv,hc]
  ·simp[gv,og,rb,mv,hc,e]
 |set w n=>cases w<;>simp[gv,og,xY,vm,mv,e]
 |any w=>cases w<;>simp[gv,og,xY,vm,mv,e]<;>rfl
 |turn w=>cases w<;>simp[gv,og,xY,vm,mv,e]
theorem va (h1:0<o)(h2:o<=4)(h3:0<s)(h4:s<=4)(r:Rw)(hr:nW (qs.map (·.1)) r)(first place sh ow:Int) :
 dP [pq s o qs,jL qs,.int first,.tup r.d,.int place,.tup [.int sh,.int ow]]=.ok (.new ((mv s o (aW 0 qs) first (first+place) sh ow r).map mD) true):=by
 have hsg:=fun p w=>jR (s:=s) (qs:=qs) h1 h2 p w
 have hpf:=b_ s o qs
 have hff:(jL qs).flat=false:=rfl
 by_cases hP:DG r=false
 ·have hg:=pL (qs:=qs) h1 h2 h3 h4 r place sh ow
  have em:=Cq (s:=s) (o:=o) (aW 0 qs) first place sh ow r hP
  obtain⟨t1,t2,t3⟩:=Er r hP
  obtain⟨l,el⟩:=Az r
  have hgl:(gv r place s o sh ow).length<=4:=by
   unfold gv
   split
   ·split
    ·rw[List.length_map];exact jg r ow o h2
    ·rw[List.length_map];exact jg r sh s h4
   ·rw[List.length_map];have:=u_ r place sh ow;omega
  have hgf:D.flats ((gv r place s o sh ow).map lZ)=true:=aU _ _ fun _=>rfl
  have hc:=a_ (mk:=fun d=>(dz 0 1) d true (cI [some (.val (pq s o qs) false),some (.val (jL qs) false),some (.val (.int first) false),some (.val (.tup r.d) false),some (.val (.int place) false),some (.val (.tup [.int sh,.int ow]) false),none,some (.val (.lst ((gv r place s o sh ow).map lZ)) true)] 2 [0,2])) (test:=fun _=>.ok true) (elt:=fM) lZ (fun g=>.val (mD (g.2.1,[(first+g.1)*o+g.2.2])) true []) (gv r place s o sh ow)
   fun g hg=>⟨[some (.val (.int g.1) true),some (.val (.tup [.int g.2.1,.int g.2.2]) true),some (.val (pq s o qs) false),some (.val (.int first) false)],rfl,rfl,by simp_arith[fM,mD,hpf,hsg]⟩
  have eg:(gv r place s o sh ow).map (fun g=>mD (g.2.1,[(first+g.1)*o+g.2.2]))=(mv s o (aW 0 qs) first (first+place) sh ow r).map mD:=by rw[<- em,List.map_map];rfl
  have hrf:(D.tup r.d).flat=true:=(eV r).flats
  unfold dz at hc
  rw[el]at hg hc hrf ⊢
  simp_arith[dP,h_,cN,t1,t2,t3,hpf,hg,hgf,hrf]
  rw[bK (by rw[List.length_map];omega) hc,dH (fun g:Int×Int×Int=>mD (g.2.1,[(first+g.1)*o+g.2.2])),eg,bA (aU _ _ iR)]
  simp_arith
 ·cases r with
  |stop=>rfl
  |back=>rfl
  |call f=>
   have hg:=fun(f0 g:Bool)(al bl:List Nat)=>xV (qs:=qs) (n:=f) (f:=f0) (g:=g) (al:=al) (bl:=bl) hr
   simp_arith[dP,h_,Rw.d,cN,n6,nZ,n8,hff,hg,hpf,hsg,mv,mD,bY]
  |_=>exact(hP rfl).elim
end
end W
namespace W
open PySem L2 L3
section
variable {s o:Int}{qs:List Pq}
theorem vb {fa:En->Res R}{env:En}{ds:List D}:uU fa env (.lst ds)=(fa env).bind (lO ds):=rfl
theorem Cr {f:Bool} {al:List Nat}:lO [.str "shared",.str "own"] (.val (.str "shared") f al)=.ok (.val (.int 0) true []):=rfl
theorem Cs {f:Bool} {al:List Nat}:lO [.str "shared",.str "own"] (.val (.str "own") f al)=.ok (.val (.int 1) true []):=rfl
theorem DJ:bJ (.int 0) (.int 0)=true:=rfl
theorem DL:bJ (.int 1) (.int 0)=false:=rfl
noncomputable def th (o first:Int):Rw->Int
 | .go k=>(first+k)*o
 | .fork k=>(first+k)*o
 | .iff _ _ k=>(first+k)*o
 |_=>0
noncomputable def DM:Rw->Bool
 | .go _=>true
 | .fork _=>true
 | .iff _ _ _=>true
 |_=>false
theorem Es (r:Rw):r6 false (.str r.t) (.tup [.str "go",.str "fork",.str "if"])=.ok (.val (.bl (DM r)) true []):=by cases r<;>rfl
theorem AA (r:Rw)(h:DM r=true):∃ k:Int,atI r.d (-1)=some (.int k)/\∀ o first,th o first r=(first+k)*o:=by cases r<;>first|exact⟨_,rfl,fun _ _=>rfl⟩|cases h
theorem AB (h1:0<o)(h2:o<=4)(n:Str)(r:Rw)(pt sh ow:Int) :
 b8 [.tup [.int s,.int o,.lst (qs.map qD)],.str n,.tup r.d,.int pt,.tup [.int sh,.int ow]]=fY (cD [some (.val (.tup [.int s,.int o,.lst (qs.map qD)]) false),some (.val (.str n) false),some (.val (.tup r.d) false),some (.val (.int pt) false),some (.val (.tup [.int sh,.int ow]) false),some (.val (.int o) true),some (.val (.int sh) true),some (.val (.int ow) true),some (.val (.int ((pt+1)*o)) true),some (.val (.int (th o (aW 0 qs n) r)) true),none]):=by
 have k1:-18446744073709551616<o:=by omega
 have k2:o<18446744073709551616:=by omega
 have hf:=fun n=>kK s o qs n
 simp only[gM]at hf
 have hi:=Es r
 have hrf:(D.tup r.d).flat=true:=(eV r).flats
 obtain⟨l,el⟩:=Az r
 cases hJ:DM r with
 |false=>
  have ht:th o (aW 0 qs n) r=0:=by cases r<;>first|rfl|cases hJ
  rw[hJ]at hi
  rw[ht]
  rw[el]at hrf ⊢
  simp_arith[b8,fU,d6,dZ,dY,dX,qx,o7,k1,k2,hi,hrf]
 |true=>
  obtain⟨k,ek,ht⟩:=AA r hJ
  rw[hJ]at hi
  rw[ht o (aW 0 qs n)]
  rw[el]at hrf ek ⊢
  simp_arith[b8,fU,d6,dZ,dY,dX,qx,o6,k1,k2,hi,hf,ek,hrf]
theorem sk {a bg:En->Res Fl}{e0 e1:Option Sl}{es:En}{ds:List D}{h x:Str}(fl:D.flats ds=true)(a0:atI ds 0=some (.str h))(ne:bJ (.str h) (.str x)=false) :
 aD (cY (vB (v2 d8 (ay 2 (vC (.int 0))) (vC (.str x)))) a bj) bg (e0::e1::some (.val (.tup ds) false)::es)=bg (e0::e1::some (.val (.tup ds) false)::es):=by
 have t:vB (v2 d8 (ay 2 (vC (.int 0))) (vC (.str x))) (e0::e1::some (.val (.tup ds) false)::es)=.ok false:=by simp_arith[fl,a0,cN,ne]
 rw[ud,zo,t];rfl
theorem tk {a bg:En->Res Fl}{e0 e1:Option Sl}{es:En}{ds:List D}{h x:Str}{v:R}(fl:D.flats ds=true)(a0:atI ds 0=some (.str h))(ne:bJ (.str h) (.str x)=true)(ha:a (e0::e1::some (.val (.tup ds) false)::es)=.ok (.rt v)) :
 aD (cY (vB (v2 d8 (ay 2 (vC (.int 0))) (vC (.str x)))) a bj) bg (e0::e1::some (.val (.tup ds) false)::es)=.ok (.rt v):=by
 have t:vB (v2 d8 (ay 2 (vC (.int 0))) (vC (.str x))) (e0::e1::some (.val (.tup ds) false)::es)=.ok true:=by simp_arith[fl,a0,cN,ne]
 rw[ud,zo,t]
 show(a _).bind _=_
 rw[ha];rfl
theorem DN {bg:En->Res Fl}{e0 e1 e3 e4 e5 e6 e7 e8 e9:Option Sl}{ds:List D}{w:Bool}(fl:D.flats ds=true)(a1:atI ds 1=some (.str (wd w))) :
 aD (bN 10 (wq (bF (ad (vC (.str "shared")) (ad (vC (.str "own")) ak))) (ay 2 (vC (.int 1))))) bg [e0,e1,some (.val (.tup ds) false),e3,e4,e5,e6,e7,e8,e9,none]=bg [e0,e1,some (.val (.tup ds) false),e3,e4,e5,e6,e7,e8,e9,some (.val (.int (if w then 1 else 0)) true)]:=by
 cases w with
 |false=>simp_arith[fl,a1,xj,vb,Cr,bY,Bool.false_eq_true,if_false]
 |true=>simp_arith[fl,a1,xk,vb,Cs,bY,if_true]
theorem D1 {e0 e1:Option Sl} {es:En} {ds:List D} {h:Str} (fl:D.flats ds=true) (a0:atI ds 0=some (.str h)) (ne:∀ x∈(["stop", "back", "call", "skip", "go", "fork"]:List Str),bJ (.str h) (.str x)=false) :
 cD (e0::e1::some (.val (.tup ds) false)::es)=cf (e0::e1::some (.val (.tup ds) false)::es):=by
 have c1:cD (e0::e1::some (.val (.tup ds) false)::es)=dW (e0::e1::some (.val (.tup ds) false)::es):=sk fl a0 (ne "stop" (by simp))
 have c2:dW (e0::e1::some (.val (.tup ds) false)::es)=dU (e0::e1::some (.val (.tup ds) false)::es):=sk fl a0 (ne "back" (by simp))
 have c3:dU (e0::e1::some (.val (.tup ds) false)::es)=dS (e0::e1::some (.val (.tup ds) false)::es):=sk fl a0 (ne "call" (by simp))
 have c4:dS (e0::e1::some (.val (.tup ds) false)::es)=dh (e0::e1::some (.val (.tup ds) false)::es):=sk fl a0 (ne "skip" (by simp))
 have c5:dh (e0::e1::some (.val (.tup ds) false)::es)=df (e0::e1::some (.val (.tup ds) false)::es):=sk fl a0 (ne "go" (by simp))
 have c6:df (e0::e1::some (.val (.tup ds) false)::es)=cf (e0::e1::some (.val (.tup ds) false)::es):=sk fl a0 (ne "fork" (by simp))
 exact c1.trans (c2.trans (c3.trans (c4.trans (c5.trans c6))))
theorem D2 {e0 e1 e3 e4 e5 e6 e7 e8 e9:Option Sl}{ds:List D}{w:Bool}(fl:D.flats ds=true)(a1:atI ds 1=some (.str (wd w))) :
 cf [e0,e1,some (.val (.tup ds) false),e3,e4,e5,e6,e7,e8,e9,none]=de [e0,e1,some (.val (.tup ds) false),e3,e4,e5,e6,e7,e8,e9,some (.val (.int (if w then 1 else 0)) true)]:=DN fl a1
theorem Et {e0 e1:Option Sl} {es:En} {ds:List D} {h:Str} (fl:D.flats ds=true) (a0:atI ds 0=some (.str h)) (ne:bJ (.str h) (.str "if")=false) :
 de (e0::e1::some (.val (.tup ds) false)::es)=bQ (e0::e1::some (.val (.tup ds) false)::es):=sk fl a0 ne
theorem vc (h1:0<o)(h2:o<=4)(h3:0<s)(h4:s<=4)(n:Str)(r:Rw)(pt sh ow:Int)(a1:0<=sh)(a2:sh<s)(a3:0<=ow)(a4:ow<o) :
 b8 [pq s o qs,.str n,.tup r.d,.int pt,.tup [.int sh,.int ow]]=.ok (.new ((mv s o (aW 0 qs) (aW 0 qs n) pt sh ow r).map mD) true):=by
 have k1:-18446744073709551616<o:=by omega
 have k2:o<18446744073709551616:=by omega
 rw[gM,AB h1 h2]
 have fl:=(eV r).flats
 have g0:atI r.d 0=some (.str r.t):=by cases r<;>rfl
 cases hV:og r with
 |true=>
  have ne:∀ x∈(["stop", "back", "call", "skip", "go", "fork", "if"]:List Str),bJ (.str r.t) (.str x)=false:=by
   intro x hx
   simp only[List.mem_cons,List.not_mem_nil,or_false]at hx
   rcases hx with rfl|rfl|rfl|rfl|rfl|rfl|rfl<;>cases r<;>first|rfl|cases hV
  have g1:atI r.d 1=some (.str (wd (xY r))):=by cases r<;>first|rfl|cases hV
  have ht:th o (aW 0 qs n) r=0:=by cases r<;>first|rfl|cases hV
  have hrf:(D.tup r.d).flat=true:=fl
  rw[ht]
  rw[D1 fl g0 fun x hx=>ne x (by simp at hx ⊢;rcases hx with z|z|z|z|z|z<;>simp[z]),D2 fl g1,Et fl g0 (ne "if" (by simp))]
  cases hw:xY r with
  |false=>
   have hb:=kR r sh s hV a1 a2 h4
   have hl:=jg r sh s h4
   have hc:=a_ (mk:=fun d=>gN 0 d true (cI [some (.val (.tup [.int s,.int o,.lst (qs.map qD)]) false),some (.val (.str n) false),some (.val (.tup r.d) false),some (.val (.int pt) false),some (.val (.tup [.int sh,.int ow]) false),some (.val (.int o) true),some (.val (.int sh) true),some (.val (.int ow) true),some (.val (.int ((pt+1)*o)) true),some (.val (.int 0) true),some (.val (.int 0) true)] 1 [7,8])) (test:=fun _=>.ok true) (elt:=dQ) (fun k:Int=>D.int k) (fun k=>.val (mD (k,[(pt+1)*o+ow])) true []) (vm r sh s)
    fun k hk=>⟨[some (.val (.int k) true),some (.val (.int ow) true),some (.val (.int ((pt+1)*o)) true)],rfl,rfl,by simp_arith[dQ,mD]⟩
   have em:(vm r sh s).map (fun k=>mD (k,[(pt+1)*o+ow]))=(mv s o (aW 0 qs) (aW 0 qs n) pt sh ow r).map mD:=by
    cases r with
    |set w m=>
     have:w=false:=hw
     subst this
     show _=((vm (.set false m) sh s).map fun k=>(k,[(pt+1)*o+ow])).map mD
     rw[List.map_map];rfl
    |any w=>
     have:w=false:=hw
     subst this
     show _=((vm (.any false) sh s).map fun k=>(k,[(pt+1)*o+ow])).map mD
     rw[List.map_map];rfl
    |turn w=>
     have:w=false:=hw
     subst this
     show _=((vm (.turn false) sh s).map fun k=>(k,[(pt+1)*o+ow])).map mD
     rw[List.map_map];rfl
    |_=>cases hV
   have hbf:D.flats ((vm r sh s).map D.int)=true:=aX _
   simp only[Bool.false_eq_true,if_false]
   simp_arith[bQ,cN,DJ,hb,hbf,hrf,fl]
   rw[bK (by rw[List.length_map];omega) hc,dH (fun k:Int=>mD (k,[(pt+1)*o+ow])),em,bA (aU _ _ iR)]
   simp_arith
  |true=>
   have hb:=kR r ow o hV a3 a4 h2
   have hl:=jg r ow o h2
   have hc:=a_ (mk:=fun d=>gN 0 d true (cI [some (.val (.tup [.int s,.int o,.lst (qs.map qD)]) false),some (.val (.str n) false),some (.val (.tup r.d) false),some (.val (.int pt) false),some (.val (.tup [.int sh,.int ow]) false),some (.val (.int o) true),some (.val (.int sh) true),some (.val (.int ow) true),some (.val (.int ((pt+1)*o)) true),some (.val (.int 0) true),some (.val (.int 1) true)] 1 [6,8])) (test:=fun _=>.ok true) (elt:=dR) (fun k:Int=>D.int k) (fun k=>.val (mD (sh,[(pt+1)*o+k])) true []) (vm r ow o)
    fun k hk=>⟨[some (.val (.int k) true),some (.val (.int sh) true),some (.val (.int ((pt+1)*o)) true)],rfl,rfl,by simp_arith[dR,mD]⟩
   have em:(vm r ow o).map (fun k=>mD (sh,[(pt+1)*o+k]))=(mv s o (aW 0 qs) (aW 0 qs n) pt sh ow r).map mD:=by
    cases r with
    |set w m=>
     have:w=true:=hw
     subst this
     show _=((vm (.set true m) ow o).map fun k=>(sh,[(pt+1)*o+k])).map mD
     rw[List.map_map];rfl
    |any w=>
     have:w=true:=hw
     subst this
     show _=((vm (.any true) ow o).map fun k=>(sh,[(pt+1)*o+k])).map mD
     rw[List.map_map];rfl
    |turn w=>
     have:w=true:=hw
     subst this
     show _=((vm (.turn true) ow o).map fun k=>(sh,[(pt+1)*o+k])).map mD
     rw[List.map_map];rfl
    |_=>cases hV
   have hbf:D.flats ((vm r ow o).map D.int)=true:=aX _
   simp only[if_true]
   simp_arith[bQ,fZ,cN,DL,hb,hbf,hrf,fl]
   rw[bK (by rw[List.length_map];omega) hc,dH (fun k:Int=>mD (sh,[(pt+1)*o+k])),em,bA (aU _ _ iR)]
   simp_arith
 |false=>
  have hf:=fun n=>kK s o qs n
  simp only[gM]at hf
  cases r with
  |set _ _=>cases hV
  |any _=>cases hV
  |turn _=>cases hV
  |stop=>exact congrArg fY (tk fl g0 rfl (v:=.new [] true) rfl)
  |back=>exact congrArg fY ((sk fl g0 rfl).trans (tk fl g0 rfl (v:=.new [mD (sh,[])] true) rfl))
  |call f=>exact congrArg fY ((sk fl g0 rfl).trans ((sk fl g0 rfl).trans (tk fl g0 rfl (v:=.new [mD (sh,[aW 0 qs f*o+ow,(pt+1)*o+ow])] true) (by simp_arith[k1,k2,hf,mD,Rw.d,bY]))))
  |skip=>exact congrArg fY ((sk fl g0 rfl).trans ((sk fl g0 rfl).trans ((sk fl g0 rfl).trans (tk fl g0 rfl (v:=.new [mD (sh,[(pt+1)*o+ow])] true) rfl))))
  |go k=>exact congrArg fY ((sk fl g0 rfl).trans ((sk fl g0 rfl).trans ((sk fl g0 rfl).trans ((sk fl g0 rfl).trans (tk fl g0 rfl (v:=.new [mD (sh,[(aW 0 qs n+k)*o+ow])] true) rfl)))))
  |fork k=>exact congrArg fY ((sk fl g0 rfl).trans ((sk fl g0 rfl).trans ((sk fl g0 rfl).trans ((sk fl g0 rfl).trans ((sk fl g0 rfl).trans (tk fl g0 rfl (v:=.new [mD (sh,[(pt+1)*o+ow]),mD (sh,[(aW 0 qs n+k)*o+ow])] true) rfl))))))
  |iff w n' k=>
   have hl:∀(b:Bool)(v:Int),bJ (.int (if w then ow else sh)) (.int n')=b->v=(if b then (aW 0 qs n+k)*o else (pt+1)*o)->
    aD (cY (vB (v2 d8 (ay 2 (vC (.int 0))) (vC (.str "if")))) (aQ (bF (ad (bo (ad (ah 6) (ad (bo (ad (v2 ba (v2 j9 (bF (ad (ah 8) (ad (ah 9) ak))) (e_ oK (ad (v2 d8 (ay 4 (ah 10)) (ay 2 (vC (.int 2)))) ak))) (ah 7)) ak)) ak))) ak))) bj) bQ
    [some (.val (.tup [.int s,.int o,.lst (qs.map qD)]) false),some (.val (.str n) false),some (.val (.tup (Rw.d (.iff w n' k))) false),some (.val (.int pt) false),some (.val (.tup [.int sh,.int ow]) false),some (.val (.int o) true),some (.val (.int sh) true),some (.val (.int ow) true),some (.val (.int ((pt+1)*o)) true),some (.val (.int ((aW 0 qs n+k)*o)) true),some (.val (.int (if w then 1 else 0)) true)]
    = .ok (.rt (.new [mD (sh,[v+ow])] true)):=fun b v hb hv=>by
    subst hv
    refine tk fl g0 rfl ?_
    have i4:atI [D.int sh,D.int ow] (if w then 1 else 0)=some (.int (if w then ow else sh)):=by cases w<;>rfl
    have i2:atI (Rw.d (.iff w n' k)) 2=some (.int n'):=rfl
    cases b with
    |true=>simp_arith[i4,i2,fl,cN,hb,Co,mD,bY,if_true]
    |false=>simp_arith[i4,i2,fl,cN,hb,Cp,mD,bY,Bool.false_eq_true,if_false]
   have hm:(mv s o (aW 0 qs) (aW 0 qs n) pt sh ow (.iff w n' k)).map mD=[mD (sh,[(if bJ (.int (if w then ow else sh)) (.int n') then (aW 0 qs n+k)*o else (pt+1)*o)+ow])]:=by
    simp only[mv,iz]
    cases w<;>simp<;>split<;>rfl
   rw[hm]
   have ne:∀ x∈(["stop", "back", "call", "skip", "go", "fork"]:List Str),bJ (.str (Rw.t (.iff w n' k))) (.str x)=false:=by
    intro x hx
    simp only[List.mem_cons,List.not_mem_nil,or_false]at hx
    rcases hx with rfl|rfl|rfl|rfl|rfl|rfl<;>rfl
   rw[D1 fl g0 ne,D2 (w:=w) fl rfl]
   exact congrArg fY (hl _ _ rfl rfl)
end
end W
namespace W
open PySem L2 L3
section
variable {s o:Int}{qs:List Pq}
noncomputable def jD (sh sg:Int)(m:Int×List Int):D:=.tup [.int sh,.int sg,.int m.1,.tup (m.2.map .int)]
theorem kT (sh sg:Int)(m:Int×List Int):(jD sh sg m).flat=true:=by unfold jD;simp only[gB,cO,gA,aX,i9,Bool.and_self]
noncomputable def o8 (s o:Int)(fo:Str->Int)(first pt sh ow:Int)(r:Rw):List D:=(mv s o fo first pt sh ow r).map (jD sh (pt*o+ow))
theorem o9 (h2:o<=4)(h4:s<=4)(fo:Str->Int)(first pt sh ow:Int)(r:Rw):(mv s o fo first pt sh ow r).length<=4:=by
 cases r with
 |set w n=>cases w<;>simp[mv,vm]
 |any w=>cases w<;>simp[mv,vm]<;>omega
 |turn w=>cases w<;>simp[mv,vm]
 |_=>simp[mv]
theorem mL (h2:o<=4)(h4:s<=4)(fo:Str->Int)(first pt sh ow:Int)(r:Rw):(o8 s o fo first pt sh ow r).length<=4:=by unfold o8;rw[List.length_map];exact o9 h2 h4 fo first pt sh ow r
theorem jh {α β:Type}(f:α->List β)(b:Nat):∀ xs:List α,(∀ x∈xs,(f x).length<=b)->(xs.flatMap f).length<=b*xs.length
 | [],_=>by simp
 |x::xs,h=>by
  have h1:=h x (by simp)
  have h2:=jh f b xs fun y hy=>h y (by simp[hy])
  rw[List.flatMap_cons,List.length_append,List.length_cons,Nat.mul_succ]
  omega
theorem mM {α β:Type}(f:α->List β)(xs:List α)(x:α):(xs++[x]).flatMap f=xs.flatMap f++f x:=by simp
noncomputable def ve (s o:Int)(fo:Str->Int)(first pt ow:Int)(r:Rw):List D:=(List.range s.toNat).flatMap fun sh:Nat=>o8 s o fo first pt sh ow r
noncomputable def vf (s o:Int)(fo:Str->Int)(first pt:Int)(r:Rw):List D:=(List.range o.toNat).flatMap fun ow:Nat=>ve s o fo first pt ow r
theorem xm (h1:0<o)(h2:o<=4)(h3:0<s)(h4:s<=4)(r:Rw)(hr:nW (qs.map (·.1)) r)(first place ow:Int)(acc:List D)(ha:acc.length<=1000)(x y:Option Sl):∃ x' y':Option Sl,
 bP (gN 8) true dr ((List.range s.toNat).map fun k=>D.int (k:Nat)) [some (.val (pq s o qs) false),some (.val (jL qs) false),some (.val (.int first) false),some (.val (.tup r.d) false),some (.val (.int place) false),some (.own acc true),some (.val (.int ow) true),some (.val (.int ((first+place)*o+ow)) true),x,y]
  = .ok (.nx [some (.val (pq s o qs) false),some (.val (jL qs) false),some (.val (.int first) false),some (.val (.tup r.d) false),some (.val (.int place) false),some (.own (acc++ve s o (aW 0 qs) first (first+place) ow r) true),some (.val (.int ow) true),some (.val (.int ((first+place)*o+ow)) true),x',y']):=by
 have hpf:=b_ s o qs
 have hff:(jL qs).flat=false:=rfl
 have hrf:(D.tup r.d).flat=true:=(eV r).flats
 obtain⟨bf,lp,x',y',rfl⟩:=dl (fun k:Nat=>D.int k) (asg:=gN 8) (fr:=true) (body:=dr) (List.range s.toNat) (fun pre env=>∃ x' y':Option Sl,env=[some (.val (pq s o qs) false),some (.val (jL qs) false),some (.val (.int first) false),some (.val (.tup r.d) false),some (.val (.int place) false),some (.own (acc++pre.flatMap fun sh:Nat=>o8 s o (aW 0 qs) first (first+place) sh ow r) true),some (.val (.int ow) true),some (.val (.int ((first+place)*o+ow)) true),x',y']) (List.range s.toNat) []
  [some (.val (pq s o qs) false),some (.val (jL qs) false),some (.val (.int first) false),some (.val (.tup r.d) false),some (.val (.int place) false),some (.own acc true),some (.val (.int ow) true),some (.val (.int ((first+place)*o+ow)) true),x,y] rfl ⟨x,y,by simp⟩
  (by
    rintro pre post k env ea ⟨x',y',rfl⟩
    have hpl:pre.length+post.length+1=s.toNat:=by have:=congrArg List.length ea;simp at this;omega
    have hle:=va h1 h2 h3 h4 r hr first place k ow
    have hml:=o9 h2 h4 (aW 0 qs) first (first+place) k ow r
    have hfl:=jh (fun sh:Nat=>o8 s o (aW 0 qs) first (first+place) sh ow r) 4 pre fun sh _=>mL h2 h4 _ _ _ _ _ _
    generalize hA:(acc++pre.flatMap fun sh:Nat=>o8 s o (aW 0 qs) first (first+place) sh ow r)=A
    have hAl:A.length<=2000:=by rw[<- hA,List.length_append];omega
    have hmf:D.flats ((mv s o (aW 0 qs) first (first+place) k ow r).map mD)=true:=aU _ _ iR
    have hc:=a_ (mk:=fun d=>(dz 0 1) d true (cI [some (.val (pq s o qs) false),some (.val (jL qs) false),some (.val (.int first) false),some (.val (.tup r.d) false),some (.val (.int place) false),some (.own A true),some (.val (.int ow) true),some (.val (.int ((first+place)*o+ow)) true),some (.val (.int k) true),some (.val (.lst ((mv s o (aW 0 qs) first (first+place) k ow r).map mD)) true)] 2 [7,8])) (test:=fun _=>.ok true) (elt:=fN) mD (fun m=>.val (jD k ((first+place)*o+ow) m) true []) (mv s o (aW 0 qs) first (first+place) k ow r)
     fun m hm=>⟨[some (.val (.int m.1) true),some (.val (.tup (m.2.map .int)) true),some (.val (.int ((first+place)*o+ow)) true),some (.val (.int k) true)],rfl,rfl,by simp_arith[fN,jD,aX]⟩
    unfold dz at hc
    refine⟨_,[some (.val (pq s o qs) false),some (.val (jL qs) false),some (.val (.int first) false),some (.val (.tup r.d) false),some (.val (.int place) false),some (.own (A++o8 s o (aW 0 qs) first (first+place) k ow r) true),some (.val (.int ow) true),some (.val (.int ((first+place)*o+ow)) true),some (.val (.int k) true),some (.val (.lst ((mv s o (aW 0 qs) first (first+place) k ow r).map mD)) true)],rfl,?_,some (.val (.int k) true),some (.val (.lst ((mv s o (aW 0 qs) first (first+place) k ow r).map mD)) true),by rw[mM,<- List.append_assoc,hA]⟩
    have hel:A.length+((mv s o (aW 0 qs) first (first+place) k ow r).map (jD k ((first+place)*o+ow))).length<=1000000:=by rw[List.length_map];omega
    simp_arith[dr,hpf,hff,hrf,hle,hmf]
    rw[bK (by rw[List.length_map];omega) hc,dH (jD k ((first+place)*o+ow)),bA (aU _ _ fun m=>kT _ _ m)]
    simp_arith[Ai hel]
    rfl)
 exact⟨x',y',lp⟩
theorem qy (h2:o<=4)(h4:s<=4)(fo:Str->Int)(first pt ow:Int)(r:Rw):(ve s o fo first pt ow r).length<=16:=by
 have:=jh (fun sh:Nat=>o8 s o fo first pt sh ow r) 4 (List.range s.toNat) fun sh _=>mL h2 h4 _ _ _ _ _ _
 rw[List.length_range]at this
 unfold ve;omega
theorem mO (h2:o<=4)(h4:s<=4)(fo:Str->Int)(first pt:Int)(r:Rw):(vf s o fo first pt r).length<=64:=by
 have:=jh (fun ow:Nat=>ve s o fo first pt ow r) 16 (List.range o.toNat) fun ow _=>qy h2 h4 _ _ _ _ _
 rw[List.length_range]at this
 unfold vf;omega
theorem n9 (h1:0<o)(h2:o<=4)(h3:0<s)(h4:s<=4)(r:Rw)(hr:nW (qs.map (·.1)) r)(first place:Int) :
 fQ [pq s o qs,jL qs,.int first,.tup r.d,.int place]=.ok (.val (.lst (vf s o (aW 0 qs) first (first+place) r)) true [5]):=by
 have hpf:=b_ s o qs
 have hsg:=fun p w=>jR (s:=s) (qs:=qs) h1 h2 p w
 have hp0:∀{f:Bool}{al:List Nat}{k:Int},oQ (pq s o qs) (.int k) f al=vo f al (atI [.int s,.int o,.lst (qs.map qD)] k):=by intro f al k;rw[gM];rfl
 have c1:-4611686018427387904<=s:=by omega
 have c2:s<4611686018427387904:=by omega
 have c3:-4611686018427387904<=o:=by omega
 have c4:o<4611686018427387904:=by omega
 obtain⟨bf,lp,a,b,c,d,rfl⟩:=dl (fun k:Nat=>D.int k) (asg:=gN 6) (fr:=true) (body:=fP) (List.range o.toNat) (fun pre env=>∃ a b c d:Option Sl,env=[some (.val (pq s o qs) false),some (.val (jL qs) false),some (.val (.int first) false),some (.val (.tup r.d) false),some (.val (.int place) false),some (.own (pre.flatMap fun ow:Nat=>ve s o (aW 0 qs) first (first+place) ow r) true),a,b,c,d]) (List.range o.toNat) []
  [some (.val (pq s o qs) false),some (.val (jL qs) false),some (.val (.int first) false),some (.val (.tup r.d) false),some (.val (.int place) false),some (.own [] true),none,none,none,none] rfl ⟨_,_,_,_,rfl⟩
  (by
    rintro pre post k env ea ⟨a,b,c,d,rfl⟩
    have hpl:pre.length+post.length+1=o.toNat:=by have:=congrArg List.length ea;simp at this;omega
    have hfl:=jh (fun ow:Nat=>ve s o (aW 0 qs) first (first+place) ow r) 16 pre fun ow _=>qy h2 h4 _ _ _ _ _
    obtain⟨x',y',lp2⟩:=xm h1 h2 h3 h4 r hr first place k (pre.flatMap fun ow:Nat=>ve s o (aW 0 qs) first (first+place) ow r) (by omega) c d
    refine⟨_,[some (.val (pq s o qs) false),some (.val (jL qs) false),some (.val (.int first) false),some (.val (.tup r.d) false),some (.val (.int place) false),some (.own ((pre.flatMap fun ow:Nat=>ve s o (aW 0 qs) first (first+place) ow r)++ve s o (aW 0 qs) first (first+place) k r) true),some (.val (.int k) true),some (.val (.int ((first+place)*o+k)) true),x',y'],rfl,?_,some (.val (.int k) true),some (.val (.int ((first+place)*o+k)) true),x',y',by rw[mM]⟩
    simp_arith[fP,hpf,hsg,hp0]
    rw[lR c1 c2,nM,fF]
    simp_arith[lp2])
 simp_arith[fQ,kE,hpf,hp0,bY]
 rw[lR c3 c4,nM,fF]
 simp_arith[lp]
 rfl
end
end W
namespace W
open PySem L2 L3
section
variable {s o:Int}{qs:List Pq}
noncomputable def so (s o:Int)(fo:Str->Int)(first pt:Int)(r:Rw):List D:=(List.range (s*o).toNat).flatMap fun n:Nat=>o8 s o fo first pt ((n:Int) % s) ((n:Int) / s) r
theorem n_ {α β:Type}{f g:α->List β}:∀{xs:List α},(∀ x∈xs,f x=g x)->xs.flatMap f=xs.flatMap g
 | [],_=>rfl
 |x::xs,h=>by rw[List.flatMap_cons,List.flatMap_cons,h x (by simp),n_ fun y hy=>h y (by simp[hy])]
theorem kU {β:Type}(f:Nat->Nat->List β)(a:Nat)(h:0<a):∀ b:Nat,(List.range (a*b)).flatMap (fun n=>f (n % a) (n / a))=(List.range b).flatMap fun j=>(List.range a).flatMap fun i=>f i j
 |0=>by simp
 |b+1=>by
  rw[Nat.mul_succ,List.range_add,List.flatMap_append,kU f a h b,List.range_succ,List.flatMap_append,List.flatMap_map]
  congr 1
  simp only[List.flatMap_cons,List.flatMap_nil,List.append_nil]
  refine n_ fun i hi=>?_
  have hi:=List.mem_range.mp hi
  rw[Nat.mul_add_mod,Nat.mod_eq_of_lt hi,Nat.mul_add_div h,Nat.div_eq_of_lt hi,Nat.add_zero]
theorem qz (h1:0<o)(h3:0<s)(fo:Str->Int)(first pt:Int)(r:Rw):so s o fo first pt r=vf s o fo first pt r:=by
 obtain⟨a,rfl⟩:=Int.eq_ofNat_of_zero_le (Int.le_of_lt h3)
 obtain⟨b,rfl⟩:=Int.eq_ofNat_of_zero_le (Int.le_of_lt h1)
 have:=kU (fun i j=>o8 (a:Int) (b:Int) fo first pt (i:Int) (j:Int) r) a (by omega) b
 unfold so vf ve
 rw[show((a:Int)*(b:Int)).toNat=a*b by rw[<- Int.natCast_mul];rfl,Int.toNat_natCast,Int.toNat_natCast]
 exact this
theorem vg (h1:0<o)(h2:o<=4)(h3:0<s)(h4:s<=4)(fo:Str->Int)(first pt:Int)(r:Rw):(so s o fo first pt r).length<=64:=by rw[qz h1 h3];exact mO h2 h4 fo first pt r
noncomputable abbrev lE (s o:Int)(qs:List Pq)(acc:List D)(pt:Int)(q:Pq)(x5 x6 x7 x8:Option Sl):En:=[some (.val (pq s o qs) false),some (.own acc true),some (.val (.int pt) true),some (.val (.str q.1) false),some (.val (.lst (q.2.map fun r=>.tup r.d)) false),x5,x6,x7,x8]
theorem hI {f:Bool}{al:List Nat}{k:Int}:oQ (pq s o qs) (.int k) f al=vo f al (atI [.int s,.int o,.lst (qs.map qD)] k):=by rw[gM];rfl
theorem qA (h1:0<o)(h2:o<=4)(q:Pq)(pt sh ow:Int)(x5 x6:Option Sl):∀(ms:List (Int×List Int))(acc:List D)(x8:Option Sl),acc.length+ms.length<=900000->∃ x8',bP (gN 8) true cE (ms.map mD) (lE s o qs acc pt q x5 x6 (some (.val (.tup [.int sh,.int ow]) true)) x8)=.ok (.nx (lE s o qs (acc++ms.map (jD sh (pt*o+ow))) pt q x5 x6 (some (.val (.tup [.int sh,.int ow]) true)) x8'))
 | [],acc,x8,_=>⟨x8,by rw[List.map_nil,List.map_nil,List.append_nil];rfl⟩
 |m::ms,acc,x8,hl=>by
  rw[List.length_cons]at hl
  have k1:-18446744073709551616<o:=by omega
  have k2:o<18446744073709551616:=by omega
  obtain⟨x8',ih⟩:=qA h1 h2 q pt sh ow x5 x6 ms (acc++[jD sh (pt*o+ow) m]) (some (.val (mD m) true)) (by rw[List.length_append,List.length_singleton];omega)
  refine⟨x8',?_⟩
  have ha:acc.length<1000000:=by omega
  have st:cE (lE s o qs acc pt q x5 x6 (some (.val (.tup [.int sh,.int ow]) true)) (some (.val (mD m) true)))=.ok (.nx (lE s o qs (acc++[jD sh (pt*o+ow) m]) pt q x5 x6 (some (.val (.tup [.int sh,.int ow]) true)) (some (.val (mD m) true)))):=by
   have hpf:=b_ s o qs
   unfold lE mD jD
   simp_arith[cE,hpf,hI,k1,k2,i8,ha,aX]
  rw[List.map_cons,fV (env1:=lE s o qs acc pt q x5 x6 (some (.val (.tup [.int sh,.int ow]) true)) (some (.val (mD m) true))) rfl st,ih,List.map_cons,List.append_assoc]
  rfl
theorem xn (h1:0<o)(h2:o<=4)(h3:0<s)(h4:s<=4)(q:Pq)(r:Rw)(pt:Int)(acc:List D)(ha:acc.length<=800000)(x6 x7 x8:Option Sl):∃ x6' x7' x8':Option Sl,
 bP (gN 6) true cF ((List.range (s*o).toNat).map fun k=>D.int (k:Nat)) (lE s o qs acc pt q (some (.val (.tup r.d) false)) x6 x7 x8)=.ok (.nx (lE s o qs (acc++so s o (aW 0 qs) (aW 0 qs q.1) pt r) pt q (some (.val (.tup r.d) false)) x6' x7' x8')):=by
 have hso:s*o<=16:=by
  have:s*o<=4*4:=Int.mul_le_mul h4 h2 (by omega) (by omega)
  omega
 obtain⟨bf,lp,x6',x7',x8',rfl⟩:=dl (fun k:Nat=>D.int k) (asg:=gN 6) (fr:=true) (body:=cF) (List.range (s*o).toNat) (fun pre env=>∃ x6' x7' x8':Option Sl,env=lE s o qs (acc++pre.flatMap fun n:Nat=>o8 s o (aW 0 qs) (aW 0 qs q.1) pt ((n:Int) % s) ((n:Int) / s) r) pt q (some (.val (.tup r.d) false)) x6' x7' x8') (List.range (s*o).toNat) []
  (lE s o qs acc pt q (some (.val (.tup r.d) false)) x6 x7 x8) rfl ⟨x6,x7,x8,by rw[List.flatMap_nil,List.append_nil]⟩
  (by
    rintro pre post k env ea ⟨x6',x7',x8',rfl⟩
    have hk:k<(s*o).toNat:=by
     have:k∈List.range (s*o).toNat:=by rw[ea];simp
     exact List.mem_range.mp this
    have hpl:pre.length+post.length+1=(s*o).toNat:=by have:=congrArg List.length ea;simp at this;omega
    have b1:0<=(k:Int) % s:=Int.emod_nonneg _ (by omega)
    have b2:(k:Int) % s<s:=Int.emod_lt_of_pos _ h3
    have b3:0<=(k:Int) / s:=Int.ediv_nonneg (by omega) (by omega)
    have b4:(k:Int) / s<o:=Int.ediv_lt_of_lt_mul h3 (by rw[Int.mul_comm];omega)
    have hfl:=jh (fun n:Nat=>o8 s o (aW 0 qs) (aW 0 qs q.1) pt ((n:Int) % s) ((n:Int) / s) r) 4 pre fun n _=>mL h2 h4 _ _ _ _ _ _
    have hml:=o9 h2 h4 (aW 0 qs) (aW 0 qs q.1) pt ((k:Int) % s) ((k:Int) / s) r
    have hmo:=vc (qs:=qs) h1 h2 h3 h4 q.1 r pt ((k:Int) % s) ((k:Int) / s) b1 b2 b3 b4
    generalize hA:(acc++pre.flatMap fun n:Nat=>o8 s o (aW 0 qs) (aW 0 qs q.1) pt ((n:Int) % s) ((n:Int) / s) r)=A
    have hAl:A.length<=800064:=by rw[<- hA,List.length_append];omega
    have hmf:D.flats ((mv s o (aW 0 qs) (aW 0 qs q.1) pt ((k:Int) % s) ((k:Int) / s) r).map mD)=true:=aU _ _ iR
    have hrf:(D.tup r.d).flat=true:=(eV r).flats
    have hpf:=b_ s o qs
    have s2:s<1073741824:=by omega
    obtain⟨y8,lp1⟩:=qA (s:=s) (qs:=qs) h1 h2 q pt ((k:Int) % s) ((k:Int) / s) (some (.val (.tup r.d) false)) (some (.val (.int k) true)) (mv s o (aW 0 qs) (aW 0 qs q.1) pt ((k:Int) % s) ((k:Int) / s) r) A x8' (by omega)
    refine⟨lE s o qs A pt q (some (.val (.tup r.d) false)) (some (.val (.int k) true)) x7' x8',lE s o qs (A++o8 s o (aW 0 qs) (aW 0 qs q.1) pt ((k:Int) % s) ((k:Int) / s) r) pt q (some (.val (.tup r.d) false)) (some (.val (.int k) true)) (some (.val (.tup [.int ((k:Int) % s),.int ((k:Int) / s)]) true)) y8,rfl,?_,_,_,_,by rw[mM,<- List.append_assoc,hA]⟩
    unfold lE at lp1 ⊢
    simp_arith[cF,hpf,hI,h3,s2,hrf,hmo,hmf,lp1]
    rfl)
 exact⟨x6',x7',x8',lp⟩
noncomputable def d7 (s o:Int)(fo:Str->Int)(first:Int):Int->List Rw->List D
 |_,[]=>[]
 |pt,r::rs=>vf s o fo first pt r++d7 s o fo first (pt+1) rs
theorem gX (h2:o<=4)(h4:s<=4)(fo:Str->Int)(first:Int):∀(rs:List Rw)(pt:Int),(d7 s o fo first pt rs).length<=64*rs.length
 | [],_=>by simp[d7]
 |r::rs,pt=>by
  have h:=gX h2 h4 fo first rs (pt+1)
  have hr:=mO h2 h4 fo first pt r
  unfold d7
  rw[List.length_append,List.length_cons,Nat.mul_succ]
  omega
theorem qB (h1:0<o)(h2:o<=4)(h3:0<s)(h4:s<=4)(q:Pq):∀(rs:List Rw)(pt:Int)(acc:List D)(x5 x6 x7 x8:Option Sl),acc.length+64*rs.length<=800000->∃ x5' x6' x7' x8':Option Sl,
 bP (gN 5) false cG (rs.map fun r=>D.tup r.d) (lE s o qs acc pt q x5 x6 x7 x8)=.ok (.nx (lE s o qs (acc++d7 s o (aW 0 qs) (aW 0 qs q.1) pt rs) (pt+rs.length) q x5' x6' x7' x8'))
 | [],pt,acc,x5,x6,x7,x8,_=>⟨x5,x6,x7,x8,by simp[d7,bP]⟩
 |r::rs,pt,acc,x5,x6,x7,x8,hl=>by
  rw[List.length_cons,Nat.mul_succ]at hl
  have hrl:=vg h1 h2 h3 h4 (aW 0 qs) (aW 0 qs q.1) pt r
  obtain⟨y6,y7,y8,lp⟩:=xn (qs:=qs) h1 h2 h3 h4 q r pt acc (by omega) x6 x7 x8
  obtain⟨x5',x6',x7',x8',ih⟩:=qB h1 h2 h3 h4 q rs (pt+1) (acc++so s o (aW 0 qs) (aW 0 qs q.1) pt r) (some (.val (.tup r.d) false)) y6 y7 y8 (by rw[List.length_append];omega)
  refine⟨x5',x6',x7',x8',?_⟩
  have hpf:=b_ s o qs
  have k1:-18446744073709551616<o:=by omega
  have k2:o<18446744073709551616:=by omega
  have hso:s*o<=16:=by
   have:s*o<=4*4:=Int.mul_le_mul h4 h2 (by omega) (by omega)
   omega
  have hs0:0<=s*o:=Int.mul_nonneg (by omega) (by omega)
  have c1:-4611686018427387904<=s*o:=by omega
  have c2:s*o<4611686018427387904:=by omega
  have st:cG (lE s o qs acc pt q (some (.val (.tup r.d) false)) x6 x7 x8)=.ok (.nx (lE s o qs (acc++so s o (aW 0 qs) (aW 0 qs q.1) pt r) (pt+1) q (some (.val (.tup r.d) false)) y6 y7 y8)):=by
   unfold lE at lp ⊢
   simp_arith[cG,hpf,hI,k1,k2]
   rw[lR c1 c2,nM,fF]
   simp_arith[lp]
  rw[List.map_cons,fV (env1:=lE s o qs acc pt q (some (.val (.tup r.d) false)) x6 x7 x8) rfl st,ih]
  rw[qz h1 h3,List.append_assoc,List.length_cons,show pt+1+(rs.length:Int)=pt+((rs.length+1:Nat):Int) by omega]
  rfl
noncomputable def ie (s o:Int)(fo:Str->Int):Int->List Pq->List D
 |_,[]=>[]
 |f,q::qs=>d7 s o fo (fo q.1) f q.2++ie s o fo (f+q.2.length) qs
noncomputable def iS:List Pq->Nat
 | []=>0
 |q::qs=>q.2.length+iS qs
theorem oa (h2:o<=4)(h4:s<=4)(fo:Str->Int):∀(ps:List Pq)(f:Int),(ie s o fo f ps).length<=64*iS ps
 | [],_=>by simp[ie]
 |q::ps,f=>by
  have h:=oa h2 h4 fo ps (f+q.2.length)
  have hr:=gX h2 h4 fo (fo q.1) q.2 f
  unfold ie iS
  rw[List.length_append]
  omega
theorem qC (h1:0<o)(h2:o<=4)(h3:0<s)(h4:s<=4):∀(ps:List Pq)(pt:Int)(acc:List D)(x3 x4 x5 x6 x7 x8:Option Sl),acc.length+64*iS ps<=800000->∃(pt':Int)(x3' x4' x5' x6' x7' x8':Option Sl),
 bP (dz 3 4) false cH (ps.map qD) [some (.val (pq s o qs) false),some (.own acc true),some (.val (.int pt) true),x3,x4,x5,x6,x7,x8]=.ok (.nx [some (.val (pq s o qs) false),some (.own (acc++ie s o (aW 0 qs) pt ps) true),some (.val (.int pt') true),x3',x4',x5',x6',x7',x8'])
 | [],pt,acc,x3,x4,x5,x6,x7,x8,_=>⟨pt,x3,x4,x5,x6,x7,x8,by simp[ie,bP]⟩
 |q::ps,pt,acc,x3,x4,x5,x6,x7,x8,hl=>by
  unfold iS at hl
  have hr:=gX h2 h4 (aW 0 qs) (aW 0 qs q.1) q.2 pt
  obtain⟨y5,y6,y7,y8,lp⟩:=qB (qs:=qs) h1 h2 h3 h4 q q.2 pt acc x5 x6 x7 x8 (by omega)
  obtain⟨pt',x3',x4',x5',x6',x7',x8',ih⟩:=qC h1 h2 h3 h4 ps (pt+q.2.length) (acc++d7 s o (aW 0 qs) (aW 0 qs q.1) pt q.2) (some (.val (.str q.1) false)) (some (.val (.lst (q.2.map fun r=>.tup r.d)) false)) y5 y6 y7 y8 (by rw[List.length_append];omega)
  refine⟨pt',x3',x4',x5',x6',x7',x8',?_⟩
  have st:cH (lE s o qs acc pt q x5 x6 x7 x8)=.ok (.nx (lE s o qs (acc++d7 s o (aW 0 qs) (aW 0 qs q.1) pt q.2) (pt+q.2.length) q y5 y6 y7 y8)):=by
   unfold lE at lp ⊢
   simp_arith[cH,lp]
  rw[List.map_cons,fV (env1:=lE s o qs acc pt q x5 x6 x7 x8) rfl st]
  unfold lE
  rw[ih,List.append_assoc]
  rfl
theorem sq (h1:0<o)(h2:o<=4)(h3:0<s)(h4:s<=4)(ht:iS qs<=2000):dy [pq s o qs]=.ok (.val (.lst (ie s o (aW 0 qs) 0 qs)) true [1]):=by
 obtain⟨pt',x3',x4',x5',x6',x7',x8',lp⟩:=qC (qs:=qs) h1 h2 h3 h4 qs 0 [] none none none none none none (by simp;omega)
 have hpf:=b_ s o qs
 rw[List.nil_append]at lp
 unfold dz at lp
 simp_arith[dy,iL,hpf,hI,bY]
 simp_arith[lp]
end
end W
namespace W
open PySem L2 L3
section
variable {s o:Int}{qs:List Pq}
theorem AC {i:Nat}{a:En->Res R}{env:En}{ds:List D}{fr:Bool}(h:ff env i=some (ds,fr)):nJ i a env=(a env).bind (pT i env ds fr):=by unfold nJ;rw[h]
theorem xo {i:Nat}{env:En}{ds es:List D}{fr:Bool}(h:ds.length+es.length<=1000000)(h2:D.flats es=true):pT i env ds fr (.fre (.lst es))=.ok (.nx (env.set i (some (.own (ds++es) fr)))):=if_pos ⟨h,h2⟩
theorem qE {ns:List Int}{f:Bool}(hs:gx ns=true):t7 [.new (ns.map .int) f]=.ok (.val (.int ns.sum) true []):=by
 show(match js (ns.map .int) with|some ns=>if gx ns then Res.ok (R.val (.int ns.sum) true []) else .stuck|none=>.stuck)=_
 rw[lS];exact if_pos hs
theorem AD (fo:Str->Int)(first pt sh ow:Int)(r:Rw):∀ m∈mv s o fo first pt sh ow r,m.2.length<=2:=by
 intro m hm
 cases r with
 |set w n=>cases w<;>(simp[mv,vm]at hm;subst hm;simp)
 |turn w=>cases w<;>(simp[mv,vm]at hm;subst hm;simp)
 |any w=>cases w<;>(simp[mv,vm]at hm;obtain⟨a,_,rfl⟩:=hm;simp)
 |stop=>cases hm
 |fork k=>simp[mv]at hm;rcases hm with rfl|rfl<;>simp
 |_=>simp[mv]at hm;subst hm;simp
theorem xp (fo:Str->Int)(first pt sh ow:Int)(r:Rw):∀ d∈o8 s o fo first pt sh ow r,∃(a b:Int)(m:Int×List Int),d=jD a b m/\m.2.length<=2:=fun d hd=>by
 obtain⟨m,hm,rfl⟩:=List.mem_map.mp hd
 exact⟨_,_,m,rfl,AD fo first pt sh ow r m hm⟩
theorem qF (fo:Str->Int)(first pt:Int)(r:Rw):∀ d∈vf s o fo first pt r,∃(a b:Int)(m:Int×List Int),d=jD a b m/\m.2.length<=2:=fun d hd=>by
 obtain⟨x,_,hx⟩:=List.mem_flatMap.mp hd
 obtain⟨y,_,hy⟩:=List.mem_flatMap.mp hx
 exact xp fo first pt _ _ r d hy
theorem l5 (fo:Str->Int)(first:Int):∀(rs:List Rw)(pt:Int),∀ d∈d7 s o fo first pt rs,∃(a b:Int)(m:Int×List Int),d=jD a b m/\m.2.length<=2
 | [],_,d,hd=>by cases hd
 |r::rs,pt,d,hd=>by
  unfold d7 at hd
  rcases List.mem_append.mp hd with h|h
  ·exact qF fo first pt r d h
  ·exact l5 fo first rs (pt+1) d h
theorem oe (fo:Str->Int):∀(ps:List Pq)(f:Int),∀ d∈ie s o fo f ps,∃(a b:Int)(m:Int×List Int),d=jD a b m/\m.2.length<=2
 | [],_,d,hd=>by cases hd
 |q::ps,f,d,hd=>by
  unfold ie at hd
  rcases List.mem_append.mp hd with h|h
  ·exact l5 fo _ q.2 f d h
  ·exact oe fo ps _ d h
theorem sr (fo:Str->Int)(first pt:Int)(r:Rw):D.flats (vf s o fo first pt r)=true:=cZ fun d hd=>by obtain⟨a,b,m,rfl,_⟩:=qF fo first pt r d hd;exact kT a b m
noncomputable abbrev hE (s o:Int)(qs:List Pq)(acc:List D)(q:Pq)(x5 x6 x7:Option Sl):En:=[some (.val (pq s o qs) false),some (.val (jL qs) true),some (.own acc true),some (.val (.str q.1) false),some (.val (.lst (q.2.map fun r=>.tup r.d)) false),x5,x6,x7]
theorem qG (h1:0<o)(h2:o<=4)(h3:0<s)(h4:s<=4)(q:Pq)(hq:q.1∈qs.map (·.1))(x7:Option Sl):∀(rs:List Rw)(n:Nat)(acc:List D)(x5 x6:Option Sl),(∀ r∈rs,nW (qs.map (·.1)) r)->acc.length+64*rs.length<=800000->∃ x5' x6':Option Sl,
 bP (dz 5 6) false dt (cq n (rs.map fun r=>D.tup r.d)) (hE s o qs acc q x5 x6 x7)=.ok (.nx (hE s o qs (acc++d7 s o (aW 0 qs) (aW 0 qs q.1) (aW 0 qs q.1+n) rs) q x5' x6' x7))
 | [],n,acc,x5,x6,_,_=>⟨x5,x6,by simp[d7,bP,cq]⟩
 |r::rs,n,acc,x5,x6,hr,hl=>by
  rw[List.length_cons,Nat.mul_succ]at hl
  have hol:=mO h2 h4 (aW 0 qs) (aW 0 qs q.1) (aW 0 qs q.1+n) r
  have hra:=n9 (qs:=qs) h1 h2 h3 h4 r (hr r (by simp)) (aW 0 qs q.1) n
  have hpf:=b_ s o qs
  have hff:(jL qs).flat=false:=rfl
  have hrf:(D.tup r.d).flat=true:=(eV r).flats
  have hg:=fun(f0 g:Bool)(al bl:List Nat)=>xV (qs:=qs) (n:=q.1) (f:=f0) (g:=g) (al:=al) (bl:=bl) hq
  have hof:=sr (s:=s) (o:=o) (aW 0 qs) (aW 0 qs q.1) (aW 0 qs q.1+n) r
  obtain⟨x5',x6',ih⟩:=qG h1 h2 h3 h4 q hq x7 rs (n+1) (acc++vf s o (aW 0 qs) (aW 0 qs q.1) (aW 0 qs q.1+n) r) (some (.val (.int n) false)) (some (.val (.tup r.d) false)) (fun x hx=>hr x (by simp[hx])) (by rw[List.length_append];omega)
  refine⟨x5',x6',?_⟩
  have hx:acc.length+(vf s o (aW 0 qs) (aW 0 qs q.1) (aW 0 qs q.1+n) r).length<=1000000:=by omega
  have hlf:∀ l:List D,(D.lst l).flat=false:=fun _=>rfl
  have st:dt (hE s o qs acc q (some (.val (.int n) false)) (some (.val (.tup r.d) false)) x7)=.ok (.nx (hE s o qs (acc++vf s o (aW 0 qs) (aW 0 qs q.1) (aW 0 qs q.1+n) r) q (some (.val (.int n) false)) (some (.val (.tup r.d) false)) x7)):=by
   unfold dt
   rw[AC (ds:=acc) (fr:=true) rfl]
   unfold hE
   simp_arith[hpf,hff,hrf,hg,hra]
   rw[xo hx hof]
   rfl
  rw[List.map_cons]
  unfold cq
  rw[fV (env1:=hE s o qs acc q (some (.val (.int n) false)) (some (.val (.tup r.d) false)) x7) rfl st,ih,List.append_assoc]
  rw[show aW 0 qs q.1+((n+1:Nat):Int)=aW 0 qs q.1+n+1 by omega]
  rfl
theorem qH (h1:0<o)(h2:o<=4)(h3:0<s)(h4:s<=4)(x7:Option Sl):∀(ps:List Pq)(f:Int)(acc:List D)(x3 x4 x5 x6:Option Sl),(∀ q∈ps,q.1∈qs.map (·.1)/\∀ r∈q.2,nW (qs.map (·.1)) r)->(ps.map (·.1)).Nodup->(∀ n∈ps.map (·.1),aW 0 qs n=aW f ps n)->acc.length+64*iS ps<=800000->∃ x3' x4' x5' x6':Option Sl,
 bP (dz 3 4) false dv (ps.map qD) [some (.val (pq s o qs) false),some (.val (jL qs) true),some (.own acc true),x3,x4,x5,x6,x7]=.ok (.nx [some (.val (pq s o qs) false),some (.val (jL qs) true),some (.own (acc++ie s o (aW 0 qs) f ps) true),x3',x4',x5',x6',x7])
 | [],f,acc,x3,x4,x5,x6,_,_,_,_=>⟨x3,x4,x5,x6,by simp[ie,bP]⟩
 |q::ps,f,acc,x3,x4,x5,x6,hq,nd,hf,hl=>by
  unfold iS at hl
  rw[List.map_cons,List.nodup_cons]at nd
  have hfq:aW 0 qs q.1=f:=by rw[hf q.1 (by simp),mJ]
  have hr:=gX h2 h4 (aW 0 qs) (aW 0 qs q.1) q.2 f
  obtain⟨y5,y6,lp⟩:=qG (qs:=qs) h1 h2 h3 h4 q (hq q (by simp)).1 x7 q.2 0 acc x5 x6 (hq q (by simp)).2 (by omega)
  obtain⟨x3',x4',x5',x6',ih⟩:=qH h1 h2 h3 h4 x7 ps (f+q.2.length) (acc++d7 s o (aW 0 qs) (aW 0 qs q.1) f q.2) (some (.val (.str q.1) false)) (some (.val (.lst (q.2.map fun r=>.tup r.d)) false)) y5 y6 (fun x hx=>hq x (by simp[hx])) nd.2
   (fun n hn=>by rw[hf n (by simp at hn ⊢;exact .inr hn),mK fun z=>nd.1 (z▸hn)]) (by rw[List.length_append];omega)
  refine⟨x3',x4',x5',x6',?_⟩
  have e0:aW 0 qs q.1+((0:Nat):Int)=f:=by rw[hfq];simp
  rw[e0]at lp
  have st:dv (hE s o qs acc q x5 x6 x7)=.ok (.nx (hE s o qs (acc++d7 s o (aW 0 qs) (aW 0 qs q.1) f q.2) q y5 y6 x7)):=by
   unfold hE dz at lp
   unfold hE
   simp_arith[dv,lp]
  rw[List.map_cons,fV (env1:=hE s o qs acc q x5 x6 x7) rfl st]
  unfold hE
  rw[ih,List.append_assoc]
  rfl
theorem mP:∀ ps:List Pq,(ps.map fun q=>(q.2.length:Int)).sum=iS ps
 | []=>rfl
 |q::ps=>by
  rw[List.map_cons,List.sum_cons,mP ps,show iS (q::ps)=q.2.length+iS ps from rfl]
  omega
theorem kW (hq:qs.length<=4)(h:∀ q∈qs,q.2.length<=400):gx (qs.map fun q=>(q.2.length:Int))=true:=by
 unfold gx
 simp only[Bool.and_eq_true,List.all_eq_true,decide_eq_true_eq]
 refine⟨fun n hn=>?_,by rw[List.length_map];unfold lim;omega⟩
 obtain⟨q,hq,rfl⟩:=List.mem_map.mp hn
 have:=h q hq
 omega
theorem vh (h1:0<o)(h2:o<=4)(h3:0<s)(h4:s<=4)(hq4:qs.length<=4)(hq:∀ q∈qs,DE (qs.map (·.1)) q)(nd:(qs.map (·.1)).Nodup)(ht:iS qs<=2000) :
 fS [pq s o qs]=.ok (.val (.tup [.int s,.int (iS qs*o+0),.lst (ie s o (aW 0 qs) 0 qs)]) true [2]):=by
 have hfi:=sf (s:=s) (o:=o) (fun q h=>(hq q h).2.1) hq4 nd
 have hpf:=b_ s o qs
 have hff:(jL qs).flat=false:=rfl
 have hsg:=fun p w=>jR (s:=s) (qs:=qs) h1 h2 p w
 obtain⟨x3,x4,x5,x6,lp⟩:=qH (qs:=qs) h1 h2 h3 h4 none qs 0 [] none none none none (fun q h=>⟨List.mem_map_of_mem h,(hq q h).2.2.2⟩) nd (fun _ _=>rfl) (by simp;omega)
 rw[List.nil_append]at lp
 have hc:=a_ (mk:=fun d=>(dz 0 1) d false (cI [some (.val (pq s o qs) false),some (.val (jL qs) true),some (.own (ie s o (aW 0 qs) 0 qs) true),x3,x4,x5,x6,none] 2 [])) (test:=fun _=>.ok true) (elt:=fR) (fun q:Pq=>qD q) (fun q=>.val (.int q.2.length) true []) qs
  fun q hq=>⟨[some (.val (.str q.1) false),some (.val (.lst (q.2.map fun r=>D.tup r.d)) false)],rfl,rfl,by simp_arith[fR,gO]⟩
 have hls:=kW hq4 fun q h=>(hq q h).2.2.1
 have em:(qs.map fun q=>D.int q.2.length)=(qs.map fun q=>(q.2.length:Int)).map D.int:=by rw[List.map_map];rfl
 unfold dz at hc lp
 simp_arith[fS,kF,hpf,hfi,ja,hff,hI,bY]
 simp_arith[lp,hpf,hI]
 rw[bK (by rw[List.length_map];omega) hc,dH (fun q:Pq=>D.int q.2.length),bA (aU _ _ fun _=>rfl),em]
 simp_arith[qE hls,mP,hpf,hI,hsg]
end
end W
namespace W
open PySem L2 L3
noncomputable def lets:List Nat:=("bcdefghjklopqrstuvwxyz" : Str).cps.toList
noncomputable def mainL:List Nat:=("main" : Str).cps.toList
theorem gP:lets.length=22:=by decide
theorem o_:lets.Nodup:=by decide
theorem ss:∀ x∈lets,x∉mainL:=by decide
theorem AE (c st:Int)(i j:Nat)(hi:i<3)(hj:j<3)(hij:i≠j)(h1:1<=st)(h2:st<=7):(c+i*st) % 22≠(c+j*st) % 22:=by
 have hi:i=0\/i=1\/i=2:=by omega
 have hj:j=0\/j=1\/j=2:=by omega
 rcases hi with rfl|rfl|rfl<;>rcases hj with rfl|rfl|rfl<;>first|exact(hij rfl).elim|(simp;omega)
noncomputable def mU (c:Int)(k:Nat):Nat:=lets.getD ((c+k*(1+c / 22 % 7)) % 22).toNat 0
theorem xq (c:Int)(k:Nat):mU c k∈lets:=by
 unfold mU
 have h:((c+k*(1+c / 22 % 7)) % 22).toNat<lets.length:=by rw[gP];omega
 rw[List.getD_eq_getElem?_getD,List.getElem?_eq_getElem h]
 exact List.getElem_mem h
theorem AF (c:Int)(i j:Nat)(hi:i<3)(hj:j<3)(hij:i≠j):mU c i≠mU c j:=by
 intro e
 have h:=AE c (1+c / 22 % 7) i j hi hj hij (by omega) (by omega)
 unfold mU at e
 have h1:((c+i*(1+c / 22 % 7)) % 22).toNat<lets.length:=by rw[gP];omega
 have h2:((c+j*(1+c / 22 % 7)) % 22).toNat<lets.length:=by rw[gP];omega
 rw[List.getD_eq_getElem?_getD,List.getElem?_eq_getElem h1,List.getD_eq_getElem?_getD,List.getElem?_eq_getElem h2]at e
 have:=(List.getElem?_inj (i:=((c+i*(1+c / 22 % 7)) % 22).toNat) (j:=((c+j*(1+c / 22 % 7)) % 22).toNat) h1 o_).mp (by rw[List.getElem?_eq_getElem h1,List.getElem?_eq_getElem h2];exact congrArg some e)
 generalize (c+i*(1+c / 22 % 7))=x at *
 generalize (c+j*(1+c / 22 % 7))=y at *
 omega
noncomputable def mV (lot:Int)(bl:List Nat)(sp:Nat)(c:Int)(k:Nat):List Nat:=if lot=3 then mainL.take (1+k) else if lot=2 then mainL++[mU c k] else bl.take sp++[mU c k]++bl.drop (sp+1)
theorem pd {bl:List Nat}{sp:Nat}{x:Nat}(h:sp<bl.length):(bl.take sp++[x]++bl.drop (sp+1))[sp]?=some x:=by
 have hl:(bl.take sp).length=sp:=by rw[List.length_take];omega
 rw[List.append_assoc,List.getElem?_append_right (by omega),hl]
 simp
theorem vi (lot:Int)(bl:List Nat)(sp:Nat)(c:Int)(k:Nat)(h:sp<bl.length)(hk:k<3):mV lot bl sp c k≠mainL:=by
 unfold mV
 have h4:mainL.length=4:=by decide
 split
 ·intro e;have:=congrArg List.length e;rw[List.length_take]at this;omega
 ·split
  ·intro e;have:=congrArg List.length e;simp at this
  ·intro e
   have:=pd (x:=mU c k) h
   rw[e]at this
   exact ss _ (xq c k) (List.mem_of_getElem? this)
theorem AG (lot:Int)(bl:List Nat)(sp:Nat)(c:Int)(i j:Nat)(h:sp<bl.length)(hi:i<3)(hj:j<3)(hij:i≠j):mV lot bl sp c i≠mV lot bl sp c j:=by
 unfold mV
 have h4:mainL.length=4:=by decide
 have hs:=AF c i j hi hj hij
 split
 ·intro e;have:=congrArg List.length e;rw[List.length_take,List.length_take]at this;omega
 ·split
  ·intro e;exact hs (by simpa using e)
  ·intro e
   have e1:=pd (x:=mU c i) h
   have e2:=pd (x:=mU c j) h
   rw[e,e2]at e1
   exact hs (Option.some.inj e1).symm
end W
namespace W
open PySem L2 L3
noncomputable abbrev T (l:List Nat):Str:=⟨l.toArray⟩
theorem qI (l:List Nat):(T l).length=l.length:=by show l.toArray.size=_;simp
theorem Ct (a b:List Nat):T a++T b=T (a++b):=by
 show(⟨a.toArray++b.toArray⟩ : Str)=⟨(a++b).toArray⟩
 simp
theorem Cu (s:Str):s=T s.cps.toList:=by cases s;rfl
theorem xZ {a b:List Nat}(h:T a=T b):a=b:=by
 have h2:(T a).cps.toList=(T b).cps.toList:=by rw[h]
 exact h2
theorem AH {x y:Str}{f g:Bool}{al bl:List Nat}(h:x.length+y.length<=1000000):ba (.val (.str x) f al) (.val (.str y) g bl)=.ok (.val (.str (x++y)) true []):=if_pos h
theorem eG {a b:List Nat}{f g:Bool}{al bl:List Nat}(h:a.length+b.length<=1000000):ba (.val (.str (T a)) f al) (.val (.str (T b)) g bl)=.ok (.val (.str (T (a++b))) true []):=by
 rw[AH (by rw[qI,qI];exact h),Ct]
theorem qJ {z:Str}{k:Int}{f:Bool}{al:List Nat}{c:Nat}(h:z.length<=1000000)(h2:atI z.cps.toList k=some c):oQ (.str z) (.int k) f al=.ok (.val (.str (T [c])) true []):=by
 show(if z.length<=lim then (match atI z.cps.toList k with
  |some c=>(Res.ok (.val (.str ⟨#[c]⟩) true []):Res R)
  |none=>.stuck) else .stuck)=_
 rw[if_pos (show z.length<=lim from h),h2]
theorem x0 (bl:List Nat)(k:Nat)(h:k<=bl.length):Txt.slice (T bl) none (some (k:Int))=T (bl.take k):=by
 have:=StrLaws.sliceText_to (x:=T bl) (j:=(k:Int)) ⟨by omega,by show(k:Int)<=bl.toArray.toList.length;simp;omega⟩
 refine(Eq.trans ?_ this).trans ?_
 ·rfl
 ·show(⟨((bl.toArray.toList.drop 0).take ((k:Int)-0).toNat).toArray⟩ : Str)=_
  simp
theorem xr (bl:List Nat)(k:Nat)(h:k<=bl.length):Txt.slice (T bl) (some (k:Int)) none=T (bl.drop k):=by
 have:=StrLaws.sliceText_from (x:=T bl) (i:=(k:Int)) ⟨by omega,by show(k:Int)<=bl.toArray.toList.length;simp;omega⟩
 refine(Eq.trans ?_ this).trans ?_
 ·rfl
 ·show(⟨((bl.toArray.toList.drop (k:Int).toNat).take ((bl.toArray.toList.length:Int)-k).toNat).toArray⟩ : Str)=_
  have e:((bl.length:Int)-k).toNat=(bl.drop k).length:=by rw[List.length_drop];omega
  rw[show(bl.toArray.toList.length:Int)=bl.length by simp,show((k:Int).toNat)=k by omega,e,List.toList_toArray,List.take_length]
theorem su (ns:List D)(k:Nat):eL ns none (some ((k:Nat):Int))=ns.take k:=by
 unfold eL
 have h1:HT.sIx ns.length ns.length (some ((k:Nat):Int))=min k ns.length:=HT.sIx_nat ns.length ns.length k
 have h2:HT.sIx ns.length 0 none=0:=rfl
 rw[h1,h2,List.drop_zero,Nat.sub_zero,List.take_eq_take_iff];omega
theorem sw (ns:List D)(k:Nat):eL ns (some ((k:Nat):Int)) none=ns.drop k:=by
 unfold eL
 have h1:HT.sIx ns.length 0 (some ((k:Nat):Int))=min k ns.length:=HT.sIx_nat ns.length 0 k
 have h2:HT.sIx ns.length ns.length none=ns.length:=rfl
 rw[h1,h2]
 by_cases h:k<=ns.length
 ·rw[Nat.min_eq_left h,List.take_of_length_le (by rw[List.length_drop];omega)]
 ·rw[Nat.min_eq_right (by omega),List.drop_of_length_le (Nat.le_refl _),List.drop_of_length_le (by omega),List.take_nil]
noncomputable def abc:List Nat:=("abcdefghijklmnopqrstuvwxyz" : Str).cps.toList
theorem AI {k:Int} (h0:0<=k) (h:k<26):∃ a,atI ("abcdefghijklmnopqrstuvwxyz" : Str).cps.toList k=some a:=by
 have hl:abc.length=26:=by decide
 obtain⟨a,ea,_⟩:=mB (xs:=abc) h0 (by omega)
 exact⟨a,ea⟩
theorem xt:("abcdefghijklmnopqrstuvwxyz" : Str).length<=1000000:=by decide
theorem ji:("bcdefghjklopqrstuvwxyz" : Str).length<=1000000:=by decide
theorem mQ (c:Int) (k:Nat):atI ("bcdefghjklopqrstuvwxyz" : Str).cps.toList ((c+k*(1+c / 22 % 7)) % 22)=some (mU c k):=by
 have h:((c+k*(1+c / 22 % 7)) % 22).toNat<lets.length:=by rw[gP];omega
 obtain⟨a,ea,eb⟩:=mB (xs:=lets) (k:=(c+k*(1+c / 22 % 7)) % 22) (by omega) (by rw[gP];omega)
 unfold mU
 rw[List.getD_eq_getElem?_getD,eb]
 exact ea
theorem pf:("main" : Str)=T mainL:=Cu _
theorem sx (c sz:Int){n:Nat}(hn:n<=8){e1 e4:Option Sl}:∃(bl:List Nat)(x:Option Sl),bl.length=n/\
 bP (gN 4) true cz ((List.range n).map fun k=>D.int (k:Nat)) [some (.val (.int c) false),e1,some (.val (.int sz) true),some (.val (.str "") true),e4,none,none,none,none,none]
  = .ok (.nx [some (.val (.int c) false),e1,some (.val (.int sz) true),some (.val (.str (T bl)) true),x,none,none,none,none,none]):=by
 obtain⟨bf,lp,bl,x,rfl,hb⟩:=dl (fun k:Nat=>D.int k) (asg:=gN 4) (fr:=true) (body:=cz) (List.range n) (fun pre env=>∃(bl:List Nat)(x:Option Sl),env=[some (.val (.int c) false),e1,some (.val (.int sz) true),some (.val (.str (T bl)) true),x,none,none,none,none,none]/\bl.length=pre.length) (List.range n) []
  [some (.val (.int c) false),e1,some (.val (.int sz) true),some (.val (.str "") true),e4,none,none,none,none,none] rfl ⟨[],_,by rw[Cu ""];rfl,rfl⟩
  (by
    rintro pre post k env ea ⟨bl,x,rfl,hb⟩
    have hl:pre.length+post.length+1=n:=by have:=congrArg List.length ea;simp at this;omega
    have hk:k<n:=by
     have:k∈List.range n:=by rw[ea];simp
     exact List.mem_range.mp this
    generalize hz:((k:Nat):Int)=z
    have k1:-18446744073709551616<z:=by omega
    have k2:z<18446744073709551616:=by omega
    obtain⟨a,ha⟩:=AI (f_ (c+5*z*z) 1093 26 (by decide)) (ga (c+5*z*z) 1093 26 (by decide))
    have bX:bl.length+[a].length<=1000000:=by simp;omega
    refine⟨[some (.val (.int c) false),e1,some (.val (.int sz) true),some (.val (.str (T bl)) true),some (.val (.int z) true),none,none,none,none,none],[some (.val (.int c) false),e1,some (.val (.int sz) true),some (.val (.str (T (bl++[a]))) true),some (.val (.int z) true),none,none,none,none,none],rfl,?_,bl++[a],_,rfl,by simp[hb]⟩
    simp_arith[cz,k1,k2,aZ (c+5*z*z) 1093 26 (by decide) (by decide),qJ xt ha,eG bX])
 exact⟨bl,x,by rw[hb];simp,lp⟩
theorem vj (c sz lot:Int){bl:List Nat}{sp m:Nat}(hs:sp<bl.length)(hb:bl.length<=8)(hm:m<=3){e4:Option Sl}:∃(x y z:Option Sl),
 bP (gN 4) true bH ((List.range m).map fun k=>D.int (k:Nat)) [some (.val (.int c) false),some (.own [] true),some (.val (.int sz) true),some (.val (.str (T bl)) true),e4,some (.val (.int (sp:Nat)) true),some (.val (.int lot) true),none,none,none]
  = .ok (.nx [some (.val (.int c) false),some (.own ((List.range m).map fun k=>D.str (T (mV lot bl sp c k))) true),some (.val (.int sz) true),some (.val (.str (T bl)) true),x,some (.val (.int (sp:Nat)) true),some (.val (.int lot) true),y,z,none]):=by
 obtain⟨bf,lp,x,y,z,rfl⟩:=dl (fun k:Nat=>D.int k) (asg:=gN 4) (fr:=true) (body:=bH) (List.range m) (fun pre env=>∃(x y z:Option Sl),env=[some (.val (.int c) false),some (.own (pre.map fun k=>D.str (T (mV lot bl sp c k))) true),some (.val (.int sz) true),some (.val (.str (T bl)) true),x,some (.val (.int (sp:Nat)) true),some (.val (.int lot) true),y,z,none]) (List.range m) []
  [some (.val (.int c) false),some (.own [] true),some (.val (.int sz) true),some (.val (.str (T bl)) true),e4,some (.val (.int (sp:Nat)) true),some (.val (.int lot) true),none,none,none] rfl ⟨_,_,_,rfl⟩
  (by
    rintro pre post k env ea ⟨x,y,z,rfl⟩
    have hl:pre.length+post.length+1=m:=by have:=congrArg List.length ea;simp at this;omega
    have hk:k<m:=by
     have:k∈List.range m:=by rw[ea];simp
     exact List.mem_range.mp this
    have k1:-18446744073709551616<(1+c / 22 % 7):=by omega
    have k2:(1+c / 22 % 7)<18446744073709551616:=by omega
    have hT:(T bl).length<=1000000:=by rw[qI];omega
    have hM:("main" : Str).length<=1000000:=by decide
    have a1:(bl.take sp).length+[mU c k].length<=1000000:=by simp;omega
    have a2:(bl.take sp++[mU c k]).length+(bl.drop (sp+1)).length<=1000000:=by simp;omega
    have a3:mainL.length+[mU c k].length<=1000000:=by
     have:mainL.length=4:=by decide
     simp;omega
    have s1:=x0 bl sp (by omega)
    have s2:Txt.slice (T bl) (some ((sp:Int)+1)) none=T (bl.drop (sp+1)):=xr bl (sp+1) (by omega)
    have s3:Txt.slice ("main" : Str) none (some (1+(k:Int)))=T (mainL.take (1+k)):=by
     have h4:mainL.length=4:=by decide
     rw[pf,show(1+(k:Int))=((1+k:Nat):Int) by omega];exact x0 mainL (1+k) (by omega)
    have hp:(pre.map fun k=>D.str (T (mV lot bl sp c k))).length<1000000:=by rw[List.length_map];omega
    refine⟨[some (.val (.int c) false),some (.own (pre.map fun k=>D.str (T (mV lot bl sp c k))) true),some (.val (.int sz) true),some (.val (.str (T bl)) true),some (.val (.int (k:Nat)) true),some (.val (.int (sp:Nat)) true),some (.val (.int lot) true),y,z,none],[some (.val (.int c) false),some (.own ((pre++[k]).map fun k=>D.str (T (mV lot bl sp c k))) true),some (.val (.int sz) true),some (.val (.str (T bl)) true),some (.val (.int (k:Nat)) true),some (.val (.int (sp:Nat)) true),some (.val (.int lot) true),some (.val (.str (T [mU c k])) true),some (.val (.str (T (mV lot bl sp c k))) true),none],rfl,?_,_,_,_,rfl⟩
    by_cases h3:lot=3
    ·subst h3
     have en:mV 3 bl sp c k=mainL.take (1+k):=if_pos rfl
     simp_arith[bH,k1,k2,qJ ji (mQ c k),hT,hM,s1,s2,s3,eG a1,eG a2,cN,iz,hp,i8,List.map_append,en]
    ·by_cases h2:lot=2
     ·subst h2
      have en:mV 2 bl sp c k=mainL++[mU c k]:=rfl
      simp_arith[bH,k1,k2,qJ ji (mQ c k),hT,hM,s1,s2,s3,pf,eG a1,eG a2,eG a3,cN,iz,hp,i8,List.map_append,en]
     ·have b2:(lot==2)=false:=by simpa using h2
      have b3:(lot==3)=false:=by simpa using h3
      have en:mV lot bl sp c k=bl.take sp++[mU c k]++bl.drop (sp+1):=by unfold mV;rw[if_neg h3,if_neg h2]
      simp_arith[bH,k1,k2,qJ ji (mQ c k),hT,hM,s1,s2,s3,eG a1,eG a2,cN,iz,b2,b3,hp,i8,List.map_append,en])
 exact⟨x,y,z,lp⟩
theorem vk (c:Int):∃ names:List Str,0<names.length/\names.length<=4/\names.Nodup/\(∀ n∈names,n.length<=20)/\("main" : Str)∈names/\dn [.int c]=.ok (.new (names.map D.str) true):=by
 have s0:=f_ c 1063 8 (by decide)
 have s1:=ga c 1063 8 (by decide)
 obtain⟨n,hn⟩ : ∃ n:Nat,1+dg c 1063 8=n:=⟨(1+dg c 1063 8).toNat,by omega⟩
 have hn0:(0:Int)<n:=by omega
 obtain⟨bl,x4,hbl,lp1⟩:=sx c n (n:=n) (by omega) (e1:=some (.own [] true)) (e4:=none)
 have p0:=f_ c 1069 n hn0
 have p1:=ga c 1069 n hn0
 obtain⟨sp,hsp⟩ : ∃ sp:Nat,dg c 1069 n=sp:=⟨(dg c 1069 n).toNat,by omega⟩
 have m0:=f_ c 1061 4 (by decide)
 have m1:=ga c 1061 4 (by decide)
 obtain⟨m,hm⟩ : ∃ m:Nat,dg c 1061 4=m:=⟨(dg c 1061 4).toNat,by omega⟩
 obtain⟨y4,y7,y8,lp2⟩:=vj c n (dg c 1087 4) (bl:=bl) (sp:=sp) (m:=m) (by omega) (by omega) (by omega) (e4:=x4)
 generalize hlot:dg c 1087 4=lot at lp2
 generalize hoth:((List.range m).map fun k=>T (mV lot bl sp c k))=oth at *
 have hod:((List.range m).map fun k=>D.str (T (mV lot bl sp c k)))=oth.map D.str:=by rw[<- hoth,List.map_map];rfl
 have hol:oth.length=m:=by rw[<- hoth];simp
 rw[hod]at lp2
 have hk0:(0:Int)<(m:Int)+1:=by omega
 have q0:=f_ c 1091 ((m:Int)+1) hk0
 have q1:=ga c 1091 ((m:Int)+1) hk0
 obtain⟨k,hk⟩ : ∃ k:Nat,dg c 1091 ((m:Int)+1)=k:=⟨(dg c 1091 ((m:Int)+1)).toNat,by omega⟩
 have ond:oth.Nodup:=by
  rw[<- hoth]
  rw[List.Nodup,List.pairwise_map]
  refine List.Pairwise.imp_of_mem (R:=(·≠ ·)) (fun{i j} hi hj hij e=>?_) (List.nodup_range (n:=m))
  have hi:=List.mem_range.mp hi
  have hj:=List.mem_range.mp hj
  exact AG lot bl sp c i j (by omega) (by omega) (by omega) hij (xZ e)
 have omn:("main" : Str)∉oth:=by
  rw[<- hoth]
  intro h
  obtain⟨i,hi,e⟩:=List.mem_map.mp h
  have hi:=List.mem_range.mp hi
  rw[pf]at e
  exact vi lot bl sp c i (by omega) (by omega) (xZ e)
 have ol:∀ x∈oth,x.length<=20:=by
  rw[<- hoth]
  intro x hx
  obtain⟨i,hi,rfl⟩:=List.mem_map.mp hx
  have h4:mainL.length=4:=by decide
  rw[qI]
  unfold mV
  split
  ·rw[List.length_take];omega
  ·split
   ·rw[List.length_append,h4];simp
   ·simp;omega
 refine⟨oth.take k++("main" : Str)::oth.drop k,by simp;omega,by simp;omega,?_,?_,by simp,?_⟩
 ·have:(oth.take k++("main" : Str)::oth.drop k).Perm (("main" : Str)::oth):=by
   refine List.perm_middle.trans ?_
   rw[List.take_append_drop]
  exact this.nodup_iff.mpr (List.nodup_cons.mpr ⟨omn,ond⟩)
 ·intro x hx
  rcases List.mem_append.mp hx with h|h
  ·exact ol x (List.mem_of_mem_take h)
  ·rcases List.mem_cons.mp h with rfl|h
   ·decide
   ·exact ol x (List.mem_of_mem_drop h)
 ·have k1:-4611686018427387904<=(n:Int):=by omega
  have k2:(n:Int)<4611686018427387904:=by omega
  have k3:-4611686018427387904<=(m:Int):=by omega
  have k4:(m:Int)<4611686018427387904:=by omega
  have hlm:(((oth.map D.str).length:Nat):Int)=m:=by simp[hol]
  simp_arith[dn,iD,aZ c 1063 8 (by decide) (by decide),hn]
  rw[lR k1 k2,nM,Int.toNat_natCast,fF]
  simp_arith[lp1,aZ c 1069 n (by decide) hn0,aZ c 1087 4 (by decide) (by decide),aZ c 1061 4 (by decide) (by decide),hsp,hlot,hm]
  rw[lR k3 k4,nM,Int.toNat_natCast,fF]
  have fl1:D.flats ((oth.map D.str).take k)=true:=cZ fun d hd=>by obtain⟨a,_,rfl⟩:=List.mem_map.mp (List.mem_of_mem_take hd);rfl
  have fl2:D.flats ((oth.map D.str).drop k)=true:=cZ fun d hd=>by obtain⟨a,_,rfl⟩:=List.mem_map.mp (List.mem_of_mem_drop hd);rfl
  have fl3:D.flats ((oth.map D.str).take k++[D.str "main"])=true:=cZ fun d hd=>by
   rcases List.mem_append.mp hd with h|h
   ·obtain⟨a,_,rfl⟩:=List.mem_map.mp (List.mem_of_mem_take h);rfl
   ·rw[List.mem_singleton.mp h];rfl
  have fl4:D.flats ((oth.map D.str).take k++[D.str "main"]++(oth.map D.str).drop k)=true:=cZ fun d hd=>by
   rcases List.mem_append.mp hd with h|h
   ·rcases List.mem_append.mp h with h|h
    ·obtain⟨a,_,rfl⟩:=List.mem_map.mp (List.mem_of_mem_take h);rfl
    ·rw[List.mem_singleton.mp h];rfl
   ·obtain⟨a,_,rfl⟩:=List.mem_map.mp (List.mem_of_mem_drop h);rfl
  have ln1:((oth.map D.str).take k).length+[D.str "main"].length<=1000000:=by simp;omega
  have ln2:((oth.map D.str).take k++[D.str "main"]).length+((oth.map D.str).drop k).length<=1000000:=by simp;omega
  simp_arith[lp2,hlm,aZ c 1091 ((m:Int)+1) (by decide) hk0,hk,su,sw,bA fl1,bA fl2,oP ln1,bA fl3,oP ln2,bA fl4]
  simp
end W
namespace W
open PySem L2 L3
section
variable {s o:Int}{qs:List Pq}
theorem xu (a b:Int)(m:Int×List Int):(jD a b m).dep<=50:=by
 have:=r8 m.2
 unfold jD;simp only[mz,i_,pX,ku];omega
theorem mR (a b:Int)(m:Int×List Int)(hm:m.2.length<=1000):b6 [jD a b m,jD a b m]=.ok (.val (.bl true) true []):=by
 have hd:=xu a b m
 have he:=bM (jD a b m)
 have hc:=a_ (mk:=fun d=>gN 0 d true (cI [some (.val (jD a b m) false),some (.val (jD a b m) false)] 1 [])) (test:=fun _=>.ok true) (elt:=cm) (fun k:Int=>D.int k) (fun _=>.val (.bl true) true []) m.2
  fun k hk=>⟨[some (.val (.int k) true)],rfl,rfl,by simp_arith[cm,cU]⟩
 have h4:bJ (.int 4) (.int 4)=true:=rfl
 have hl:((([D.int a,D.int b,D.int m.1,D.tup (m.2.map .int)]:List D).length:Nat):Int)=4:=rfl
 unfold jD at hd he hc ⊢
 simp_arith[b6,fy,nK,h4,cU,aX]
 rw[bK (by rw[List.length_map];omega) hc,dH (fun _:Int=>D.bl true),bA (aU (fun _:Int=>D.bl true) _ fun _=>rfl)]
 simp_arith[nN,gS,aX]
 rw[cN (a:=.val (.tup [.int a,.int b,.int m.1,.tup (m.2.map .int)]) true []) (b:=.val (.tup [.int a,.int b,.int m.1,.tup (m.2.map .int)]) true []) hd hd]
 simp_arith[he]
theorem lm (h1:0<o)(h2:o<=4)(hq4:qs.length<=4)(hq:∀ q∈qs,q.2.length<=400)(L:List D)(hl:L.length<=900000)(hL:∀ d∈L,∃(a b:Int)(m:Int×List Int),d=jD a b m/\m.2.length<=2) :
 bV [.tup [.int s,.int (iS qs*o+0),.lst L],pq s o qs,.lst L]=.ok (.val (.bl true) true []):=by
 have hpf:=b_ s o qs
 have hc1:=a_ (mk:=fun d=>(dz 0 1) d false (cI [some (.val (.tup [.int s,.int (iS qs*o+0),.lst L]) false),some (.val (pq s o qs) false),some (.val (.lst L) false),none] 2 [])) (test:=fun _=>.ok true) (elt:=ca) (fun q:Pq=>qD q) (fun q=>.val (.int q.2.length) true []) qs
  fun q hq=>⟨[some (.val (.str q.1) false),some (.val (.lst (q.2.map fun r=>D.tup r.d)) false)],rfl,rfl,by simp_arith[ca,gO]⟩
 have hc2:=a_ (mk:=fun d=>(dz 0 1) d false (cI [some (.val (.tup [.int s,.int (iS qs*o+0),.lst L]) false),some (.val (pq s o qs) false),some (.val (.lst L) false),some (.val (.int (iS qs)) true)] 2 [])) (test:=fun _=>.ok true) (elt:=cb) (fun d:D=>D.tup [d,d]) (fun _=>.val (.bl true) true []) L
  fun d hd=>by
   obtain⟨a,b,m,rfl,hm⟩:=hL d hd
   have hfl:=kT a b m
   exact⟨[some (.val (jD a b m) false),some (.val (jD a b m) false)],rfl,rfl,by simp_arith[cb,hfl,mR a b m (by omega)]⟩
 have hls:=kW hq4 hq
 have em:(qs.map fun q=>D.int q.2.length)=(qs.map fun q=>(q.2.length:Int)).map D.int:=by rw[List.map_map];rfl
 have h3:bJ (.int 3) (.int 3)=true:=rfl
 have k1:-18446744073709551616<(iS qs:Int):=by omega
 have htl:∀ ps:List Pq,(∀ q∈ps,q.2.length<=400)->iS ps<=400*ps.length:=fun ps=>by
  induction ps with
  |nil=>intro _;exact Nat.le_refl _
  |cons q ps ih=>
   intro h
   have:=ih fun x hx=>h x (by simp[hx])
   have:=h q (by simp)
   rw[show iS (q::ps)=q.2.length+iS ps from rfl,List.length_cons,Nat.mul_succ]
   omega
 have:=htl qs hq
 have k2:(iS qs:Int)<18446744073709551616:=by omega
 have ez:bJ (.int (iS qs*o+0)) (.int (o*iS qs))=true:=by rw[iz,Int.add_zero,Int.mul_comm];exact beq_self_eq_true _
 have el:bJ (.int (L.length:Nat)) (.int (L.length:Nat))=true:=bM _
 have es:bJ (.int s) (.int s)=true:=bM _
 unfold dz at hc1 hc2
 simp_arith[bV,eB,nK,h3,cU,es,hpf,hI]
 rw[bK (by rw[List.length_map];omega) hc1,dH (fun q:Pq=>D.int q.2.length),bA (aU _ _ fun _=>rfl),em]
 simp_arith[qE hls,mP,hpf,hI,k1,k2,nK,ez,el,iQ]
 rw[bK (by rw[List.length_map];omega) hc2,dH (fun _:D=>D.bl true),bA (aU (fun _:D=>D.bl true) _ fun _=>rfl)]
 simp_arith[nN,gS]
theorem sy (ns:List Int) (hl:ns.length<=63):∃(s o:Int)(qs:List Pq),0<s/\s<=4/\0<o/\o<=4/\qs.length<=4/\(∀ q∈qs,DE (qs.map (·.1)) q)/\(qs.map (·.1)).Nodup/\("main" : Str)∈qs.map (·.1)/\
 c7 [.lst (ns.map .int),.int 140]=.ok (.fre (pq s o qs)):=by
 obtain⟨names,n1,n2,n3,n4,n5,en⟩:=vk (r9 ns 1)
 have v1:=f_ (r9 ns 0) 1033 4 (by decide)
 have v2:=f_ (r9 ns 0) 1039 4 (by decide)
 have v3:=ga (r9 ns 0) 1033 4 (by decide)
 have v4:=ga (r9 ns 0) 1039 4 (by decide)
 have d1:=aZ (r9 ns 0) 1033 4 (by decide) (by decide)
 have d2:=aZ (r9 ns 0) 1039 4 (by decide) (by decide)
 generalize hS:dg (r9 ns 0) 1033 4=sv at v1 v3 d1
 generalize hO:dg (r9 ns 0) 1039 4=ov at v2 v4 d2
 obtain⟨lo,hlo⟩ : ∃ k:Int,(if 140 / ((1+sv)*(1+ov))-4>2 then 140 / ((1+sv)*(1+ov))-4 else 2)=k:=⟨_,rfl⟩
 have hcl:=uW ns (some 2) (some (2+lo))
 obtain⟨ps,r1,r2,ep⟩:=o5 (cs:=eL ns (some 2) (some (2+lo))) (seed:=r9 ns 0) (sv:=1+sv) (ov:=1+ov) n1 n2 n4 (by omega) (by omega) (by omega)
 obtain⟨qs,rfl,q2⟩:=nY ps r2
 have eqn:qs.map (·.1)=names:=by rw[<- r1,List.map_map];rfl
 have hql:qs.length=names.length:=by rw[<- eqn,List.length_map]
 refine⟨1+sv,1+ov,qs,by omega,by omega,by omega,by omega,by omega,by rw[eqn];exact q2,by rw[eqn];exact n3,by rw[eqn];exact n5,?_⟩
 have k1:-18446744073709551616<1+ov:=by omega
 have k2:1+ov<18446744073709551616:=by omega
 have hp0:0<(1+sv)*(1+ov):=Int.mul_pos (by omega) (by omega)
 have hp1:(1+sv)*(1+ov)<1073741824:=by
  have:(1+sv)*(1+ov)<=4*4:=Int.mul_le_mul (by omega) (by omega) (by omega) (by omega)
  omega
 have hnf:D.flats (names.map D.str)=true:=aU _ _ fun _=>rfl
 have hcf:D.flats ((eL ns (some 2) (some (2+lo))).map D.int)=true:=aX _
 have hpf:(vp (1+sv) (1+ov) (qs.map Aw)).flat=false:=b_ _ _ _
 simp_arith[c7,jw,uY ns 0 (by decide),uY ns 1 (by decide),d1,d2,en,hnf,xN,k1,k2,hp0,hp1,hlo,uV,hcf,bY,ep,hpf]
 rfl
theorem AJ (ns:List Int)(hl:ns.length<=63):nQ [.lst (ns.map .int)]=.ok (.val (.bl true) true []):=by
 obtain⟨s,o,qs,h3,h4,h1,h2,hq4,hq,nd,hmn,em⟩:=sy ns hl
 have hpf:=b_ s o qs
 have htl:∀ ps:List Pq,(∀ q∈ps,q.2.length<=400)->iS ps<=400*ps.length:=fun ps=>by
  induction ps with
  |nil=>intro _;exact Nat.le_refl _
  |cons q ps ih=>
   intro h
   have:=ih fun x hx=>h x (by simp[hx])
   have:=h q (by simp)
   rw[show iS (q::ps)=q.2.length+iS ps from rfl,List.length_cons,Nat.mul_succ]
   omega
 have ht:=htl qs fun q h=>(hq q h).2.2.1
 have hh:=vh h1 h2 h3 h4 hq4 hq nd (by omega)
 have hlr:=sq (qs:=qs) h1 h2 h3 h4 (by omega)
 have hal:=oa (s:=s) (o:=o) h2 h4 (aW 0 qs) qs 0
 have hs:=lm (s:=s) (qs:=qs) h1 h2 hq4 (fun q h=>(hq q h).2.2.1) (ie s o (aW 0 qs) 0 qs) (by omega) (oe (aW 0 qs) qs 0)
 generalize hLL:ie s o (aW 0 qs) 0 qs=L at hh hlr hs
 have hp:=u8 (s:=s) (o:=o) (fun q h=>(hq q h).2.1) hmn
 have hsg:=fun p w=>jR (s:=s) (qs:=qs) h1 h2 p w
 have hb:eF [pq s o qs]=.ok (.val (.tup [.int 0,.lst [.int (aW 0 qs "main"*o+0)]]) true []):=by
  simp_arith[eF,jz,hpf,hp,hsg,bY]
 have hfo:=kK s o qs "main"
 have hsm:c_ [pq s o qs,pq s o qs]=.ok (.val (.bl true) true []):=by
  refine xi s o (qs.map Aw) (by rw[List.length_map];omega) fun p hp=>?_
  obtain⟨q,h,rfl⟩:=List.mem_map.mp hp
  obtain⟨a,b,c,_⟩:=hq q h
  refine⟨a,by show 0<(q.2.map Rw.d).length;rw[List.length_map];exact b,by show(q.2.map Rw.d).length<=400;rw[List.length_map];exact c,fun r hr=>?_⟩
  obtain⟨w,_,rfl⟩:=List.mem_map.mp hr
  exact eV w
 have hlf:(D.lst L).flat=false:=rfl
 have htf:(D.tup [.int s,.int (iS qs*o+0),.lst L]).flat=false:=rfl
 have hbf:(D.tup [.int 0,.lst [.int (aW 0 qs "main"*o+0)]]).flat=false:=rfl
 have k1:-18446744073709551616<o:=by omega
 have k2:o<18446744073709551616:=by omega
 have e2:bJ (.int 2) (.int 2)=true:=rfl
 have e1:bJ (.int 1) (.int 1)=true:=rfl
 have e0:bJ (.int 0) (.int 0)=true:=rfl
 have ef:bJ (.int (aW 0 qs "main"*o+0)) (.int (aW 0 qs "main"*o))=true:=by rw[Int.add_zero];exact bM _
 have hnf:(D.lst (ns.map D.int)).flat=false:=rfl
 simp_arith[nQ,xT,qm,em,ja,hpf,hnf]
 simp_arith[ql,hpf,hh,hlr,hs,htf,hlf,kq]
 simp_arith[qh,hpf,hb,hbf,kq]
 simp_arith[qg,nK,e2,e0,cU]
 simp_arith[qf,nK,e1,cU]
 simp_arith[p_,hpf,hfo,hI,k1,k2,cN,ef,hsm]
end
end W
open PySem PySem.W PyProof.Rows
set_option maxRecDepth 100000 in
set_option maxHeartbeats 0 in
theorem PySem.Challenge.cw_callwalk_k55_rules_of_rows_holds : PySem.Challenge.rw_callwalk_k55_rules_of_rows.Holds := by
 w_on;o_law;k_head;(case hw=>w_witness2)
 k_fill
 refine L2.s_ (l:=PySem.Challenge.rw_callwalk_k55_rules_of_rows) (n:=63) (k:=6) (x:="_law_script") (CX:=fun w=>L2.gh PySem.Challenge.pw_callwalk_k55_rules_of_rows w) (sp:=fun _=>L3.CH W.nQ) rfl (by decide) rfl ⟨rfl,by decide,by decide⟩ (fun w h Y=>PySem.W.kIn_of Y) ?kL ?F ?S ?C
 case kL=>exact fun w=>⟨by rfl,by rfl⟩
 case F=>
  intro w mg fa h KX G hmg
  refine' Exists.imp (fun _ z=>⟨z.1,fun base _ _=>z.2 base⟩) (W.Ar hmg ?_)
  refine' Exists.imp (fun _ _=>True.intro) (W.Ck KX G L2.rh ?a_a ?l_a ?c_a ?k_a ?a_b ?l_b ?c_b ?k_b ?a_c ?l_c ?c_c ?k_c ?a_d ?l_d ?c_d ?k_d ?a_e ?l_e ?c_e ?k_e ?a_f ?l_f ?c_f ?k_f ?a_g ?l_g ?c_g ?k_g ?a_h ?l_h ?c_h ?k_h ?a_i ?l_i ?c_i ?k_i ?a_j ?l_j ?c_j ?k_j ?a_k ?l_k ?c_k ?k_k ?a_l ?l_l ?c_l ?k_l ?a_m ?l_m ?c_m ?k_m ?a_n ?l_n ?c_n ?k_n ?a_o ?l_o ?c_o ?k_o ?a_p ?l_p ?c_p ?k_p ?a_q ?l_q ?c_q ?k_q ?a_r ?l_r ?c_r ?k_r ?a_s ?l_s ?c_s ?k_s ?a_t ?l_t ?c_t ?k_t ?a_u ?l_u ?c_u ?k_u ?a_v ?l_v ?c_v ?k_v ?a_w ?l_w ?c_w ?k_w ?a_x ?l_x ?c_x ?k_x ?a_y ?l_y ?c_y ?k_y ?a_z ?l_z ?c_z ?k_z ?a_A ?l_A ?c_A ?k_A ?a_B ?l_B ?c_B ?k_B ?z_all ?z_bool ?z_dict ?z_enumerate ?z_int ?z_isinstance ?z_len ?z_list ?z_max ?z_range ?z_str ?z_sum ?z_tuple ?z_zip ?b_NoRow ?e_NoRow ?b_NoName ?e_NoName ?g_PLACES ?d_PLACES ?m_PLACES_0 ?m_PLACES_1)
  (case a_a=>k_is)
  (case l_a=>k_is)
  (case c_a=>k_is)
  (case k_a=>k_is)
  (case a_b=>k_is)
  (case l_b=>k_is)
  (case c_b=>k_is)
  (case k_b=>k_is)
  (case a_c=>k_is)
  (case l_c=>k_is)
  (case c_c=>k_is)
  (case k_c=>k_is)
  (case a_d=>k_is)
  (case l_d=>k_is)
  (case c_d=>k_is)
  (case k_d=>k_is)
  (case a_e=>k_is)
  (case l_e=>k_is)
  (case c_e=>k_is)
  (case k_e=>k_is)
  (case a_f=>k_is)
  (case l_f=>k_is)
  (case c_f=>k_is)
  (case k_f=>k_is)
  (case a_g=>k_is)
  (case l_g=>k_is)
  (case c_g=>k_is)
  (case k_g=>k_is)
  (case a_h=>k_is)
  (case l_h=>k_is)
  (case c_h=>k_is)
  (case k_h=>k_is)
  (case a_i=>k_is)
  (case l_i=>k_is)
  (case c_i=>k_is)
  (case k_i=>k_is)
  (case a_j=>k_is)
  (case l_j=>k_is)
  (case c_j=>k_is)
  (case k_j=>k_is)
  (case a_k=>k_is)
  (case l_k=>k_is)
  (case c_k=>k_is)
  (case k_k=>k_is)
  (case a_l=>k_is)
  (case l_l=>k_is)
  (case c_l=>k_is)
  (case k_l=>k_is)
  (case a_m=>k_is)
  (case l_m=>k_is)
  (case c_m=>k_is)
  (case k_m=>k_is)
  (case a_n=>k_is)
  (case l_n=>k_is)
  (case c_n=>k_is)
  (case k_n=>k_is)
  (case a_o=>k_is)
  (case l_o=>k_is)
  (case c_o=>k_is)
  (case k_o=>k_is)
  (case a_p=>k_is)
  (case l_p=>k_is)
  (case c_p=>k_is)
  (case k_p=>k_is)
  (case a_q=>k_is)
  (case l_q=>k_is)
  (case c_q=>k_is)
  (case k_q=>k_is)
  (case a_r=>k_is)
  (case l_r=>k_is)
  (case c_r=>k_is)
  (case k_r=>k_is)
  (case a_s=>k_is)
  (case l_s=>k_is)
  (case c_s=>k_is)
  (case k_s=>k_is)
  (case a_t=>k_is)
  (case l_t=>k_is)
  (case c_t=>k_is)
  (case k_t=>k_is)
  (case a_u=>k_is)
  (case l_u=>k_is)
  (case c_u=>k_is)
  (case k_u=>k_is)
  (case a_v=>k_is)
  (case l_v=>k_is)
  (case c_v=>k_is)
  (case k_v=>k_is)
  (case a_w=>k_is)
  (case l_w=>k_is)
  (case c_w=>k_is)
  (case k_w=>k_is)
  (case a_x=>k_is)
  (case l_x=>k_is)
  (case c_x=>k_is)
  (case k_x=>k_is)
  (case a_y=>k_is)
  (case l_y=>k_is)
  (case c_y=>k_is)
  (case k_y=>k_is)
  (case a_z=>k_is)
  (case l_z=>k_is)
  (case c_z=>k_is)
  (case k_z=>k_is)
  (case a_A=>k_is)
  (case l_A=>k_is)
  (case c_A=>k_is)
  (case k_A=>k_is)
  (case a_B=>k_is)
  (case l_B=>k_is)
  (case c_B=>k_is)
  (case k_B=>k_is)
  (case z_all=>k_is)
  (case z_bool=>k_is)
  (case z_dict=>k_is)
  (case z_enumerate=>k_is)
  (case z_int=>k_is)
  (case z_isinstance=>k_is)
  (case z_len=>k_is)
  (case z_list=>k_is)
  (case z_max=>k_is)
  (case z_range=>k_is)
  (case z_str=>k_is)
  (case z_sum=>k_is)
  (case z_tuple=>k_is)
  (case z_zip=>k_is)
  (case b_NoRow=>k_is)
  (case e_NoRow=>k_exc)
  (case b_NoName=>k_is)
  (case e_NoName=>k_exc)
  (case g_PLACES=>k_is)
  (case d_PLACES=>k_is)
  (case m_PLACES_0=>rfl)
  (case m_PLACES_1=>rfl)
 case S=>exact fun w H a ns hl hS=>L3.yZ (fun ns hn=>⟨_,_,W.AJ ns hn⟩) H a ns hl hS
 case C=>exact fun _ _ _ _ _ z=>L3.y0 z
