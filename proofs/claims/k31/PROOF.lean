import PyProof.Rows.All
import Wide.All
import OpenK.AllK
import Wide.FinOn
import Lean
import PyProof.EqAt
import PyProof.EqKinds
import PyProof.TupleCall
import PyProof.ZipIter
import PyProof.AttrMissHeap
import PyProof.Walks
import PyProof.WalksS
import PySem.SetTable
import KE.KSortTup
import KE.KRevIter
import PyProof.Rows.SetFrom
import PyProof.CollectWalk
import PyProof.DictWalks
import PyProof.DictItems
import KE.KDictList
import PyProof.ListRange
import PyProof.EqAt
import PyProof.WalkInts
import PyProof.Draws
import PyProof.EnumMake
import PyProof.ConsumeWalk
import PySem.Challenge.RW_callwalk_k31_leak
set_option Elab.async false
set_option linter.all false
set_option genSizeOf false
set_option genSizeOfSpec false
set_option compiler.extract_closed false
set_option maxRecDepth 100000
set_option maxHeartbeats 4000000

namespace L2
open PySem PySem.Spec PyProof.Rows
abbrev Key:=Sum Int Str
def jB:Key->Value->Bool
 | .inl k,v=>Value.isInt k v
 | .inr x,v=>Value.isStrOf x v
def GQ (w:World):Key->Int
 | .inl k=>hashInt k
 | .inr x=>hashStr w x
theorem aT:∀{k:Key}{v:Value},jB k v=true->(∃ i t,k=Sum.inl i/\v=Value.int i t)\/(∃ x t,k=Sum.inr x/\v=Value.str x t)
 | .inl i,v,h=>by
  obtain⟨t,e⟩:=Value.isInt_shape (k:=i) (v:=v) h
  exact .inl ⟨i,t,rfl,e⟩
 | .inr x,v,h=>by
  obtain⟨t,e⟩:=Value.isStrOf_shape (x:=x) (v:=v) h
  exact .inr ⟨x,t,rfl,e⟩
theorem wG (i:Int)(t:Tok):jB (.inl i) (.int i t)=true:=by simp[jB,Value.isInt]
theorem wH (x:Str)(t:Tok):jB (.inr x) (.str x t)=true:=by simp[jB,Value.isStrOf]
theorem Dk (a b:Int):decide ((Sum.inl a:Key)=Sum.inl b)=(a==b):=by
 by_cases e:a=b
 ·subst e;simp
 ·have h:¬ (Sum.inl a:Key)=Sum.inl b:=fun q=>e (Sum.inl.inj q)
  rw[decide_eq_false h]
  exact(beq_eq_false_iff_ne.mpr e).symm
theorem Dm (a b:Str):decide ((Sum.inr a:Key)=Sum.inr b)=decide (a=b):=by
 by_cases e:a=b
 ·subst e;simp
 ·have h:¬ (Sum.inr a:Key)=Sum.inr b:=fun q=>e (Sum.inr.inj q)
  rw[decide_eq_false h,decide_eq_false e]
theorem Do (a:Int)(b:Str):decide ((Sum.inl a:Key)=Sum.inr b)=false:=decide_eq_false (fun q=>nomatch q)
theorem Dp (a:Str)(b:Int):decide ((Sum.inr a:Key)=Sum.inl b)=false:=decide_eq_false (fun q=>nomatch q)
def ao (prog:Program)(w:World):PySem.KeyKind prog w Key where
 is:=jB
 hash:=GQ w
 inj:=fun v a b ha hb=>by
  rcases aT ha with⟨i,t,rfl,rfl⟩|⟨x,t,rfl,rfl⟩
  ·rcases aT hb with⟨j,u,rfl,e⟩|⟨y,u,rfl,e⟩
   ·injection e with e1 _;rw[e1]
   ·exact nomatch e
  ·rcases aT hb with⟨j,u,rfl,e⟩|⟨y,u,rfl,e⟩
   ·exact nomatch e
   ·injection e with e1 _;rw[e1]
 byValue:=fun k v h=>by
  rcases aT h with⟨i,t,rfl,rfl⟩|⟨x,t,rfl,rfl⟩<;>rfl
 pyHash:=fun hv h=>by
  rcases aT hv with⟨i,t,rfl,rfl⟩|⟨x,t,rfl,rfl⟩
  ·exact wpAny_pyHash_int h
  ·exact wpAny_pyHash_str h
 eqBool:=fun hu hv h=>by
  rcases aT hu with⟨i,t,rfl,rfl⟩|⟨x,t,rfl,rfl⟩
  ·rcases aT hv with⟨j,u,rfl,rfl⟩|⟨y,u,rfl,rfl⟩
   ·rw[Dk]at h;exact wpAny_eqBool_int h
   ·rw[Do]at h;exact SeqAt.EqAt.int_str i t y u _ _ _ _ h
  ·rcases aT hv with⟨j,u,rfl,rfl⟩|⟨y,u,rfl,rfl⟩
   ·rw[Dp]at h;exact SeqAt.EqAt.str_int x t j u _ _ _ _ h
   ·rw[Dm]at h;exact wpAny_eqBool_str h
 «strs»:=fun k x t v h=>by
  rcases aT h with⟨i,u,rfl,e⟩|⟨y,u,rfl,e⟩
  ·exact nomatch e
  ·injection e with e1 _
   subst e1
   cases v<;>rfl
theorem qC (prog:Program)(w:World)(i:Int)(t:Tok):(ao prog w).is (.inl i) (.int i t)=true:=wG i t
theorem qD (prog:Program)(w:World)(x:Str)(t:Tok):(ao prog w).is (.inr x) (.str x t)=true:=wH x t
end L2
namespace L2
open PySem PySem.Spec PyProof.Rows
inductive V where
 |non|bl (b:Bool)|int (i:Int)|str (x:Str)|byt (b:Array UInt8)|flt (b:UInt64)|ref (a:Addr)|ty (n:String)
 deriving DecidableEq
def RelV:V->Value->Prop
 | .non,u=>u=Value.none
 | .bl b,u=>u=Value.bool b
 | .int i,u=>∃ t,u=Value.int i t
 | .str x,u=>∃ t,u=Value.str x t
 | .byt b,u=>∃ t,u=Value.bytes b t
 | .flt b,u=>∃ t,u=Value.float b t
 | .ref a,u=>u=Value.ref a
 | .ty n,u=>u=Value.type n
abbrev Vals:List V->List Value->Prop:=Paired RelV
theorem Vals.length {xs:List V}{us:List Value}(r:Vals xs us):xs.length=us.length:=Paired.length r
theorem Vals.get:∀{xs:List V}{us:List Value}{i:Nat}{x:V},Vals xs us->xs[i]?=some x->∃ u,us[i]?=some u/\RelV x u
 |_,_,_,_,.nil,e=>by simp at e
 |_,_,0,_,.cons r _,e=>by simp at e;subst e;exact⟨_,rfl,r⟩
 |_,_,i+1,x,.cons _ t,e=>by
  obtain⟨u,h1,h2⟩:=Vals.get (i:=i) (x:=x) t (by simpa using e)
  exact⟨u,by simpa using h1,h2⟩
theorem Vals.set {x:V}{u:Value}(r:RelV x u):∀{xs:List V}{us:List Value}(i:Nat),Vals xs us->Vals (xs.set i x) (us.set i u)
 |_,_,_,.nil=>.nil
 |_,_,0,.cons _ t=>.cons r t
 |_,_,i+1,.cons q t=>.cons q (Vals.set r i t)
theorem Vals.append:∀{xs ys:List V}{us ws:List Value},Vals xs us->Vals ys ws->Vals (xs++ys) (us++ws)
 |_,_,_,_,.nil,s=>s
 |_,_,_,_,.cons r t,s=>.cons r (Vals.append t s)
theorem Vals.take:∀{xs:List V}{us:List Value}(n:Nat),Vals xs us->Vals (xs.take n) (us.take n)
 |_,_,0,_=>.nil
 |_,_,_+1,.nil=>.nil
 |_,_,n+1,.cons r t=>.cons r (Vals.take n t)
theorem Vals.drop:∀{xs:List V}{us:List Value}(n:Nat),Vals xs us->Vals (xs.drop n) (us.drop n)
 |_,_,0,r=>r
 |_,_,_+1,.nil=>.nil
 |_,_,n+1,.cons _ t=>Vals.drop n t
def RelO:Option V->Option Value->Prop
 |some v,some u=>RelV v u
 |none,none=>True
 |_,_=>False
def KV {κ:Type}:List (κ×V)->List (κ×Value)->Prop:=Paired fun(p:κ×V)(q:κ×Value)=>p.1=q.1/\RelV p.2 q.2
def kV:Key->V
 | .inl i=>.int i
 | .inr x=>.str x
inductive HO where
  
 |lst (xs:List V)
  
 |tup (xs:List V)
  
 |dK (kvs:List (Key×V))|dT (kvs:List (List Key×V))
  
 |set (S:Int->Bool) (n:Nat)
  
 |ins (C dx:Addr) (fs:List (Str×V))
  
 |own (x:Addr)
  
 |xd (fs:List (Str×V))
  
 |met (f x:Addr)
  
 |rng (lo hi:Int)
  
 |frz (o:Obj) (u:HO)
  
 |tbl (ps:Array Value)
  
 |ext (φ:Heap->Prop)
abbrev Hp:=Addr->Option HO
def az (H:Hp)(a:Addr)(o:HO):Hp:=fun b=>if b=a then some o else H b
theorem ai {H:Hp}{a:Addr}{o:HO}:az H a o a=some o:=by unfold az;rw[if_pos rfl]
theorem ag {H:Hp}{a b:Addr}{o:HO}(h:b≠a):az H a o b=H b:=by unfold az;rw[if_neg h]
theorem vq {H:Hp}{a:Addr}{o u:HO}:az (az H a o) a u=az H a u:=by
 funext b;unfold az;split<;>rfl
theorem CJ {H:Hp}{a b:Addr}{o u:HO}(h:H a=some o)(h':H b=some u)(d:o≠u):a≠b:=by
 intro e;subst e;rw[h]at h';exact d (Option.some.inj h')
theorem ak {H:Hp}{a b:Addr}{o:HO}(h:H a=some o)(h':H b=none):a≠b:=by
 intro e;subst e;rw[h]at h';cases h'
section
variable (P:Program)(w:World)
def ObjOk (H:Hp)(h:Heap)(a:Addr):HO->Prop
 | .lst xs=>xs.length<=sizeLine/\∃(its:List Value)(n:Nat),Vals xs its/\h.get? a=some { cls:=.type "list",data:=.seq its.toArray n }
 | .tup xs=>xs.length<=sizeLine/\∃ its:List Value,Vals xs its/\IsTup h a its.toArray
 | .dK kvs=>kvs.length<=sizeLine/\(a==sysModules)=false/\∃ vs,KV kvs vs/\h.DictOf (ao P w) a vs
 | .dT kvs=>kvs.length<=sizeLine/\(a==sysModules)=false/\∃ xs:List (List Key×Addr×Value),
  Paired (fun(p:List Key×V)(q:List Key×Addr×Value)=>p.1=q.1/\H q.2.1=some (.tup (p.1.map kV))/\RelV p.2 q.2.2) kvs xs/\
  ∃ o es ep,h.get? a=some o/\o.ExactDict/\o.data=.dict es ep/\es.toList=xs.map (entryOfKey (tupleKind (ao P w)))/\(xs.map (·.1)).Nodup
 | .set S n=>h.SetOf (intKind P w) a S n
 | .ins C dx fs=>H dx=some (.own a)/\fs.length<=1000/\dx≠a/\h.get? a=some (PySem.W.instObj C dx)/\
  ∃ mA,h.Ns1 dx mA/\(∀ f,RelO (fs.lookup f) (mA f))/\PySem.Within mA (fs.map (·.1))
 | .own _=>∃ o,h.get? a=some o
 | .xd fs=>∃ mA,h.Ns1 a mA/\∀ f,RelO (fs.lookup f) (mA f)
 | .rng lo hi=>∃ t u v,h.get? a=some { cls:=.type "range",data:=.fields #[.int lo t,.int hi u,.int 1 v] }
 | .frz o u=>h.get? a=some o/\ObjOk H h a u
 | .tbl ps=>h.get? a=some { cls:=.none,data:=.fields ps }
 | .met f x=>h.get? a=some (PySem.W.methodObj (.ref f) (.ref x))
 | .ext φ=>φ h/\(∃ o,h.get? a=some o)/\∀ h1 h2:Heap,φ h1->(∀ o,h1.get? a=some o->h2.get? a=some o)->φ h2
def HOk (H:Hp)(h:Heap):Prop:=∀ a o,H a=some o->ObjOk P w H h a o
end
section
variable {P:Program}{w:World}{H H':Hp}{h h':Heap}{a:Addr}{o:HO}
theorem ObjOk.lt (x:ObjOk P w H h a o):a<h.objs.size:=by
 cases o with
 |lst xs=>obtain⟨_,_,_,_,e⟩:=x;exact Heap.lt_size e
 |tup xs=>obtain⟨_,_,_,p⟩:=x;exact p.lt
 |dK kvs=>obtain⟨_,_,_,_,o,_,_,e,_⟩:=x;exact Heap.lt_size e
 |dT kvs=>obtain⟨_,_,_,_,o,_,_,e,_⟩:=x;exact Heap.lt_size e
 |set S n=>obtain⟨o,_,_,_,e,_⟩:=x;exact Heap.lt_size e
 |ins C dx fs=>obtain⟨_,_,_,e,_⟩:=x;exact Heap.lt_size e
 |own y=>obtain⟨_,e⟩:=x;exact Heap.lt_size e
 |xd fs=>obtain⟨_,⟨_,_,_,e,_⟩,_⟩:=x;exact Heap.lt_size e
 |rng lo hi=>obtain⟨_,_,_,e⟩:=x;exact Heap.lt_size e
 |frz ob u=>obtain⟨e,_⟩:=x;exact Heap.lt_size e
 |tbl ps=>exact Heap.lt_size (show h.get? a=some _ from x)
 |met f y=>exact Heap.lt_size (show h.get? a=some _ from x)
 |ext φ=>obtain⟨_,⟨_,e⟩,_⟩:=x;exact Heap.lt_size e
theorem Paired.mapP {α β:Type}{F G:α->β->Prop}:∀{l₁:List α}{l₂:List β},Paired F l₁ l₂->(∀ a b,F a b->G a b)->Paired G l₁ l₂
 |_,_,.nil,_=>.nil
 |_,_,.cons r t,f=>.cons (f _ _ r) (Paired.mapP t f)
theorem ObjOk.stay (x:ObjOk P w H h a o)(k:∀ b u,(b=a\/H b=some (.own a))->h.get? b=some u->h'.get? b=some u)
 (ho:∀ b,H b=some (.own a)->H' b=some (.own a)) (ht:∀ b xs,H b=some (.tup xs)->H' b=some (.tup xs)):ObjOk P w H' h' a o:=by
 induction o with
 |lst xs=>obtain⟨z,its,n,r,e⟩:=x;exact⟨z,its,n,r,k _ _ (.inl rfl) e⟩
 |tup xs=>obtain⟨z,its,r,ob,e,c⟩:=x;exact⟨z,its,r,ob,k _ _ (.inl rfl) e,c⟩
 |dK kvs=>obtain⟨z,y,vs,r,ob,es,ep,e,c⟩:=x;exact⟨z,y,vs,r,ob,es,ep,k _ _ (.inl rfl) e,c⟩
 |dT kvs=>
  obtain⟨z,y,xs,r,ob,es,ep,e,c⟩:=x
  exact⟨z,y,xs,Paired.mapP r fun p q z=>⟨z.1,ht _ _ z.2.1,z.2.2⟩,ob,es,ep,k _ _ (.inl rfl) e,c⟩
 |set S n=>obtain⟨ob,es,ep,t,e,c⟩:=x;exact⟨ob,es,ep,t,k _ _ (.inl rfl) e,c⟩
 |ins C dx fs=>
  obtain⟨d,z,ne,e,mA,⟨od,es,ep,e2,c⟩,r⟩:=x
  exact⟨ho _ d,z,ne,k _ _ (.inl rfl) e,mA,⟨od,es,ep,k _ _ (.inr d) e2,c⟩,r⟩
 |own y=>obtain⟨ob,e⟩:=x;exact⟨ob,k _ _ (.inl rfl) e⟩
 |xd fs=>obtain⟨mA,⟨od,es,ep,e,c⟩,r⟩:=x;exact⟨mA,⟨od,es,ep,k _ _ (.inl rfl) e,c⟩,r⟩
 |rng lo hi=>obtain⟨t,u,v,e⟩:=x;exact⟨t,u,v,k _ _ (.inl rfl) e⟩
 |frz ob u ih=>obtain⟨e,q⟩:=x;exact⟨k _ _ (.inl rfl) e,ih q⟩
 |tbl ps=>
  have e:h.get? a=some { cls:=.none,data:=.fields ps }:=x
  show h'.get? a=some { cls:=.none,data:=.fields ps }
  exact k a _ (.inl rfl) e
 |met f y=>
  have e:h.get? a=some (PySem.W.methodObj (.ref f) (.ref y)):=x
  show h'.get? a=some (PySem.W.methodObj (.ref f) (.ref y))
  exact k a _ (.inl rfl) e
 |ext φ=>obtain⟨p,⟨o,e⟩,st⟩:=x;exact⟨st _ _ p fun o q=>k _ _ (.inl rfl) q,⟨o,k _ _ (.inl rfl) e⟩,st⟩
theorem HOk.lt (x:HOk P w H h)(e:H a=some o):a<h.objs.size:=(x a o e).lt
theorem HOk.fresh (x:HOk P w H h)(e:h.objs.size<=a):H a=none:=by
 cases q:H a with
 |none=>rfl
 |some u=>exact absurd (Nat.lt_of_lt_of_le (x.lt q) e) (Nat.lt_irrefl _)
theorem HOk.kept (x:HOk P w H h)(k:∀ b u,h.get? b=some u->h'.get? b=some u):HOk P w H h':=fun a o e=>
 (x a o e).stay (fun b u _ q=>k b u q) (fun _ q=>q) fun _ _ q=>q
theorem HOk.laid (x:HOk P w H h)(k:∀ b u,h.get? b=some u->h'.get? b=some u)(hp:h.objs.size<=a)(new:ObjOk P w (az H a o) h' a o):HOk P w (az H a o) h':=fun b u e=>by
 have hn:=x.fresh hp
 by_cases hb:b=a
 ·subst hb;rw[ai]at e;cases e;exact new
 ·rw[ag hb]at e
  exact(x b u e).stay (fun c v _ q=>k c v q) (fun c q=>by rw[ag (ak q hn)];exact q) fun c xs q=>by rw[ag (ak q hn)];exact q
end
def Rd (H:Hp)(a:Addr)(u:HO):Prop:=H a=some u\/∃ o,H a=some (.frz o u)
theorem Rd.ok {P:Program}{w:World}{H:Hp}{h:Heap}{a:Addr}{u:HO}(r:Rd H a u)(x:HOk P w H h):ObjOk P w H h a u:=by
 rcases r with r|⟨o,r⟩
 ·exact x a u r
 ·obtain⟨_,q⟩:=x a _ r
  exact q
def Fu:Option HO->Prop
 |some (.lst _)=>True
 |some (.dK _)=>True
 |some (.dT _)=>True
 |some (.set _ _)=>True
 |some (.ins _ _ _)=>True
 |some (.ext _)=>True
 |_=>False
section
variable {P:Program}{w:World}{H:Hp}{h h':Heap}{x e:Addr}{o':HO}
theorem HOk.write (ok:HOk P w H h)(mu:Fu (H x))(he:e=x\/H e=some (.own x))(k:∀ b u,b≠e->h.get? b=some u->h'.get? b=some u)(heo:∃ u,h'.get? e=some u)
 (new:ObjOk P w (az H x o') h' x o'):HOk P w (az H x o') h':=fun b u q=>by
 have nown:∀ c y,H c=some (.own y)->c≠x:=fun c y r z=>by subst z;rw[r]at mu;exact mu
 have ntup:∀ c xs,H c=some (.tup xs)->c≠x:=fun c xs r z=>by subst z;rw[r]at mu;exact mu
 by_cases hb:b=x
 ·subst hb;rw[ai]at q;cases q;exact new
 ·rw[ag hb]at q
  by_cases hbe:b=e
  ·have q':H b=some (.own x):=by
    rcases he with z|z
    ·exact absurd (hbe.trans z) hb
    ·rw[hbe];exact z
   rw[q]at q';cases q'
   obtain⟨v,hv⟩:=heo
   exact⟨v,by rw[hbe];exact hv⟩
  ·refine(ok b u q).stay (fun c v hc r=>k c v ?_ r) (fun c r=>by rw[ag (nown c b r)];exact r) fun c xs r=>by rw[ag (ntup c xs r)];exact r
   rcases hc with rfl|hc
   ·exact hbe
   ·rintro rfl
    rcases he with z|z
    ·exact nown c b hc z
    ·rw[hc]at z;cases z;exact hb rfl
end
structure Un (fs ex:List Addr) (H H':Hp) (h h':Heap):Prop where
 keep:∀ b o,h.get? b=some o->H b=none->b∉fs->b∉ex->h'.get? b=some o
 slot:∀ b o,h.get? b=some o->H b=none->b∈fs->b∉ex->∃ sl,h'.get? b=some { o with slots:=sl }
 free:∀ b o,h.get? b=some o->H b=none->b∉ex->H' b=none
 there:∀ b o,h.get? b=some o->b∉ex->∃ o',h'.get? b=some o'
 tups:∀ b xs,H b=some (.tup xs)->H' b=some (.tup xs)
 frzs:∀ b o u,H b=some (.frz o u)->H' b=some (.frz o u)
 tbls:∀ b ps,H b=some (.tbl ps)->∃ more,H' b=some (.tbl (ps++more))
section
variable {fs fs' ex ex':List Addr}{H H1 H2:Hp}{h h1 h2 h':Heap}{a x e:Addr}{o:HO}
theorem Un.any (u:Un fs ex H H1 h h1){b:Addr}{ob:Obj}(q:h.get? b=some ob)(n:H b=none)(hx:b∉ex):∃ sl,h1.get? b=some { ob with slots:=sl }:=by
 by_cases hb:b∈fs
 ·exact u.slot b ob q n hb hx
 ·exact⟨ob.slots,u.keep b ob q n hb hx⟩
theorem Un.kept (k:∀ b u,h.get? b=some u->h'.get? b=some u):Un fs ex H H h h':=
 ⟨fun b ob q _ _ _=>k b ob q,fun b ob q _ _ _=>⟨ob.slots,k b ob q⟩,fun _ _ _ n _=>n,fun b ob q _=>⟨ob,k b ob q⟩,fun _ _ q=>q,fun _ _ _ q=>q,fun _ ps q=>⟨#[],by rw[q];simp⟩⟩
theorem Un.refl:Un fs ex H H h h:=Un.kept fun _ _ q=>q
theorem Un.laid (k:∀ b u,h.get? b=some u->h'.get? b=some u)(hp:h.objs.size<=a)(hn:H a=none):Un fs ex H (az H a o) h h' where
 keep:=fun b u q _ _ _=>k b u q
 slot:=fun b u q _ _ _=>⟨u.slots,k b u q⟩
 free:=fun b u q n _=>by rw[ag (Nat.ne_of_lt (Nat.lt_of_lt_of_le (Heap.lt_size q) hp))];exact n
 there:=fun b u q _=>⟨u,k b u q⟩
 tups:=fun b xs q=>by rw[ag (ak q hn)];exact q
 frzs:=fun b u xs q=>by rw[ag (ak q hn)];exact q
 tbls:=fun b ps q=>⟨#[],by rw[ag (ak q hn),q];simp⟩
theorem Un.write (mu:Fu (H x))(he:e=x\/H e=some (.own x))(k:∀ b u,b≠e->h.get? b=some u->h'.get? b=some u)(heo:∃ u,h'.get? e=some u):Un fs ex H (az H x o) h h':=by
 have hx:∀ b,H b=none->b≠x:=fun b n z=>by subst z;rw[n]at mu;exact mu
 have hb:∀ b,H b=none->b≠e:=fun b n z=>by
  subst z
  rcases he with r|r
  ·exact hx b n r
  ·rw[n]at r;cases r
 have hm:∀ b u,H b=some u->¬ Fu (some u)->b≠x:=fun b u q nm z=>by subst z;rw[q]at mu;exact nm mu
 refine⟨fun b u q n _ _=>k b u (hb b n) q,fun b u q n _ _=>⟨u.slots,k b u (hb b n) q⟩,fun b u q n _=>by rw[ag (hx b n)];exact n,fun b u q _=>?_,
  fun b xs q=>by rw[ag (hm b _ q fun z=>z)];exact q,fun b u xs q=>by rw[ag (hm b _ q fun z=>z)];exact q,fun b ps q=>⟨#[],by rw[ag (hm b _ q fun z=>z),q];simp⟩⟩
 by_cases hbe:b=e
 ·subst hbe;exact heo
 ·exact⟨u,k b u hbe q⟩
end
def GG (h:Heap)(H:Hp):List Addr:=(List.range h.objs.size).filter fun a=>(H a).isSome
def nV (h:Heap)(H:Hp):Heap:=PySem.W.hideAll h (GG h H)
theorem wI (h:Heap)(H:Hp):(nV h H).objs.size=h.objs.size:=PySem.W.hideAll_size _ _
theorem xX {h:Heap}{H:Hp}{b:Addr}{o:Obj}(e:h.get? b=some o)(n:H b=none):(nV h H).get? b=some o:=
 PySem.W.hideAll_get _ e fun hm=>by
  have q:(H b).isSome=true:=(List.mem_filter.mp hm).2
  rw[n]at q;simp at q
theorem Bc {h:Heap}{H:Hp}{b:Addr}{o:Obj}(e:(nV h H).get? b=some o):h.get? b=some o/\H b=none:=by
 have e':h.get? b=some o:=PySem.W.of_hideAll (GG h H) e
 refine⟨e',?_⟩
 cases q:H b with
 |none=>rfl
 |some x=>
  have hm:b∈GG h H:=List.mem_filter.mpr ⟨List.mem_range.mpr (Heap.lt_size e'),by simp[q]⟩
  have z:(nV h H).get? b=none:=PySem.W.hideAll_none (GG h H) hm
  rw[z]at e;cases e
def Bd (g h:Heap)(L:Addr):List (Addr×Obj):=(List.range h.objs.size).filterMap fun a=>if a=L\/(g.get? a).isSome=true then none else (h.get? a).map fun o=>(a,o)
def aQ (g h:Heap)(L d:Addr):List (Addr×Obj):=(Bd g h L).filter fun p=>decide (p.1≠d)
end L2
namespace L2
open PySem PySem.Spec PyProof.Rows
structure Mod (K:PySem.W.Frag) (mg:Str->Option Value) (base:Heap):Prop where
 kin:K.In base
 glob:base.Ns mainGlobals mg
 blt:∃ mb,base.Ns builtinsNs mb/\∀ x:Str,x≠"__name__"->mb x=bootBuiltins x
 nolimit:base.NoLimit
structure Cx where
 prog:Program
 w:World
 K:PySem.W.Frag
 mg:Str->Option Value
 base:Heap
 A:Around
 N:List Str
 s₀:Shared
 H₀:Hp
 env:Env
 outer:List Env
 stack:List Env
 ex:List Addr
 fn:Str->Bool
 calm:Bool
 pn:List (Addr×Obj)
 xe:Value->Shared->Prop
def frs (l:List Env):List Addr:=l.filterMap (·.frame)
abbrev Cx.fs (X:Cx):List Addr:=frs X.outer
def Vis (sc:Scope)(x:Str):Prop:=sc.names.lookup x=some .local\/sc.names.lookup x=some .cell\/sc.names.lookup x=some .free
def CK (sc:Scope)(x:Str):Prop:=sc.names.lookup x=some .local\/sc.names.lookup x=some .cell
def Look (env:Env)(h:Heap)(m:Str->Option Value)(x:Str)(u:Value):Prop:=
 (env.kindOf x=some .local/\m x=some u)\/((env.kindOf x=some .cell\/env.kindOf x=some .free)/\∃ c,env.cells.lookup x=some c/\h.IsCell c (some u))
structure Cx.Ok (X:Cx):Prop where
 mod:Mod X.K X.mg X.base
 kind:X.env.scope.kind=.function
 glob:X.env.globals=mainGlobals
 blt:X.env.builtins=builtinsNs
 above:X.s₀.heap.objs.size<=X.env.locals
 inj:∀ x y c,X.env.cells.lookup x=some c->X.env.cells.lookup y=some c->x=y
 has:∀ x,(X.env.kindOf x=some .cell\/X.env.kindOf x=some .free)->∃ c,X.env.cells.lookup x=some c
 cab:∀ x c,X.fn x=true->X.env.cells.lookup x=some c->X.s₀.heap.objs.size<=c
 hd:X.calm=true->X.A.handled=none
 frames:X.A.frames=some X.stack
 stk:X.stack=X.outer\/(X.stack=X.env::X.outer/\X.env.frame=some X.env.locals)
 exf:∀ b∈X.ex,b≠X.env.locals/\∀ x c,X.env.cells.lookup x=some c->c≠b
 bs:∀ b o,X.base.get? b=some o->X.s₀.heap.get? b=some o/\X.H₀ b=none
 bsz:X.base.objs.size<=X.s₀.heap.objs.size
 noex:∀ b o,X.base.get? b=some o->b∉X.ex
 exfs:∀ b∈X.ex,b∉X.fs
 funs:X.s₀.heap.FunFrames X.base X.outer
 frf:∀ b∈X.fs,X.H₀ b=none
structure Inv (X:Cx) (pins:List (Addr×Obj)) (σ:List (Option V)) (H:Hp) (s:Shared):Prop where
 ok:X.Ok
 os:s.os=X.s₀.os
 bare:AllBare s.gens
 base:Un X.fs X.ex X.H₀ H X.s₀.heap s.heap
 loc:∃ m,s.heap.Ns X.env.locals m/\∀(i:Nat)(x:Str)(v:V),X.N[i]?=some x->σ[i]?=some (some v)->Vis X.env.scope x->∃ u,RelV v u/\Look X.env s.heap m x u
 cell:∀ x c,X.env.cells.lookup x=some c->∃ v,s.heap.IsCell c v
 free:H X.env.locals=none
 freeC:∀ x c,X.env.cells.lookup x=some c->H c=none
 pin:∀ p∈X.pn++pins,s.heap.get? p.1=some p.2/\H p.1=none/\p.1≠X.env.locals/\p.1∉X.fs/\∀ v,p.2.data≠.cell v
 hok:HOk X.prog X.w H s.heap
 len:σ.length=X.N.length
section
variable {X:Cx}{pins:List (Addr×Obj)}{σ:List (Option V)}{H H':Hp}{s:Shared}{h':Heap}
theorem Cx.Ok.nofr (ok:X.Ok){b:Addr}{o:Obj}(e:X.base.get? b=some o):b∉X.fs:=fun hb=>by
 have:=(ok.funs.mem hb).1
 rw[e]at this;cases this
theorem Inv.bs (I:Inv X pins σ H s):∀ b o,X.base.get? b=some o->s.heap.get? b=some o/\H b=none:=fun b o e=>
 ⟨I.base.keep b o (I.ok.bs b o e).1 (I.ok.bs b o e).2 (I.ok.nofr e) (I.ok.noex b o e),I.base.free b o (I.ok.bs b o e).1 (I.ok.bs b o e).2 (I.ok.noex b o e)⟩
theorem Inv.bk (I:Inv X pins σ H s):∀ b o,X.base.get? b=some o->s.heap.get? b=some o:=fun b o e=>(I.bs b o e).1
theorem Inv.mod (I:Inv X pins σ H s):Mod X.K X.mg X.base:=I.ok.mod
theorem Inv.kIn (I:Inv X pins σ H s):X.K.In s.heap:=I.ok.mod.kin.keeps I.bk
theorem Inv.lt (I:Inv X pins σ H s):X.env.locals<s.heap.objs.size:=let ⟨_,hn,_⟩:=I.loc;hn.lt
theorem Inv.sz (I:Inv X pins σ H s):X.s₀.heap.objs.size<=s.heap.objs.size:=Nat.le_trans I.ok.above (Nat.le_of_lt I.lt)
theorem Inv.nofs (I:Inv X pins σ H s){a:Addr}(h:s.heap.objs.size<=a):a∉X.fs:=fun hb=>by
 obtain⟨_,o,ho,_⟩:=I.ok.funs.mem hb
 exact absurd (Nat.lt_of_lt_of_le (Heap.lt_size ho) (Nat.le_trans I.sz h)) (Nat.lt_irrefl _)
theorem Inv.cne (I:Inv X pins σ H s):∀ x c,X.env.cells.lookup x=some c->c≠X.env.locals:=fun x c e z=>by
 obtain⟨v,o,ho,hd⟩:=I.cell x c e
 obtain⟨m,⟨o',es,ep,ho',hd',_⟩,_⟩:=I.loc
 rw[z,ho']at ho;cases ho;rw[hd']at hd;cases hd
theorem Inv.funs (I:Inv X pins σ H s):s.heap.FunFrames X.base X.outer:=by
 have all:∀(l:List Env),(∀ b∈frs l,b∈X.fs)->X.s₀.heap.FunFrames X.base l->s.heap.FunFrames X.base l:=by
  intro l
  induction l with
  |nil=>intro _ _;trivial
  |cons env r ih=>
   intro hs hl
   obtain⟨hk,⟨L,o,hf,hn,ho,hd⟩,hr⟩:=hl
   have hL:L∈X.fs:=hs L (by unfold frs;rw[List.filterMap_cons,hf];exact List.mem_cons_self)
   obtain⟨sl,e⟩:=I.base.slot L o ho (I.ok.frf L hL) hL fun z=>I.ok.exfs L z hL
   exact⟨hk,⟨L,_,hf,hn,e,hd⟩,ih (fun b hb=>hs b (by unfold frs;rw[List.filterMap_cons,hf];exact List.mem_cons_of_mem _ hb)) hr⟩
 exact all X.outer (fun _ hb=>hb) I.ok.funs
theorem Inv.stack (I:Inv X pins σ H s):s.heap.FunFrames X.base X.stack:=by
 rcases I.ok.stk with e|⟨e,hf⟩
 ·rw[e];exact I.funs
 ·rw[e]
  obtain⟨m,hn,_⟩:=I.loc
  refine .cons (by rw[I.ok.kind];decide) hf hn ?_ I.funs
  exact Heap.get?_none_of_le (Nat.le_trans I.ok.bsz I.ok.above)
theorem Inv.stkSub (I:Inv X pins σ H s):∀ b∈frs X.stack,b∈X.env.locals::X.fs:=fun b hb=>by
 rcases I.ok.stk with e|⟨e,hf⟩
 ·rw[e]at hb;exact List.mem_cons_of_mem _ hb
 ·rw[e]at hb
  unfold frs at hb
  rw[List.filterMap_cons,hf]at hb
  exact hb
theorem Inv.stkFree (I:Inv X pins σ H s):∀ b∈frs X.stack,H b=none:=fun b hb=>by
 rcases List.mem_cons.mp (I.stkSub b hb) with e|hb
 ·rw[e];exact I.free
 ·obtain⟨_,o,ho,_⟩:=I.ok.funs.mem hb
  exact I.base.free b o ho (I.ok.frf b hb) fun z=>I.ok.exfs b z hb
theorem Inv.step {g':Array GenState}{t':Nat}{d':Drawn}{ch:List Addr}(I:Inv X pins σ H s)
 (hch:∀ b∈ch,(b∈X.ex\/X.s₀.heap.objs.size<=b)/\b≠X.env.locals/\(∀ x c,X.env.cells.lookup x=some c->c≠b)/\∀ p∈X.pn++pins,p.1≠b)
 (keep:∀ b o,b≠X.env.locals->b∉X.fs->b∉ch->s.heap.get? b=some o->H b=none->h'.get? b=some o)
 (slot:∀ b o,b≠X.env.locals->b∈X.fs->b∉ch->s.heap.get? b=some o->H b=none->∃ sl,h'.get? b=some { o with slots:=sl }) (free:∀ b o,b∉ch->s.heap.get? b=some o->H b=none->H' b=none)
 (there:∀ b o,b∉ch->s.heap.get? b=some o->∃ o',h'.get? b=some o')
 (tups:∀ b xs,H b=some (.tup xs)->H' b=some (.tup xs)) (frzs:∀ b o u,H b=some (.frz o u)->H' b=some (.frz o u)) (tbls:∀ b ps,H b=some (.tbl ps)->∃ more,H' b=some (.tbl (ps++more)))
 (ns:∀ m,s.heap.Ns X.env.locals m->h'.Ns X.env.locals m) (hok:HOk X.prog X.w H' h') (hg:AllBare g') :
 Inv X pins σ H' { s with heap:=h',gens:=g',drawn:=d',toks:=t' }:=by
 have neL:∀ b o,X.s₀.heap.get? b=some o->b≠X.env.locals:=fun b o e=>Nat.ne_of_lt (Nat.lt_of_lt_of_le (Heap.lt_size e) I.ok.above)
 have neC:∀ b o,X.s₀.heap.get? b=some o->b∉X.ex->b∉ch:=fun b o e hx hb=>by
  rcases (hch b hb).1 with z|z
  ·exact hx z
  ·exact absurd (Nat.lt_of_lt_of_le (Heap.lt_size e) z) (Nat.lt_irrefl _)
 have cellK:∀ x c,X.env.cells.lookup x=some c->∀ v,s.heap.IsCell c v->h'.IsCell c v:=fun x c e v ⟨o,ho,hd⟩=>by
  have nch:c∉ch:=fun z=>(hch c z).2.2.1 x c e rfl
  by_cases hc:c∈X.fs
  ·obtain⟨sl,q⟩:=slot c o (I.cne x c e) hc nch ho (I.freeC x c e)
   exact⟨_,q,hd⟩
  ·exact⟨o,keep c o (I.cne x c e) hc nch ho (I.freeC x c e),hd⟩
 refine⟨I.ok,I.os,hg,⟨fun b o e n hb hx=>?_,fun b o e n hb hx=>?_,fun b o e n hx=>?_,fun b o e hx=>?_,fun b xs e=>tups b xs (I.base.tups b xs e),fun b o xs e=>frzs b o xs (I.base.frzs b o xs e),fun b ps e=>?_⟩,?_,fun x c e=>?_,?_,fun x c e=>?_,fun p hp=>?_,hok,I.len⟩
 ·exact keep b o (neL b o e) hb (neC b o e hx) (I.base.keep b o e n hb hx) (I.base.free b o e n hx)
 ·obtain⟨sl,e1⟩:=I.base.slot b o e n hb hx
  obtain⟨sl',e2⟩:=slot b _ (neL b o e) hb (neC b o e hx) e1 (I.base.free b o e n hx)
  exact⟨sl',e2⟩
 ·obtain⟨o',e1⟩:=I.base.there b o e hx
  exact free b o' (neC b o e hx) e1 (I.base.free b o e n hx)
 ·obtain⟨o',e1⟩:=I.base.there b o e hx
  exact there b o' (neC b o e hx) e1
 ·obtain⟨m1,e1⟩:=I.base.tbls b ps e
  obtain⟨m2,e2⟩:=tbls b _ e1
  exact⟨m1++m2,by rw[e2,Array.append_assoc]⟩
 ·obtain⟨m,hn,hl⟩:=I.loc
  refine⟨m,ns m hn,fun i x v e1 e2 e3=>?_⟩
  obtain⟨u,r,l⟩:=hl i x v e1 e2 e3
  refine⟨u,r,?_⟩
  rcases l with l|⟨k,c,e,z⟩
  ·exact .inl l
  ·exact .inr ⟨k,c,e,cellK x c e _ z⟩
 ·obtain⟨v,z⟩:=I.cell x c e
  exact⟨v,cellK x c e v z⟩
 ·obtain⟨m,⟨o,_,_,ho,_⟩,_⟩:=I.loc
  exact free _ o (fun z=>(hch _ z).2.1 rfl) ho I.free
 ·obtain⟨v,o,ho,hd⟩:=I.cell x c e
  exact free c o (fun z=>(hch c z).2.2.1 x c e rfl) ho (I.freeC x c e)
 ·obtain⟨e,n,ne,nf,d⟩:=I.pin p hp
  have nch:p.1∉ch:=fun z=>(hch p.1 z).2.2.2 p hp rfl
  exact⟨keep p.1 p.2 ne nf nch e n,free p.1 p.2 nch e n,ne,nf,d⟩
theorem Inv.un {t':Nat}(I:Inv X pins σ H s)(u:Un X.fs [] H H' s.heap h')(hok:HOk X.prog X.w H' h'):Inv X pins σ H' { s with heap:=h',toks:=t' }:=by
 obtain⟨m,⟨o,es,ep,ho,r⟩,_⟩:=id I.loc
 obtain⟨sl,hL⟩:=u.any ho I.free (by simp)
 exact I.step (g':=s.gens) (d':=s.drawn) (ch:=[]) (fun _ z=>nomatch z) (fun b o _ hb _ e n=>u.keep b o e n hb (by simp)) (fun b o _ hb _ e n=>u.slot b o e n hb (by simp)) (fun b o _ e n=>u.free b o e n (by simp)) (fun b o _ e=>u.there b o e (by simp)) u.tups u.frzs u.tbls (fun m' hm=>by
  obtain⟨o',es',ep',ho',r'⟩:=hm
  rw[ho]at ho';cases ho'
  exact⟨_,es',ep',hL,r'⟩) hok I.bare
theorem Inv.call {g':Array GenState}{t':Nat}{d':Drawn}{ch:List Addr}(I:Inv X pins σ H s)(u:Un (frs X.stack) ch H H' s.heap h')(hok:HOk X.prog X.w H' h')(hg:AllBare g')
 (hch:∀ b∈ch,(b∈X.ex\/X.s₀.heap.objs.size<=b)/\b≠X.env.locals/\(∀ x c,X.env.cells.lookup x=some c->c≠b)/\∀ p∈X.pn++pins,p.1≠b) :
 Inv X pins σ H' { s with heap:=h',gens:=g',drawn:=d',toks:=t' }:=by
 obtain⟨m,⟨o,es,ep,ho,r⟩,_⟩:=id I.loc
 obtain⟨sl,hL⟩:=u.any ho I.free fun z=>(hch _ z).2.1 rfl
 exact I.step (ch:=ch) hch (fun b o hL hb hc e n=>u.keep b o e n (fun z=>(List.mem_cons.mp (I.stkSub b z)).elim hL hb) hc) (fun b o _ _ hc e n=>u.any e n hc) (fun b o hc e n=>u.free b o e n hc) (fun b o hc e=>u.there b o e hc) u.tups u.frzs u.tbls (fun m' hm=>by
  obtain⟨o',es',ep',ho',r'⟩:=hm
  rw[ho]at ho';cases ho'
  exact⟨_,es',ep',hL,r'⟩) hok hg
theorem Inv.turned {t':Nat}{it:Addr}(I:Inv X pins σ H s)(k:∀ b o,b≠it->s.heap.get? b=some o->h'.get? b=some o)(hn:H it=none)(hL:it≠X.env.locals)
 (h1:it∈X.ex\/X.s₀.heap.objs.size<=it) (h2:∀ x c,X.env.cells.lookup x=some c->c≠it) (h3:∀ p∈X.pn++pins,p.1≠it):Inv X pins σ H { s with heap:=h',toks:=t' }:=by
 have nit:∀ b u,H b=some u->b≠it:=fun b u e z=>by rw[z,hn]at e;cases e
 refine I.step (g':=s.gens) (d':=s.drawn) (ch:=[it]) (fun b hb=>?_) (fun b o _ _ hc e _=>k b o (fun z=>hc (by simp[z])) e) (fun b o _ _ hc e _=>⟨o.slots,k b o (fun z=>hc (by simp[z])) e⟩) (fun _ _ _ _ n=>n)
  (fun b o hc e=>⟨o,k b o (fun z=>hc (by simp[z])) e⟩) (fun _ _ e=>e) (fun _ _ _ e=>e) (fun b ps e=>⟨#[],by rw[e];simp⟩) (fun m hm=>?_) (fun b u e=>?_) I.bare
 ·have e:b=it:=by simpa using hb
  subst e
  exact⟨h1,hL,h2,h3⟩
 ·obtain⟨o,es,ep,ho,r⟩:=hm
  exact⟨o,es,ep,k _ o (Ne.symm hL) ho,r⟩
 ·refine(I.hok b u e).stay (fun c v hc q=>k c v ?_ q) (fun _ q=>q) fun _ _ q=>q
  rcases hc with z|z
  ·rw[z];exact nit b u e
  ·exact nit c _ z
theorem Inv.tok (I:Inv X pins σ H s)(t:Nat):Inv X pins σ H { s with toks:=t }:=I.un (h':=s.heap) (t':=t) Un.refl I.hok
theorem Inv.kept {t':Nat}(I:Inv X pins σ H s)(k:∀ b u,s.heap.get? b=some u->h'.get? b=some u):Inv X pins σ H { s with heap:=h',toks:=t' }:=I.un (Un.kept k) (I.hok.kept k)
theorem Inv.laid {a:Addr}{o:HO}{t':Nat}(I:Inv X pins σ H s)(k:∀ b u,s.heap.get? b=some u->h'.get? b=some u)(hp:s.heap.objs.size<=a)(new:ObjOk X.prog X.w (az H a o) h' a o) :
 Inv X pins σ (az H a o) { s with heap:=h',toks:=t' }:=I.un (Un.laid k hp (I.hok.fresh hp)) (I.hok.laid k hp new)
theorem Inv.write {x e:Addr}{o:HO}{t':Nat}(I:Inv X pins σ H s)(mu:Fu (H x))(he:e=x\/H e=some (.own x))(k:∀ b u,b≠e->s.heap.get? b=some u->h'.get? b=some u)(heo:∃ u,h'.get? e=some u)
 (new:ObjOk X.prog X.w (az H x o) h' x o):Inv X pins σ (az H x o) { s with heap:=h',toks:=t' }:=I.un (Un.write mu he k heo) (I.hok.write mu he k heo new)
theorem Inv.pins_of {pins':List (Addr×Obj)}(I:Inv X pins σ H s)(h:∀ p∈pins',s.heap.get? p.1=some p.2/\H p.1=none/\p.1≠X.env.locals/\p.1∉X.fs/\∀ v,p.2.data≠.cell v):Inv X pins' σ H s:=
 ⟨I.ok,I.os,I.bare,I.base,I.loc,I.cell,I.free,I.freeC,fun p hp=>(List.mem_append.mp hp).elim (fun z=>I.pin p (List.mem_append_left _ z)) (h p),I.hok,I.len⟩
theorem kw {N:List Str}(hN:N.Nodup){i j:Nat}{x:Str}(a:N[i]?=some x)(b:N[j]?=some x):i=j:=by
 obtain⟨h1,e1⟩:=List.getElem?_eq_some_iff.mp a
 obtain⟨h2,e2⟩:=List.getElem?_eq_some_iff.mp b
 exact(List.getElem_inj hN).mp (e1.trans e2.symm)
theorem mN {M:Model}{A:Around}{E:Value->Shared->Prop}{i:Nat}{x:Str}{v:V}{u:Value}{Q:Unit->Shared->Prop}(I:Inv X pins σ H s)(hN:X.N.Nodup)(hi:X.N[i]?=some x)(hx:CK X.env.scope x)(r:RelV v u)
 (h:∀ s',Inv X pins (σ.set i (some v)) H s'->(∃ a,Heap.SameBut a s.heap s'.heap/\(a=X.env.locals\/X.env.cells.lookup x=some a))->Q () s') (hf:X.fn x=true\/X.env.scope.names.lookup x=some .local:=by first|exact .inl rfl|exact .inr rfl|assumption):wpAny M A (storeName X.env x u) Q E s:=by
 obtain⟨m,hn,hl⟩:=id I.loc
 have hcls:(X.env.scope.kind==.class || (X.env.scope.kind==.module&&X.env.locals != X.env.globals))=false:=by rw[I.ok.kind];rfl
 have hiσ:i<σ.length:=by rw[I.len];exact(List.getElem?_eq_some_iff.mp hi).1
 have cne:=I.cne
 have tracked:∀{a:Addr}{h':Heap},(∃ o,s.heap.get? a=some o/\H a=none)->Heap.SameBut a s.heap h'->HOk X.prog X.w H h':=fun{a h'} ha hs b ob e=>by
  obtain⟨_,_,hfree⟩:=ha
  refine(I.hok b ob e).stay (fun c w' hc q=>(hs.2 c ?_).trans q) (fun _ q=>q) fun _ _ q=>q
  rintro rfl
  rcases hc with rfl|hc
  ·rw[hfree]at e;cases e
  ·rw[hfree]at hc;cases hc
 rcases hx with hk|hk
 ·refine wpAny_storeName_local hk hn (fun h' hn' hs=>?_) hcls
  obtain⟨oL,_,_,hoL,_⟩:=id hn
  refine h _ ⟨I.ok,I.os,I.bare,⟨fun b o e n hb hx=>?_,fun b o e n hb hx=>?_,I.base.free,fun b o e hx=>?_,I.base.tups,I.base.frzs,I.base.tbls⟩,⟨_,hn',fun j y v' e1 e2 e3=>?_⟩,fun y c e=>?_,I.free,I.freeC,fun p hp=>?_,tracked ⟨oL,hoL,I.free⟩ hs,by simpa using I.len⟩ ⟨_,hs,.inl rfl⟩
  ·exact(hs.2 b (Nat.ne_of_lt (Nat.lt_of_lt_of_le (Heap.lt_size e) I.ok.above))).trans (I.base.keep b o e n hb hx)
  ·obtain⟨sl,e1⟩:=I.base.slot b o e n hb hx
   exact⟨sl,(hs.2 b (Nat.ne_of_lt (Nat.lt_of_lt_of_le (Heap.lt_size e) I.ok.above))).trans e1⟩
  ·obtain⟨o',e1⟩:=I.base.there b o e hx
   exact⟨o',(hs.2 b (Nat.ne_of_lt (Nat.lt_of_lt_of_le (Heap.lt_size e) I.ok.above))).trans e1⟩
  ·by_cases hj:j=i
   ·subst hj
    rw[hi]at e1;cases e1
    rw[List.getElem?_set_self hiσ]at e2
    cases e2
    exact⟨u,r,.inl ⟨hk,by simp⟩⟩
   ·rw[List.getElem?_set_ne (Ne.symm hj)]at e2
    obtain⟨u',r',q⟩:=hl j y v' e1 e2 e3
    refine⟨u',r',?_⟩
    rcases q with⟨k,e⟩|⟨k,c,e,z⟩
    ·refine .inl ⟨k,?_⟩
     have:y≠x:=fun e=>hj (kw hN e1 (e▸hi))
     simp[this,e]
    ·exact .inr ⟨k,c,e,z.sameBut hs (cne y c e)⟩
  ·obtain⟨w',z⟩:=I.cell y c e
   exact⟨w',z.sameBut hs (cne y c e)⟩
  ·obtain⟨e,n,ne,nf,d⟩:=I.pin p hp
   exact⟨(hs.2 p.1 ne).trans e,n,ne,nf,d⟩
 ·have hfn:X.fn x=true:=by
   rcases hf with z|z
   ·exact z
   ·rw[z]at hk;cases hk
  obtain⟨c,hc⟩:=I.ok.has x (.inl hk)
  obtain⟨w',z⟩:=I.cell x c hc
  refine wpAny_storeName_cell I.ok.kind hk hc z (fun h' hc' hs=>?_)
  obtain⟨oc,hoc,hocd⟩:=id z
  refine h { s with heap:=h' } ⟨I.ok,I.os,I.bare,⟨fun b o e n hb hx=>?_,fun b o e n hb hx=>?_,I.base.free,fun b o e hx=>?_,I.base.tups,I.base.frzs,I.base.tbls⟩,⟨m,hn.sameBut hs (Ne.symm (cne x c hc)),fun j y v' e1 e2 e3=>?_⟩,fun y c' e=>?_,I.free,I.freeC,fun p hp=>?_,tracked ⟨oc,hoc,I.freeC x c hc⟩ hs,by simpa using I.len⟩ ⟨c,hs,.inr hc⟩
  ·exact(hs.2 b (Nat.ne_of_lt (Nat.lt_of_lt_of_le (Heap.lt_size e) (I.ok.cab x c hfn hc)))).trans (I.base.keep b o e n hb hx)
  ·obtain⟨sl,e1⟩:=I.base.slot b o e n hb hx
   exact⟨sl,(hs.2 b (Nat.ne_of_lt (Nat.lt_of_lt_of_le (Heap.lt_size e) (I.ok.cab x c hfn hc)))).trans e1⟩
  ·obtain⟨o',e1⟩:=I.base.there b o e hx
   exact⟨o',(hs.2 b (Nat.ne_of_lt (Nat.lt_of_lt_of_le (Heap.lt_size e) (I.ok.cab x c hfn hc)))).trans e1⟩
  ·by_cases hj:j=i
   ·subst hj
    rw[hi]at e1;cases e1
    rw[List.getElem?_set_self hiσ]at e2
    cases e2
    exact⟨u,r,.inr ⟨.inl hk,c,hc,hc'⟩⟩
   ·rw[List.getElem?_set_ne (Ne.symm hj)]at e2
    obtain⟨u',r',q⟩:=hl j y v' e1 e2 e3
    refine⟨u',r',?_⟩
    rcases q with q|⟨k,c',e,z'⟩
    ·exact .inl q
    ·refine .inr ⟨k,c',e,z'.sameBut hs ?_⟩
     rintro rfl
     exact hj (kw hN e1 (I.ok.inj _ _ _ e hc▸hi))
  ·by_cases hcc:c'=c
   ·subst hcc;exact⟨_,hc'⟩
   ·obtain⟨w2,z2⟩:=I.cell y c' e
    exact⟨w2,z2.sameBut hs hcc⟩
  ·obtain⟨e,n,ne,nf,d⟩:=I.pin p hp
   refine⟨(hs.2 p.1 ?_).trans e,n,ne,nf,d⟩
   intro q
   rw[q,hoc]at e
   have q':oc=p.2:=Option.some.inj e
   exact d w' (by rw[<- q'];exact hocd)
theorem qE {M:Model}{A:Around}{E:Value->Shared->Prop}{i:Nat}{x:Str}{v:V}{u:Value}{Q:Unit->Shared->Prop}(I:Inv X pins σ H s)(hN:X.N.Nodup)(hi:X.N[i]?=some x)(hx:CK X.env.scope x)(r:RelV v u)
 (h:∀ s',Inv X pins (σ.set i (some v)) H s'->Q () s') (hf:X.fn x=true\/X.env.scope.names.lookup x=some .local:=by first|exact .inl rfl|exact .inr rfl|assumption):wpAny M A (storeName X.env x u) Q E s:=
 mN I hN hi hx r (fun s' I' _=>h s' I') hf
theorem Inv.call' {s':Shared}{ch:List Addr}(I:Inv X pins σ H s)(ho:s'.os=s.os)(u:Un (frs X.stack) ch H H' s.heap s'.heap)(hok:HOk X.prog X.w H' s'.heap)(hg:AllBare s'.gens)
 (hch:∀ b∈ch,(b∈X.ex\/X.s₀.heap.objs.size<=b)/\b≠X.env.locals/\(∀ x c,X.env.cells.lookup x=some c->c≠b)/\∀ p∈X.pn++pins,p.1≠b):Inv X pins σ H' s':=by
 obtain⟨h',g',d',t',o'⟩:=s'
 have e:o'=s.os:=ho
 subst e
 exact I.call (g':=g') (t':=t') (d':=d') u hok hg hch
end
abbrev XK:=Value->Option Addr->Hp->Prop
abbrev St:=List (Option V)
abbrev VK:=V->Hp->Prop
abbrev TE:=St->Hp->VK->Prop
abbrev TT:=St->Hp->(Bool->Hp->Prop)->Prop
abbrev TA:=St->Hp->(List V->Hp->Prop)->Prop
structure Ends where
 nx:St->Hp->Prop
 rt:VK
 bk:St->Hp->Prop:=fun _ _=>False
 ct:St->Hp->Prop:=fun _ _=>False
abbrev TS:=Ends->St->Hp->Prop
def EP (X:Cx)(pins:List (Addr×Obj))(σ:St)(Q:VK)(u:Value)(s':Shared):Prop:=∃ v H',Inv X pins σ H' s'/\RelV v u/\Q v H'
def TP (X:Cx)(pins:List (Addr×Obj))(σ:St)(Q:Bool->Hp->Prop)(b:Bool)(s':Shared):Prop:=∃ H',Inv X pins σ H' s'/\Q b H'
def AP (X:Cx)(pins:List (Addr×Obj))(σ:St)(Q:List V->Hp->Prop)(us:List Value)(s':Shared):Prop:=∃ vs H',Inv X pins σ H' s'/\Vals vs us/\Q vs H'
def SP (X:Cx)(pins:List (Addr×Obj))(D:Ends)(f:Flow)(s':Shared):Prop:=
 match f with
 | .next=>∃ σ' H',Inv X pins σ' H' s'/\D.nx σ' H'
 | .brk=>∃ σ' H',Inv X pins σ' H' s'/\D.bk σ' H'
 | .cont=>∃ σ' H',Inv X pins σ' H' s'/\D.ct σ' H'
 | .ret u=>∃ v σ' H',Inv X pins σ' H' s'/\RelV v u/\D.rt v H'
def PE (X:Cx)(e:Expr)(t:TE):Prop:=
 ∀(pins:List (Addr×Obj))(s:Shared)(σ:St)(H:Hp)(Q:VK),Inv X pins σ H s->t σ H Q->wpAny (model X.prog X.w) X.A (eval e X.env) (EP X pins σ Q) X.xe s
def PT (X:Cx)(e:Expr)(t:TT):Prop:=
 ∀(pins:List (Addr×Obj))(s:Shared)(σ:St)(H:Hp)(Q:Bool->Hp->Prop),Inv X pins σ H s->t σ H Q->wpAny (model X.prog X.w) X.A (isTrue e X.env (eval e X.env)) (TP X pins σ Q) X.xe s
def PW (X:Cx)(e:Expr)(t:TT):Prop:=
 ∀(whole:Sem Value)(pins:List (Addr×Obj))(s:Shared)(σ:St)(H:Hp)(Q:Bool->Hp->Prop),Inv X pins σ H s->t σ H Q->wpAny (model X.prog X.w) X.A (isTrue e X.env whole) (TP X pins σ Q) X.xe s
theorem PW.pt {X:Cx}{e:Expr}{t:TT}(h:PW X e t):PT X e t:=h _
def PA (X:Cx)(es:List Expr)(t:TA):Prop:=
 ∀(pos:Pos)(pins:List (Addr×Obj))(s:Shared)(σ:St)(H:Hp)(Q:List V->Hp->Prop),Inv X pins σ H s->t σ H Q->wpAny (model X.prog X.w) X.A (spliced (backTo pos (starEach es X.env))) (AP X pins σ Q) X.xe s
def PS (X:Cx)(st:Stmt)(t:TS):Prop:=
 ∀(pins:List (Addr×Obj))(s:Shared)(σ:St)(H:Hp)(D:Ends),Inv X pins σ H s->t D σ H->wpAny (model X.prog X.w) X.A (exec st X.env) (SP X pins D) X.xe s
def PSs (X:Cx)(st:List Stmt)(t:TS):Prop:=
 ∀(pins:List (Addr×Obj))(s:Shared)(σ:St)(H:Hp)(D:Ends),Inv X pins σ H s->t D σ H->wpAny (model X.prog X.w) X.A (execs st X.env) (SP X pins D) X.xe s
theorem bS {α:Type}{t:Sem α}{Q Q':α->Shared->Prop}{M:Model}{A:Around}{E:Value->Shared->Prop}{s:Shared}(h:wpAny M A t Q E s)(hQ:∀ a s,Q a s->Q' a s):wpAny M A t Q' E s:=wpAny_mono h hQ fun _ _ x=>x
end L2
namespace L2
open PySem PySem.Spec PyProof.Rows
section
variable {X:Cx}
def fS (i:Nat):TE:=fun σ H Q=>∃ v,σ[i]?=some (some v)/\Q v H
def tC (v:V):TE:=fun _ H Q=>Q v H
theorem Dq {i:Nat} {x:Str} {pos:Pos} (hN:X.N[i]?=some x) (hv:Vis X.env.scope x) (hd:(x==("__debug__" : Str))=false:=by decide) (hcd:(x==("__classdict__" : Str))=false:=by decide):PE X (.Name x pos) (fS i):=by
 intro pins s σ H Q I h
 obtain⟨v,e,h⟩:=h
 obtain⟨m,hn,hl⟩:=I.loc
 obtain⟨u,r,l⟩:=hl i x v hN e hv
 have fin:EP X pins σ Q u s:=⟨v,H,I,r,h⟩
 rcases l with⟨hk,hm⟩|⟨hk,c,hc,hcell⟩
 ·exact wpAny_Name (wpAny_loadName_local I.ok.kind hk hn hm fin) hd
 ·rcases hk with hk|hk
  ·exact wpAny_Name (wpAny_loadName_cell I.ok.kind hk hc hcell fin) hd
  ·exact wpAny_Name (wpAny_loadName_free I.ok.kind hk hc hcell fin hcd) hd
theorem xY {i j pos}:PE X (.Constant (.int i) j pos) (tC (.int i)):=fun _ _ _ H _ I h=>wpAny_Constant_int ⟨.int i,H,I.tok _,⟨_,rfl⟩,h⟩
theorem CL {b j pos}:PE X (.Constant (.bool b) j pos) (tC (.bl b)):=fun _ _ _ H _ I h=>Constant_bool ⟨.bl b,H,I,rfl,h⟩
theorem Ds {j pos}:PE X (.Constant .none j pos) (tC .non):=fun _ _ _ H _ I h=>Constant_none ⟨.non,H,I,rfl,h⟩
def Gl (X:Cx)(x:Str):Prop:=X.env.kindOf x=some .globalImplicit
theorem Be {E:Value->Shared->Prop}{pins:List (Addr×Obj)}{s:Shared}{σ:St}{H:Hp}{x:Str}{u:Value}{pos:Pos}{Q:Value->Shared->Prop}(I:Inv X pins σ H s)(hg:Gl X x)(hm:X.mg x=some u)(h:Q u s)
 (hd:(x==("__debug__" : Str))=false:=by decide):wpAny (model X.prog X.w) X.A (eval (.Name x pos) X.env) Q E s:=
 Calls.Name_function_global I.ok.kind hg (Calls.loadGlobal_global (by rw[I.ok.glob];exact I.mod.glob.keeps I.bk) hm h) hd
theorem fW {E:Value->Shared->Prop}{pins:List (Addr×Obj)}{s:Shared}{σ:St}{H:Hp}{x:Str}{u:Value}{pos:Pos}{Q:Value->Shared->Prop}(I:Inv X pins σ H s)(hg:Gl X x)(hm:X.mg x=none)(hv:bootBuiltins x=some u)(h:Q u s)
 (hn:x≠"__name__":=by decide) (hd:(x==("__debug__" : Str))=false:=by decide):wpAny (model X.prog X.w) X.A (eval (.Name x pos) X.env) Q E s:=by
 obtain⟨mb,h1,h2⟩:=I.mod.blt
 exact Calls.Name_function_global I.ok.kind hg (Calls.loadGlobal_builtin (by rw[I.ok.glob];exact I.mod.glob.keeps I.bk) hm (by rw[I.ok.blt];exact h1.keeps I.bk) ((h2 x hn).trans hv) h) hd
theorem Bf {x:Str} {v:V} {u:Value} {pos:Pos} (hg:Gl X x) (hm:X.mg x=none) (hv:bootBuiltins x=some u) (r:RelV v u) (hn:x≠"__name__":=by decide) (hd:(x==("__debug__" : Str))=false:=by decide):PE X (.Name x pos) (tC v):=
 fun _ _ _ H _ I h=>fW I hg hm hv ⟨v,H,I,r,h⟩ hn hd
variable {a b:Expr}{ta tb:TE}{pos:Pos}
def PC (X:Cx)(op:CmpOp)(a b:Expr)(t:TE):Prop:=
 ∀(pins:List (Addr×Obj))(s:Shared)(σ:St)(H:Hp)(Q:VK),Inv X pins σ H s->t σ H Q->
  wpAny (model X.prog X.w) X.A (eval a X.env) (fun v s₁=>wpAny (model X.prog X.w) X.A (eval b X.env) (fun u s₂=>wpAny (model X.prog X.w) X.A (compareOp op v u) (EP X pins σ Q) X.xe s₂) X.xe s₁) X.xe s
theorem qF (b:Expr){op:CmpOp}(h:op≠.In)(h2:op≠.NotIn):behindInMarks op b=false:=by
 have e1:(op==CmpOp.In)=false:=by cases op<;>first|rfl|exact absurd rfl h
 have e2:(op==CmpOp.NotIn)=false:=by cases op<;>first|rfl|exact absurd rfl h2
 cases b<;>simp[behindInMarks,e1,e2]
def GR (ta:TE):TE:=fun σ H Q=>ta σ H fun x H1=>Q (.bl (decide (x=.non))) H1
theorem RelV.none_iff {x:V}{v:Value}(r:RelV x v):(v==Value.none)=decide (x=.non):=by
 cases x with
 |non=>cases r;rfl
 |bl _=>cases r;rfl
 |int _=>obtain⟨t,rfl⟩:=r;rfl
 |str _=>obtain⟨t,rfl⟩:=r;rfl
 |byt _=>obtain⟨t,rfl⟩:=r;rfl
 |flt _=>obtain⟨t,rfl⟩:=r;rfl
 |ref _=>cases r;rfl
 |ty _=>cases r;rfl
theorem xZ {j pos'}(ha:PE X a ta):PC X .Is a (.Constant .none j pos') (GR ta):=by
 intro pins s σ H Q I h
 refine bS (ha pins s σ H _ I h) fun v s1 ⟨x,H1,I1,r1,q1⟩=>?_
 exact Constant_none (is_none_gen ⟨.bl _,H1,I1,by rw[r1.none_iff];rfl,q1⟩)
def tB (t:TE):TT:=fun σ H Q=>t σ H fun x H1=>∃ c,x=.bl c/\Q c H1
theorem Dt {op:CmpOp}{t:TE}(h:PC X op a b t)(h1:behindInMarks op b=false:=by first|exact qF _ (by decide) (by decide)|rfl):PE X (.Compare a [op] [b] pos) t:=fun pins s σ H Q I hw=>wpAny_Compare1 (h pins s σ H Q I hw) h1
theorem Du {op:CmpOp}{t:TE}(h:PC X op a b t)(h1:behindInMarks op b=false:=by first|exact qF _ (by decide) (by decide)|rfl):PT X (.Compare a [op] [b] pos) (tB t):=by
 intro pins s σ H Q I hw
 refine wpAny_isTrue_Compare1 (bS (h pins s σ H _ I hw) fun v s1 h1=>bS h1 fun u s2 h2=>bS h2 fun c s3 ⟨x,H1,I1,r1,q1⟩=>?_) h1
 obtain⟨d,rfl,q⟩:=q1
 cases r1
 exact wpAny_truthy_bool ⟨H1,I1,q⟩
variable {tA tB':TT}{aQ:List Expr}
def GS (t u:TT):TT:=fun σ H Q=>t σ H fun c H1=>if c=true then u σ H1 Q else Q false H1
def HN (t u:TT):TT:=fun σ H Q=>t σ H fun c H1=>if c=true then Q true H1 else u σ H1 Q
def GT (t:TT):TT:=fun σ H Q=>t σ H fun c H1=>Q (!c) H1
theorem Bg (ha:PT X a tA):PW X (.BoolOp .And [a] pos) tA:=by
 intro wh pins s σ H Q I h
 refine isTrue_and (bS (ha pins s σ H Q I h) fun c s1 e=>?_)
 cases c with
 |true=>exact isTrue_and_nil e
 |false=>exact e
theorem Dv (ha:PT X a tA):PW X (.BoolOp .Or [a] pos) tA:=by
 intro wh pins s σ H Q I h
 refine isTrue_or (bS (ha pins s σ H Q I h) fun c s1 e=>?_)
 cases c with
 |false=>exact isTrue_or_nil e
 |true=>exact e
theorem Dw (ha:PT X a tA)(hb:PW X (.BoolOp .And (b::aQ) pos) tB'):PW X (.BoolOp .And (a::b::aQ) pos) (GS tA tB'):=by
 intro wh pins s σ H Q I h
 refine isTrue_and (bS (ha pins s σ H _ I h) fun c s1 ⟨H1,I1,q1⟩=>?_)
 cases c with
 |true=>exact hb wh pins s1 σ H1 Q I1 q1
 |false=>exact⟨H1,I1,q1⟩
theorem FA (ha:PT X a tA)(hb:PW X (.BoolOp .Or (b::aQ) pos) tB'):PW X (.BoolOp .Or (a::b::aQ) pos) (HN tA tB'):=by
 intro wh pins s σ H Q I h
 refine isTrue_or (bS (ha pins s σ H _ I h) fun c s1 ⟨H1,I1,q1⟩=>?_)
 cases c with
 |true=>exact⟨H1,I1,q1⟩
 |false=>exact hb wh pins s1 σ H1 Q I1 q1
theorem Dx (ha:PT X a tA):PT X (.UnaryOp .Not a pos) (GT tA):=by
 intro pins s σ H Q I h
 exact isTrue_not (ha pins s σ H (fun c H1=>Q (!c) H1) I h)
def FC (ta tb:TE):TE:=fun σ H Q=>ta σ H fun x H1=>∃ c,x=.bl c/\if c=true then tb σ H1 Q else Q (.bl false) H1
def GU (ta tb:TE):TE:=fun σ H Q=>ta σ H fun x H1=>∃ c,x=.bl c/\if c=true then Q (.bl true) H1 else tb σ H1 Q
def FD (ta:TE):TE:=fun σ H Q=>ta σ H fun x H1=>∃ c,x=.bl c/\Q (.bl (!c)) H1
theorem Dy {op}{t:TE}(h:PE X a t):PE X (.BoolOp op [a] pos) t:=fun pins s σ H Q I hw=>BoolOp_one (h pins s σ H Q I hw)
theorem Dz (ha:PE X a ta)(hb:PE X (.BoolOp .And (b::aQ) pos) tb):PE X (.BoolOp .And (a::b::aQ) pos) (FC ta tb):=by
 intro pins s σ H Q I h
 refine BoolOp_and (bS (ha pins s σ H _ I h) fun v s1 ⟨x,H1,I1,r1,q1⟩=>?_)
 obtain⟨c,rfl,q1⟩:=q1
 cases r1
 refine wpAny_truthy_bool ?_
 cases c with
 |true=>exact hb pins s1 σ H1 Q I1 q1
 |false=>exact⟨.bl false,H1,I1,rfl,q1⟩
theorem FE (ha:PE X a ta)(hb:PE X (.BoolOp .Or (b::aQ) pos) tb):PE X (.BoolOp .Or (a::b::aQ) pos) (GU ta tb):=by
 intro pins s σ H Q I h
 refine BoolOp_or (bS (ha pins s σ H _ I h) fun v s1 ⟨x,H1,I1,r1,q1⟩=>?_)
 obtain⟨c,rfl,q1⟩:=q1
 cases r1
 refine wpAny_truthy_bool ?_
 cases c with
 |false=>exact hb pins s1 σ H1 Q I1 q1
 |true=>exact⟨.bl true,H1,I1,rfl,q1⟩
theorem DA (ha:PE X a ta):PE X (.UnaryOp .Not a pos) (FD ta):=by
 intro pins s σ H Q I h
 refine UnaryOp_ (bS (ha pins s σ H _ I h) fun v s1 ⟨x,H1,I1,r1,q1⟩=>?_)
 obtain⟨c,rfl,q1⟩:=q1
 cases r1
 exact not_of (wpAny_truthy_bool ⟨.bl (!c),H1,I1,rfl,q1⟩)
end
end L2
namespace L2
open PySem PySem.Spec PyProof.Rows
def SqL (K:PySem.W.Frag)(H:Hp)(a:Addr)(xs:List V):Prop:=
 Rd H a (.lst xs)\/
  ∃(o:Obj)(its:Array Value)(n:Nat),K.lookup a=some o/\o.cls=.type "list"/\o.dict=none/\o.data=.seq its n/\its.size<=sizeLine/\Vals xs its.toList
def SqT (K:PySem.W.Frag)(H:Hp)(a:Addr)(xs:List V):Prop:=
 Rd H a (.tup xs)\/
  ∃(o:Obj)(its:Array Value)(n:Nat),K.lookup a=some o/\o.cls=.type "tuple"/\o.data=.seq its n/\its.size<=sizeLine/\Vals xs its.toList
def GV:Value->Option V
 | .none=>some .non
 | .bool b=>some (.bl b)
 | .int i _=>some (.int i)
 | .str x _=>some (.str x)
 | .bytes b _=>some (.byt b)
 | .float b _=>some (.flt b)
 | .ref a=>some (.ref a)
 | .type n=>some (.ty n)
 |_=>none
theorem RelV.abs {x:V}{u:Value}(r:RelV x u):GV u=some x:=by
 cases x with
 |non=>cases r;rfl
 |bl _=>cases r;rfl
 |int _=>obtain⟨t,rfl⟩:=r;rfl
 |str _=>obtain⟨t,rfl⟩:=r;rfl
 |byt _=>obtain⟨t,rfl⟩:=r;rfl
 |flt _=>obtain⟨t,rfl⟩:=r;rfl
 |ref _=>cases r;rfl
 |ty _=>cases r;rfl
theorem RelV.inj {x y:V}{u:Value}(r:RelV x u)(q:RelV y u):x=y:=Option.some.inj (r.abs.symm.trans q.abs)
theorem Vals.inj:∀{xs ys:List V}{us:List Value},Vals xs us->Vals ys us->xs=ys
 |_,_,_,.nil,.nil=>rfl
 |_,_,_,.cons r t,.cons r' t'=>by rw[r.inj r',Vals.inj t t']
section
variable {X:Cx}{pins:List (Addr×Obj)}{σ:St}{H:Hp}{s:Shared}{a:Addr}{xs ys:List V}
theorem SqL.of {K:PySem.W.Frag}(h:H a=some (.lst xs)):SqL K H a xs:=.inl (.inl h)
theorem SqT.of {K:PySem.W.Frag}(h:H a=some (.tup xs)):SqT K H a xs:=.inl (.inl h)
theorem Inv.list (I:Inv X pins σ H s)(h:SqL X.K H a xs):∃ its:List Value,Vals xs its/\PlainL s.heap a its.toArray/\xs.length<=sizeLine:=by
 rcases h with h|⟨o,its,n,hk,hc,hd,hs,hz,r⟩
 ·obtain⟨z,its,n,r,e⟩:=h.ok I.hok
  exact⟨its,r,⟨_,n,e,rfl,rfl,rfl⟩,z⟩
 ·refine⟨its.toList,r,⟨o,n,I.kIn a o hk,hc,hd,by simpa using hs⟩,?_⟩
  have e:=r.length
  simp only[Array.length_toList]at e
  omega
theorem Inv.tuple (I:Inv X pins σ H s)(h:SqT X.K H a xs):∃ its:List Value,Vals xs its/\IsTup s.heap a its.toArray/\xs.length<=sizeLine:=by
 rcases h with h|⟨o,its,n,hk,hc,hs,hz,r⟩
 ·obtain⟨z,its,r,p⟩:=h.ok I.hok
  exact⟨its,r,p,z⟩
 ·refine⟨its.toList,r,⟨o,I.kIn a o hk,hc,n,by simpa using hs⟩,?_⟩
  have e:=r.length
  simp only[Array.length_toList]at e
  omega
theorem Inv.list_inj (I:Inv X pins σ H s)(h:SqL X.K H a xs)(h':SqL X.K H a ys):xs=ys:=by
 obtain⟨its,r,⟨o,n,e,_,_,d⟩,_⟩:=I.list h
 obtain⟨its',r',⟨o',n',e',_,_,d'⟩,_⟩:=I.list h'
 rw[e]at e';cases e'
 rw[d]at d'
 injection d' with d1 _
 have:its=its':=by simpa using congrArg Array.toList d1
 subst this
 exact r.inj r'
theorem Inv.tuple_inj (I:Inv X pins σ H s)(h:SqT X.K H a xs)(h':SqT X.K H a ys):xs=ys:=by
 obtain⟨its,r,⟨o,e,_,n,d⟩,_⟩:=I.tuple h
 obtain⟨its',r',⟨o',e',_,n',d'⟩,_⟩:=I.tuple h'
 rw[e]at e';cases e'
 rw[d]at d'
 injection d' with d1 _
 have:its=its':=by simpa using congrArg Array.toList d1
 subst this
 exact r.inj r'
end
abbrev Cx.wish (X:Cx)(E:Value->Shared->Prop):Cx:={ X with xe:=E }
abbrev Cx.nox (X:Cx):Cx:=X.wish fun _ _=>False
theorem Cx.Ok.wish {X:Cx}(ok:X.Ok)(E:Value->Shared->Prop):(X.wish E).Ok:=
 ⟨ok.mod,ok.kind,ok.glob,ok.blt,ok.above,ok.inj,ok.has,ok.cab,ok.hd,ok.frames,ok.stk,ok.exf,ok.bs,ok.bsz,ok.noex,ok.exfs,ok.funs,ok.frf⟩
theorem Cx.Ok.unwish {X:Cx}{E:Value->Shared->Prop}(ok:(X.wish E).Ok):X.Ok:=
 ⟨ok.mod,ok.kind,ok.glob,ok.blt,ok.above,ok.inj,ok.has,ok.cab,ok.hd,ok.frames,ok.stk,ok.exf,ok.bs,ok.bsz,ok.noex,ok.exfs,ok.funs,ok.frf⟩
section
variable {X:Cx}{pins:List (Addr×Obj)}{σ:St}{H:Hp}{s:Shared}{E:Value->Shared->Prop}
theorem Inv.wish (I:Inv X pins σ H s)(E:Value->Shared->Prop):Inv (X.wish E) pins σ H s:=⟨I.ok.wish E,I.os,I.bare,I.base,I.loc,I.cell,I.free,I.freeC,I.pin,I.hok,I.len⟩
theorem Inv.unwish (I:Inv (X.wish E) pins σ H s):Inv X pins σ H s:=⟨I.ok.unwish,I.os,I.bare,I.base,I.loc,I.cell,I.free,I.freeC,I.pin,I.hok,I.len⟩
theorem SP.unwish {D:Ends}{f:Flow}{s':Shared}(h:SP (X.wish E) pins D f s'):SP X pins D f s':=by
 cases f with
 |next=>obtain⟨σ',H',I,q⟩:=h;exact⟨σ',H',I.unwish,q⟩
 |brk=>obtain⟨σ',H',I,q⟩:=h;exact⟨σ',H',I.unwish,q⟩
 |cont=>obtain⟨σ',H',I,q⟩:=h;exact⟨σ',H',I.unwish,q⟩
 |ret u=>obtain⟨v,σ',H',I,r,q⟩:=h;exact⟨v,σ',H',I.unwish,r,q⟩
theorem PSs.nox {st:List Stmt}{t:TS}(h:PSs X.nox st t):PSs X st t:=fun pins s σ H D I hw=>
 wpAny_mono (h pins s σ H D (I.wish _) hw) (fun _ _ q=>q.unwish) fun _ _ z=>False.elim z
end
section
variable {X:Cx}{st:Stmt}{aQ:List Stmt}{t u:TS}{e:Expr}{te:TE}{pos:Pos}
def FF:TS:=fun D σ H=>D.nx σ H
def GW (t u:TS):TS:=fun D σ H=>t { D with nx:=u D } σ H
theorem Bh:PSs X [] FF:=fun _ _ σ H _ I h=>wpAny_execs_nil ⟨σ,H,I,h⟩
theorem x4 (h1:PS X st t)(h2:PSs X aQ u):PSs X (st::aQ) (GW t u):=by
 intro pins s σ H D I h
 refine wpAny_execs_cons (bS (h1 pins s σ H { D with nx:=u D } I h) fun f s1 q=>?_)
 cases f with
 |next=>
  obtain⟨σ',H',I',q⟩:=q
  exact h2 pins s1 σ' H' D I' q
 |ret v=>exact q
 |brk=>exact q
 |cont=>exact q
theorem vv (h1:PS X st t):PSs X [st] t:=by
 intro pins s σ H D I h
 refine wpAny_execs_cons (bS (h1 pins s σ H D I h) fun f s1 q=>?_)
 cases f with
 |next=>exact wpAny_execs_nil q
 |ret v=>exact q
 |brk=>exact q
 |cont=>exact q
def DB:TS:=fun D σ H=>D.bk σ H
theorem x5:PS X (.Break pos) DB:=fun _ _ σ H _ I h=>wpAny_Break ⟨σ,H,I,h⟩
theorem Inv.quiet {pins:List (Addr×Obj)}{σ:St}{H:Hp}{s:Shared}(I:Inv X pins σ H s):interactive X.env=false:=by simp[interactive,I.ok.kind]
def FG (te:TE):TS:=fun D σ H=>te σ H fun _ H1=>D.nx σ H1
theorem nW (he:PE X e te)(hs:swapsWith e none pos.line X.env=pure false:=by rfl):PS X (.Expr e pos) (FG te):=by
 intro pins s σ H D I h
 exact wpAny_Expr_any (bS (he pins s σ H _ I h) fun v s1 ⟨x,H1,I1,r1,q1⟩=>⟨σ,H1,I1,q1⟩) I.quiet hs
def GX (te:TE):TS:=fun D σ H=>te σ H D.rt
theorem x8 (he:PE X e te):PS X (.Return (some e) pos) (GX te):=by
 intro pins s σ H D I h
 exact wpAny_Return_some (bS (he pins s σ H _ I h) fun v s1 ⟨x,H1,I1,r1,q1⟩=>⟨x,σ,H1,I1,r1,q1⟩)
def GY (c:TT)(t u:TS):TS:=fun D σ H=>c σ H fun b H1=>if b=true then t D σ H1 else u D σ H1
theorem FH {c:Expr}{a b:List Stmt}{tc:TT}(hc:PT X c tc)(ha:PSs X a t)(hb:PSs X b u):PS X (.If c a b pos) (GY tc t u):=by
 intro pins s σ H D I h
 refine wpAny_If (bS (hc pins s σ H _ I h) fun d s1 ⟨H1,I1,q1⟩=>?_)
 cases d with
 |true=>exact ha pins s1 σ H1 D I1 q1
 |false=>exact hb pins s1 σ H1 D I1 q1
end
abbrev TG:=V->St->Hp->(St->Hp->Prop)->Prop
abbrev CM:=List V->St->Hp->(St->Hp->Prop)->Prop
def PG (X:Cx)(target:Expr)(t:TG):Prop:=
 ∀(pins:List (Addr×Obj))(s:Shared)(σ:St)(H:Hp)(v:V)(u:Value)(Q:St->Hp->Prop),Inv X pins σ H s->RelV v u->t v σ H Q->
  wpAny (model X.prog X.w) X.A (assign target X.env u) (fun _ s'=>∃ σ' H',Inv X pins σ' H' s'/\Q σ' H') X.xe s
def DC (X:Cx)(ts:List Expr)(t:CM):Prop:=
 ∀(pins:List (Addr×Obj))(s:Shared)(σ:St)(H:Hp)(vs:List V)(us:List Value)(Q:St->Hp->Prop),Inv X pins σ H s->Vals vs us->t vs σ H Q->
  wpAny (model X.prog X.w) X.A (assignInOrder ((assignEach ts X.env).map (·.2)) us) (fun _ s'=>∃ σ' H',Inv X pins σ' H' s'/\Q σ' H') X.xe s
abbrev DD:=V->V->V->Hp->(Hp->Prop)->Prop
def FI (X:Cx)(t:DD):Prop:=
 ∀(pins:List (Addr×Obj))(s:Shared)(σ:St)(H:Hp)(o i v:V)(ov iv u:Value)(Q:Hp->Prop),Inv X pins σ H s->RelV o ov->RelV i iv->RelV v u->t o i v H Q->
  wpAny (model X.prog X.w) X.A (setItem ov iv u) (fun _ s'=>∃ H',Inv X pins σ H' s'/\Q H') X.xe s
section
variable {X:Cx}{pos:Pos}
def jC (i:Nat):TG:=fun v σ H Q=>Q (σ.set i (some v)) H
theorem j6 {i:Nat}{x:Str}(hN:X.N.Nodup)(hi:X.N[i]?=some x)(hx:CK X.env.scope x)(hf:X.fn x=true\/X.env.scope.names.lookup x=some .local:=by first|exact .inl rfl|exact .inr rfl|assumption):PG X (.Name x pos) (jC i):=by
 intro pins s σ H v u Q I r h
 exact wpAny_assign_Name (qE I hN hi hx r (fun s' I'=>⟨_,H,I',h⟩) hf)
def FJ:CM:=fun vs σ H Q=>vs=[]/\Q σ H
def qG (t:TG)(u:CM):CM:=fun vs σ H Q=>∃ v r,vs=v::r/\t v σ H fun σ' H'=>u r σ' H' Q
theorem vw:DC X [] FJ:=by
 intro pins s σ H vs us Q I r h
 obtain⟨e,h⟩:=h
 subst e
 cases r
 exact assignInOrder_nil ⟨σ,H,I,h⟩
theorem dh {e:Expr}{es:List Expr}{t:TG}{u:CM}(h1:PG X e t)(h2:DC X es u)
 (hs:(assignEach (e::es) X.env).map (·.2)=assign e X.env::(assignEach es X.env).map (·.2):=by rfl):DC X (e::es) (qG t u):=by
 intro pins s σ H vs us Q I r h
 obtain⟨v,vr,e1,h⟩:=h
 subst e1
 cases r with
 |cons r rr=>
  rw[hs]
  refine assignInOrder_cons (bS (h1 pins s σ H _ _ _ I r h) fun _ s1 ⟨σ1,H1,I1,q1⟩=>?_)
  exact h2 pins s1 σ1 H1 _ _ Q I1 rr q1
def FK (K:PySem.W.Frag)(n:Nat)(t:CM):TG:=fun v σ H Q=>∃ a xs,v=.ref a/\SqT K H a xs/\xs.length=n/\t xs σ H Q
theorem x9 {es:List Expr}{k:Nat}{t:CM}{n:Nat}(hc:X.calm=true)(h:DC X es t)
 (hn:(assignEach es X.env).length=n:=by rfl) (hst:(assignEach es X.env).findIdx? (·.1)=none:=by rfl):PG X (.Tuple es k pos) (FK X.K n t):=by
 intro pins s σ H v u Q I r hw
 obtain⟨a,xs,e1,hq,hl,hw⟩:=hw
 subst e1
 cases r
 obtain⟨its,rv,ht,hz⟩:=I.tuple hq
 refine assign_Tuple_tuple (I.ok.hd hc) ht (by simp[hn,<- hl,rv.length]) hst fun h' hx=>?_
 have I1:Inv X pins σ H { s with heap:=h' }:=I.kept (t':=s.toks) fun b o e=>hx b o (Nat.ne_of_lt (Heap.lt_size e)) e
 exact h pins _ σ H xs _ Q I1 (by simpa using rv) hw
def GZ (to ti:TE)(t:DD):TG:=fun v σ H Q=>to σ H fun o H1=>ti σ H1 fun i H2=>t o i v H2 fun H3=>Q σ H3
theorem DE {o i:Expr}{to ti:TE}{t:DD}(ho:PE X o to)(hi:PE X i ti)(hs:FI X t)
 (ha:∀ v,assign (.Subscript o i pos) X.env v=(do
   let ov <- holding [v] (eval o X.env)
   let iv <- holding [v,ov] (eval i X.env)
   standAt pos
   holding [v,ov,iv] (setItem ov iv v)
   release [v,ov,iv] []):=by intro _;rfl):PG X (.Subscript o i pos) (GZ to ti t):=by
 intro pins s σ H v u Q I r h
 rw[ha]
 refine wpAny_bind (wpAny_holding (bS (ho pins s σ H _ I h) fun ov s1 ⟨x,H1,I1,r1,q1⟩=>?_))
 refine wpAny_bind (wpAny_holding (bS (hi pins s1 σ H1 _ I1 q1) fun iv s2 ⟨y,H2,I2,r2,q2⟩=>?_))
 refine wpAny_bind (wpAny_standAt (wpAny_bind (wpAny_holding (bS (hs pins s2 σ H2 x y v ov iv u _ I2 r1 r2 r q2) fun _ s3 ⟨H3,I3,q3⟩=>?_))))
 exact wpAny_release ⟨σ,H3,I3,q3⟩
def Bi (te:TE)(g:TG):TS:=fun D σ H=>te σ H fun x H1=>g x σ H1 D.nx
theorem DF {tg e:Expr}{te:TE}{g:TG}(he:PE X e te)(hg:PG X tg g)(hs:swapsWithSole [tg] e pos.line X.env=pure false:=by rfl)(hw:swappedStores [tg] e X.env=pure none:=by rfl)
 (h1:(assignEach [tg] X.env).map (·.2)=[assign tg X.env]:=by rfl):PS X (.Assign [tg] e pos) (Bi te g):=by
 intro pins s σ H D I h
 refine wpAny_Assign_stores (bS (he pins s σ H _ I h) fun v s1 ⟨x,H1,I1,r1,q1⟩=>?_) hs hw
 rw[h1]
 exact bS (hg pins s1 σ H1 x v _ I1 r1 q1) fun _ s2 q=>q
theorem sI {i:Nat}{x:Str}{e:Expr}{te:TE}{pos':Pos}(hN:X.N.Nodup)(hi:X.N[i]?=some x)(hx:CK X.env.scope x)(he:PE X e te)(hs:swapsWith e (some (.Name x pos')) pos.line X.env=pure false:=by rfl)(hf:X.fn x=true\/X.env.scope.names.lookup x=some .local:=by first|exact .inl rfl|exact .inr rfl|assumption) :
 PS X (.Assign [.Name x pos'] e pos) (Bi te (jC i)):=by
 intro pins s σ H D I h
 refine wpAny_Assign_Name (bS (he pins s σ H _ I h) fun v s1 ⟨y,H1,I1,r1,q1⟩=>?_) hs
 exact qE I1 hN hi hx r1 (fun s2 I2=>⟨_,H1,I2,q1⟩) hf
end
section
variable {X:Cx}{pos:Pos}
end
structure It where
 go:Nat->Hp->Prop
 yld:Nat->Hp->V->Hp->Prop
 stop:Nat->Hp->Prop
def FpOk (X:Cx)(pins:List (Addr×Obj))(H:Hp)(b:Addr):Prop:=
 H b=none/\b≠X.env.locals/\b∉X.fs/\(b∈X.ex\/X.s₀.heap.objs.size<=b)/\(∀ x c,X.env.cells.lookup x=some c->c≠b)/\∀ p∈X.pn++pins,p.1≠b
theorem Inv.fpOk {X:Cx}{pins:List (Addr×Obj)}{σ:St}{H H':Hp}{s:Shared}{b:Addr}(I:Inv X pins σ H s)(hb:s.heap.objs.size<=b)(hn:H' b=none):FpOk X pins H' b:=by
 refine⟨hn,Nat.ne_of_gt (Nat.lt_of_lt_of_le I.lt hb),I.nofs hb,.inr (Nat.le_trans I.sz hb),fun x c e z=>?_,fun p hp z=>?_⟩
 ·obtain⟨v,q⟩:=I.cell x c e
  exact absurd (Nat.lt_of_lt_of_le q.lt (by rw[z];exact hb)) (Nat.lt_irrefl _)
 ·exact absurd (Nat.lt_of_lt_of_le (Heap.lt_size (I.pin p hp).1) (by rw[z];exact hb)) (Nat.lt_irrefl _)
structure Turn (P:Program) (w:World) (K:PySem.W.Frag) (tg:Expr) (J:It) (fp:List Addr) (it:Addr) (tn:Nat->Heap->Prop):Prop where
 mem:it∈fp
 obj:∀ i h,tn i h->∀ b∈fp,∃ o,h.get? b=some o/\∀ v,o.data≠.cell v
 keep:∀ i h h',tn i h->(∀ b∈fp,∀ o,h.get? b=some o->h'.get? b=some o)->tn i h'
 item:∀(X:Cx),X.prog=P->X.w=w->X.K=K->X.calm=true->∀(i:Nat)(pins:List (Addr×Obj))(s:Shared)(σ:St)(H:Hp)(E:Value->Shared->Prop),Inv X pins σ H s->(∀ b∈fp,FpOk X pins H b)->tn i s.heap->J.go i H->
  wpAny (model P w) X.A (pyNext (.ref it)) (fun r s1=>∃ u,r=some u/\
   wpAny (model P w) X.A (letOwnedTupleGo tg (.ref it) u) (fun _ s2=>∃ x H',Inv X pins σ H' s2/\RelV x u/\J.yld i H x H'/\tn (i+1) s2.heap/\∀ b∈fp,H' b=none) E s1) E s
 done:∀(X:Cx),X.prog=P->X.w=w->X.K=K->X.calm=true->∀(i:Nat)(pins:List (Addr×Obj))(s:Shared)(σ:St)(H:Hp)(E:Value->Shared->Prop),Inv X pins σ H s->(∀ b∈fp,FpOk X pins H b)->tn i s.heap->J.stop i H->
  wpAny (model P w) X.A (pyNext (.ref it)) (fun r s1=>r=none/\Inv X pins σ H s1) E s
 self:∀(A:Around)(i:Nat)(s:Shared)(Q:Value->Shared->Prop)(E:Value->Shared->Prop),tn i s.heap->Q (.ref it) s->wpAny (model P w) A (pyIter (.ref it)) Q E s
abbrev TI:=St->Hp->(It->Hp->Prop)->Prop
def GH (X:Cx)(pins:List (Addr×Obj))(σ:St)(tg:Expr)(R:It->Hp->Prop)(itv:Value)(s2:Shared):Prop:=
 ∃(it:Addr)(fp:List Addr)(tn:Nat->Heap->Prop)(J:It)(H':Hp),itv=.ref it/\Inv X pins σ H' s2/\Turn X.prog X.w X.K tg J fp it tn/\tn 0 s2.heap/\(∀ b∈fp,FpOk X pins H' b)/\R J H'
def PI (X:Cx)(tg iter:Expr)(wi:TI):Prop:=
 ∀(pins:List (Addr×Obj))(s:Shared)(σ:St)(H:Hp)(R:It->Hp->Prop),Inv X pins σ H s->wi σ H R->
  wpAny (model X.prog X.w) X.A (eval iter X.env) (fun v s1=>wpAny (model X.prog X.w) X.A (pyIter v) (GH X pins σ tg R) X.xe s1) X.xe s
theorem qH {M:Model}{A:Around}{E:Value->Shared->Prop}{s:Shared}{tg:Expr}{it:Addr}{u:Value}{o:Obj}{n:String}{vs:Array Value}{Q:Unit->Shared->Prop}(ho:s.heap.get? it=some o)(hc:o.cls=.type n)(hd:o.data=.fields vs)
 (hn:["enumerate", "zip", "dict_itemiterator", "dict_reverseitemiterator", "odict_iterator", "itertools.zip_longest", "itertools.pairwise"].contains n=false) (hQ:Q () s):wpAny M A (letOwnedTupleGo tg (.ref it) u) Q E s:=by
 unfold letOwnedTupleGo
 cases tg<;>first
  |exact wpAny_pure hQ
  |(cases u<;>first
     |exact wpAny_pure hQ
     |(refine wpAny_bind (wpAny_load ho ?_)
       rw[hc,hd]
       show wpAny M A (if (["enumerate", "zip", "dict_itemiterator", "dict_reverseitemiterator", "odict_iterator", "itertools.zip_longest", "itertools.pairwise"].contains n&&vs[0]?==some (rawInt _))=true then _ else _) Q E s
       rw[if_neg (by intro h;rw[hn,Bool.false_and]at h;cases h)]
       exact wpAny_pure hQ))
def Fv (K:PySem.W.Frag)(a:Addr):It:=
 ⟨fun i H=>∃ xs x,SqL K H a xs/\xs[i]?=some x,fun i H x H'=>H'=H/\∀ xs,SqL K H a xs->xs[i]?=some x,fun i H=>∃ xs,SqL K H a xs/\xs.length<=i⟩
def G0 (K:PySem.W.Frag)(a:Addr):It:=
 ⟨fun i H=>∃ xs x,SqT K H a xs/\xs[i]?=some x,fun i H x H'=>H'=H/\∀ xs,SqT K H a xs->xs[i]?=some x,fun i H=>∃ xs,SqT K H a xs/\xs.length<=i⟩
def GI (lo:Int)(n:Nat):It:=⟨fun i _=>i<n,fun i H x H'=>H'=H/\x=.int (lo+i),fun i _=>n<=i⟩
theorem wJ {P:Program}{w:World}{K:PySem.W.Frag}{tg:Expr}(a it:Addr):Turn P w K tg (Fv K a) [it] it (fun i h=>h.IsListIter it a i) where
 mem:=by simp
 obj:=fun i h st b hb=>by
  have e:b=it:=by simpa using hb
  subst e
  obtain⟨o,e,c,d⟩:=st
  exact⟨o,e,fun v z=>by rw[d]at z;cases z⟩
 keep:=fun i h h' st k=>st.at fun o e=>k it (by simp) o e
 item:=by
  intro X hP hw hK hc i pins s σ H E I hf st hg
  subst hP hw hK
  obtain⟨xs,x,hq,hx⟩:=hg
  obtain⟨its,rv,p,hz⟩:=I.list hq
  obtain⟨u,hu,ru⟩:=rv.get hx
  obtain⟨f0,f1,f2,f3,f4,f5⟩:=hf it (by simp)
  refine wpAny_pyNext_list_item st p.isList (x:=u) (by simpa using hu) fun h' st' sb=>?_
  have I1:Inv X pins σ H { s with heap:=h' }:=I.turned (t':=s.toks) (fun b o hb e=>(sb.2 b hb).trans e) f0 f1 f3 f4 f5
  obtain⟨o,e,c,d⟩:=id st'
  exact⟨u,rfl,qH (s:={ s with heap:=h' }) e c d (by decide) ⟨x,H,I1,ru,⟨rfl,fun ys hy=>by rw[I.list_inj hy hq];exact hx⟩,st',fun b hb=>(hf b hb).1⟩⟩
 done:=by
  intro X hP hw hK hc i pins s σ H E I hf st hg
  subst hP hw hK
  obtain⟨xs,hq,hx⟩:=hg
  obtain⟨its,rv,p,hz⟩:=I.list hq
  obtain⟨f0,f1,f2,f3,f4,f5⟩:=hf it (by simp)
  have hl:=rv.length
  exact wpAny_pyNext_list_end (I.ok.hd hc) st p.isList (by simp;omega) fun h' eb=>⟨rfl,I.turned (t':=s.toks) (fun b o hb e=>eb b o hb e) f0 f1 f3 f4 f5⟩
 self:=fun _ _ _ _ _ st h=>wpAny_pyIter_listiter st h
theorem sJ {P:Program}{w:World}{K:PySem.W.Frag}{tg:Expr}(a it:Addr):Turn P w K tg (G0 K a) [it] it (fun i h=>h.IsTupleIter it a i) where
 mem:=by simp
 obj:=fun i h st b hb=>by
  have e:b=it:=by simpa using hb
  subst e
  obtain⟨o,e,c,d⟩:=st
  exact⟨o,e,fun v z=>by rw[d]at z;cases z⟩
 keep:=fun i h h' st k=>st.at fun o e=>k it (by simp) o e
 item:=by
  intro X hP hw hK hc i pins s σ H E I hf st hg
  subst hP hw hK
  obtain⟨xs,x,hq,hx⟩:=hg
  obtain⟨its,rv,p,hz⟩:=I.tuple hq
  obtain⟨u,hu,ru⟩:=rv.get hx
  obtain⟨f0,f1,f2,f3,f4,f5⟩:=hf it (by simp)
  refine wpAny_pyNext_tuple_item st (show s.heap.IsTuple a its.toArray from p) (x:=u) (by simpa using hu) fun h' st' sb=>?_
  have I1:Inv X pins σ H { s with heap:=h' }:=I.turned (t':=s.toks) (fun b o hb e=>(sb.2 b hb).trans e) f0 f1 f3 f4 f5
  obtain⟨o,e,c,d⟩:=id st'
  exact⟨u,rfl,qH (s:={ s with heap:=h' }) e c d (by decide) ⟨x,H,I1,ru,⟨rfl,fun ys hy=>by rw[I.tuple_inj hy hq];exact hx⟩,st',fun b hb=>(hf b hb).1⟩⟩
 done:=by
  intro X hP hw hK hc i pins s σ H E I hf st hg
  subst hP hw hK
  obtain⟨xs,hq,hx⟩:=hg
  obtain⟨its,rv,p,hz⟩:=I.tuple hq
  obtain⟨f0,f1,f2,f3,f4,f5⟩:=hf it (by simp)
  have hl:=rv.length
  exact wpAny_pyNext_tuple_end (I.ok.hd hc) st (show s.heap.IsTuple a its.toArray from p) (by simp;omega) fun h' eb=>⟨rfl,I.turned (t':=s.toks) (fun b o hb e=>eb b o hb e) f0 f1 f3 f4 f5⟩
 self:=fun _ _ _ _ _ st h=>wpAny_pyIter_tupleiter st h
theorem sK {P:Program}{w:World}{K:PySem.W.Frag}{tg:Expr}(it:Addr)(lo:Int)(n:Nat):Turn P w K tg (GI lo n) [it] it (fun i h=>IsRangeIter h it (lo+(i:Nat)*1) ((n:Int)-(i:Nat)) 1) where
 mem:=by simp
 obj:=fun i h st b hb=>by
  have e:b=it:=by simpa using hb
  subst e
  exact⟨_,st,fun v z=>by
   have z':Data.fields _=Data.cell v:=z
   cases z'⟩
 keep:=fun i h h' st k=>k it (by simp) _ st
 item:=by
  intro X hP hw hK hc i pins s σ H E I hf st hg
  subst hP hw hK
  obtain⟨f0,f1,f2,f3,f4,f5⟩:=hf it (by simp)
  have W:=Walks.range (prog:=X.prog) (w:=X.w) (I.ok.hd hc) it lo 1 n
  refine W.item i s _ _ hg st fun v h' tk hv st' kk=>?_
  obtain⟨t,rfl⟩:=hv
  have I1:Inv X pins σ H { s with heap:=h',toks:=tk }:=I.turned (fun b o hb e=>kk b o (by simpa using hb) e) f0 f1 f3 f4 f5
  refine⟨_,rfl,qH (s:={ s with heap:=h',toks:=tk }) (n:="range_iterator") st' rfl rfl (by decide) ⟨.int (lo+i),H,I1,⟨t,?_⟩,⟨rfl,rfl⟩,st',fun b hb=>(hf b hb).1⟩⟩
  rw[Int.mul_one]
 done:=by
  intro X hP hw hK hc i pins s σ H E I hf st hg
  subst hP hw hK
  obtain⟨f0,f1,f2,f3,f4,f5⟩:=hf it (by simp)
  exact wpAny_pyNext_range_end (I.ok.hd hc) st (by have:n<=i:=hg;omega) fun h' eb=>⟨rfl,I.turned (t':=s.toks) (fun b o hb e=>eb b o hb e) f0 f1 f3 f4 f5⟩
 self:=fun _ _ _ _ _ st h=>wpAny_pyIter_rangeiter st h
end L2
namespace L2
open PySem PySem.Spec PyProof.Rows
section
variable {X:Cx}{tg:Expr}
theorem x_ {pins:List (Addr×Obj)}{σ:St}{H:Hp}{s:Shared}{R:It->Hp->Prop}{E:Value->Shared->Prop}{lo hi:Int}{t u v:Tok}{tk:Nat}(I:Inv X pins σ H s)(h1:-(2 ^ 62)<=lo)(h2:lo<2 ^ 62)(h3:-(2 ^ 62)<=hi)(h4:hi<2 ^ 62)
 (q:R (GI lo (hi-lo).toNat) H):wpAny (model X.prog X.w) X.A (pyIter (.ref s.heap.objs.size)) (GH X pins σ tg R) E { s with heap:=s.heap.push { cls:=.type "range",data:=.fields #[.int lo t,.int hi u,.int 1 v] },toks:=tk }:=by
 refine wpAny_pyIter_range (IsRange.new ..) (small_one h1 h2 h3 h4) ?_
 have I1:Inv X pins σ H { s with heap:=s.heap.push { cls:=.type "range",data:=.fields #[.int lo t,.int hi u,.int 1 v] },toks:=tk }:=I.kept fun b o e=>Heap.get?_push_of_some _ e
 refine⟨(s.heap.push { cls:=.type "range",data:=.fields #[.int lo t,.int hi u,.int 1 v] }).objs.size,[(s.heap.push { cls:=.type "range",data:=.fields #[.int lo t,.int hi u,.int 1 v] }).objs.size],_,_,H,rfl,
  I1.kept (t':=tk) fun b o e=>Heap.get?_push_of_some _ e,sK _ lo (hi-lo).toNat,?_,fun b hb=>?_,q⟩
 ·have e1:lo+((0:Nat):Int)*1=lo:=by simp
  have e2:(((hi-lo).toNat:Nat):Int)-((0:Nat):Int)=Builtin.Range.rangeSize lo hi 1:=by rw[rangeSize_one];split<;>omega
  show IsRangeIter _ _ (lo+((0:Nat):Int)*1) ((((hi-lo).toNat:Nat):Int)-((0:Nat):Int)) 1
  rw[e1,e2]
  exact Heap.get?_push_size _ rfl
 ·have e:b=(s.heap.push { cls:=.type "range",data:=.fields #[.int lo t,.int hi u,.int 1 v] }).objs.size:=by simpa using hb
  subst e
  exact I1.fpOk (Nat.le_refl _) (I1.hok.fresh (Nat.le_refl _))
def FL (ta:TA):TI:=fun σ H R=>ta σ H fun vs H1=>∃ j:Int,vs=[.int j]/\-(2 ^ 62)<=j/\j<2 ^ 62/\R (GI 0 j.toNat) H1
theorem wK {a:Expr} {ta:TA} {p pos:Pos} (hg:Gl X "range") (hm:X.mg "range"=none) (ha:PA X [a] ta) (hs:starEach [a] X.env=[(false,eval a X.env)]:=by rfl):PI X tg (.Call (.Name "range" p) [a] [] pos) (FL ta):=by
 intro pins s σ H R I h
 refine Call_ (fW I hg hm boot_range (PyProof.Rows.callWith_type1 (bS (ha pos pins s σ H _ I h) fun us s1 ⟨vs,H1,I1,r1,q1⟩=>?_) hs rfl))
 obtain⟨j,e,q1,q2,q⟩:=q1
 subst e
 cases r1 with
 |cons r rr=>
  cases rr
  obtain⟨t,rfl⟩:=r
  exact call_range_1 (x_ I1 (by omega) (by omega) q1 q2 (by simpa using q))
def G1 (wi:TI)(g:TG)(tb:TS):TS:=fun D σ H=>wi σ H fun J H1=>∃ W:Nat->Nat->St->Hp->Prop,(∃ m,W 0 m σ H1)/\∀ i m σ H,W i m σ H->
 (J.stop i H/\D.nx σ H)\/(J.go i H/\∃ N:St->Hp->Prop,(∀ σ' H',N σ' H'->∃ m',m'<m/\W (i+1) m' σ' H')/\∀ x H',J.yld i H x H'->g x σ H' fun σ2 H2=>tb { D with nx:=N,ct:=N,bk:=D.nx } σ2 H2)
def kz (fp:List Addr)(h:Heap):List (Addr×Obj):=fp.filterMap fun b=>(h.get? b).map fun o=>(b,o)
theorem fq {fp:List Addr}{h:Heap}{b:Addr}{o:Obj}(hb:b∈fp)(e:h.get? b=some o):(b,o)∈kz fp h:=List.mem_filterMap.mpr ⟨b,hb,by rw[e];rfl⟩
theorem wL {fp:List Addr}{h:Heap}{p:Addr×Obj}(hp:p∈kz fp h):p.1∈fp/\h.get? p.1=some p.2:=by
 obtain⟨b,hb,e⟩:=List.mem_filterMap.mp hp
 cases q:h.get? b with
 |none=>rw[q]at e;cases e
 |some o=>
  rw[q]at e
  have e':(b,o)=p:=Option.some.inj e
  subst e'
  exact⟨hb,q⟩
theorem Inv.pinned {pins:List (Addr×Obj)}{σ:St}{H:Hp}{s:Shared}{fp:List Addr}(I:Inv X pins σ H s)(hf:∀ b∈fp,FpOk X pins H b)(ho:∀ b∈fp,∃ o,s.heap.get? b=some o/\∀ v,o.data≠.cell v):Inv X (pins++kz fp s.heap) σ H s:=
 I.pins_of fun p hp=>(List.mem_append.mp hp).elim (fun z=>I.pin p (List.mem_append_right _ z)) fun z=>by
  obtain⟨hb,e⟩:=wL z
  obtain⟨f0,f1,f2,_⟩:=hf p.1 hb
  obtain⟨o,e',d⟩:=ho p.1 hb
  rw[e]at e';cases e'
  exact⟨e,f0,f1,f2,d⟩
theorem Inv.unpinned {pins pl:List (Addr×Obj)}{σ:St}{H:Hp}{s:Shared}(I:Inv X (pins++pl) σ H s):Inv X pins σ H s:=I.pins_of fun p hp=>I.pin p (List.mem_append_right _ (List.mem_append_left _ hp))
theorem nX {iter:Expr}{body:List Stmt}{wi:TI}{g:TG}{tb:TS}{pos:Pos}(hp:PassesOwn (model X.prog X.w) X.A X.env X.xe)(hc:X.calm=true)(hi:PI X tg iter wi)(hg:PG X tg g)(hb:PSs X body tb)
 (hs:∀ x,foldedSetIterable iter X.env x=pure x:=by intro _;rfl):PS X (.For tg iter body [] pos) (G1 wi g tb):=by
 intro pins s σ H D I h
 refine wpAny_For (bS (hi pins s σ H _ I h) fun v s1 h1=>bS h1 fun itv s2 h2=>?_) hs
 obtain⟨it,fp,tn,J,H2,e,I2,T,st2,f2,W,⟨m0,w0⟩,turn⟩:=h2
 subst e
 have stat:∀{H':Hp},(∀ b∈fp,H' b=none)->∀ b∈fp,FpOk X pins H' b:=fun hn b hb=>⟨hn b hb,(f2 b hb).2⟩
 refine codeAny_forLoop_any (fun n s'=>∃ i σ' H',Inv X pins σ' H' s'/\tn i s'.heap/\(∀ b∈fp,H' b=none)/\W i n σ' H') ?_ m0 ⟨0,σ,H2,I2,st2,fun b hb=>(f2 b hb).1,w0⟩
 rintro n s3 ⟨i,σ3,H3,I3,st3,fr3,w3⟩
 rcases turn i n σ3 H3 w3 with⟨stop,qn⟩|⟨go,N,hN,step⟩
 ·refine wpAny_passesOwn hp (bS (T.done X rfl rfl rfl hc i pins s3 σ3 H3 X.xe I3 (stat fr3) st3 stop) fun r s4 ⟨hr,I4⟩=>?_)
  subst hr
  exact wpAny_execs_nil ⟨σ3,H3,I4,qn⟩
 ·refine wpAny_passesOwn hp (bS (T.item X rfl rfl rfl hc i pins s3 σ3 H3 X.xe I3 (stat fr3) st3 go) fun r s4 ⟨u,hr,h4⟩=>?_)
  subst hr
  refine wpAny_passesOwn hp (bS h4 fun _ s5 ⟨x,H5,I5,r5,y5,st5,fr5⟩=>?_)
  have I5':=I5.pinned (stat fr5) (T.obj _ _ st5)
  refine wpAny_passesOwn hp (bS (hg _ s5 σ3 H5 x u _ I5' r5 (step x H5 y5)) fun _ s6 ⟨σ6,H6,I6,q6⟩=>?_)
  refine wpAny_passesOwn hp (bS (hb _ s6 σ6 H6 _ I6 q6) fun f s7 q7=>?_)
  have again:∀{σ7:St}{H7:Hp},Inv X (pins++kz fp s5.heap) σ7 H7 s7->N σ7 H7->∃ m,m<n/\∃ i σ' H',Inv X pins σ' H' s7/\tn i s7.heap/\(∀ b∈fp,H' b=none)/\W i m σ' H':=fun{σ7 H7} I7 n7=>by
   obtain⟨m',hm,w7⟩:=hN σ7 H7 n7
   refine⟨m',hm,i+1,σ7,H7,I7.unpinned,T.keep _ _ _ st5 fun b hb o e=>(I7.pin (b,o) (List.mem_append_right _ (List.mem_append_right _ (fq hb e)))).1,fun b hb=>?_,w7⟩
   obtain⟨o,e,d⟩:=T.obj _ _ st5 b hb
   exact(I7.pin (b,o) (List.mem_append_right _ (List.mem_append_right _ (fq hb e)))).2.1
  cases f with
  |next=>obtain⟨σ7,H7,I7,n7⟩:=q7;exact again I7 n7
  |cont=>obtain⟨σ7,H7,I7,n7⟩:=q7;exact again I7 n7
  |brk=>obtain⟨σ7,H7,I7,q7⟩:=q7;exact⟨σ7,H7,I7.unpinned,q7⟩
  |ret v=>obtain⟨x7,σ7,H7,I7,r7,q7⟩:=q7;exact⟨x7,σ7,H7,I7.unpinned,r7,q7⟩
end
theorem ya {K:PySem.W.Frag}{a:Addr}{xs:List V}{g:TG}{tb:TS}{D:Ends}{σ:St}{H:Hp}(Pv:Nat->St->Hp->Prop)(h0:Pv 0 σ H)(hl:∀ i σ H,i<=xs.length->Pv i σ H->SqL K H a xs)
 (hs:∀ i x σ H,xs[i]?=some x->Pv i σ H->g x σ H fun σ2 H2=>tb { D with nx:=Pv (i+1),ct:=Pv (i+1),bk:=D.nx } σ2 H2) (hd:∀ σ H,Pv xs.length σ H->D.nx σ H) :
 ∃ W:Nat->Nat->St->Hp->Prop,(∃ m,W 0 m σ H)/\∀ i m σ H,W i m σ H->
  ((Fv K a).stop i H/\D.nx σ H)\/((Fv K a).go i H/\∃ N:St->Hp->Prop,(∀ σ' H',N σ' H'->∃ m',m'<m/\W (i+1) m' σ' H')/\∀ x H',(Fv K a).yld i H x H'->g x σ H' fun σ2 H2=>tb { D with nx:=N,ct:=N,bk:=D.nx } σ2 H2):=by
 refine⟨fun i m σ H=>m=xs.length-i/\i<=xs.length/\Pv i σ H,⟨xs.length,by simp,Nat.zero_le _,h0⟩,?_⟩
 rintro i m σ H ⟨rfl,hi,p⟩
 have q:=hl i σ H hi p
 by_cases hlt:i<xs.length
 ·refine .inr ⟨⟨xs,xs[i],q,by simp[hlt]⟩,Pv (i+1),fun σ' H' p'=>⟨xs.length-(i+1),by omega,rfl,hlt,p'⟩,fun x H' y=>?_⟩
  obtain⟨e,y⟩:=y
  subst e
  exact hs i x σ _ (y xs q) p
 ·have e:i=xs.length:=by omega
  subst e
  exact .inl ⟨⟨xs,q,Nat.le_refl _⟩,hd σ H p⟩
end L2
namespace L2
open PySem PySem.Spec PyProof.Rows
abbrev R2:=V->V->Hp->VK->Prop
def OpR (X:Cx)(f:Value->Value->Sem Value)(r:R2):Prop:=
 ∀(pins:List (Addr×Obj))(s:Shared)(σ:St)(H:Hp)(x y:V)(v u:Value)(Q:VK),Inv X pins σ H s->RelV x v->RelV y u->r x y H Q->
  wpAny (model X.prog X.w) X.A (f v u) (EP X pins σ Q) X.xe s
def CallR (X:Cx)(f:Value)(r:List V->Hp->VK->Prop):Prop:=
 ∀(pins:List (Addr×Obj))(s:Shared)(σ:St)(H:Hp)(xs:List V)(us:List Value)(Q:VK),Inv X pins σ H s->Vals xs us->r xs H Q->
  wpAny (model X.prog X.w) X.A (call f us) (EP X pins σ Q) X.xe s
def G2 (X:Cx)(r:V->Hp->(Bool->Hp->Prop)->Prop):Prop:=
 ∀(pins:List (Addr×Obj))(s:Shared)(σ:St)(H:Hp)(x:V)(v:Value)(Q:Bool->Hp->Prop),Inv X pins σ H s->RelV x v->r x H Q->
  wpAny (model X.prog X.w) X.A (truthy v) (TP X pins σ Q) X.xe s
def Fw (r:R2)(ta tb:TE):TE:=fun σ H Q=>ta σ H fun x H1=>tb σ H1 fun y H2=>r x y H2 Q
def rI (C:Int->Int->Prop)(g:Int->Int->V):R2:=fun x y H Q=>∃ i j,x=.int i/\y=.int j/\C i j/\Q (g i j) H
def DG (g:Int->Int->V):R2:=fun x y H Q=>∃ i j,x=.int i/\y=.int j/\Q (g i j) H
section
variable {X:Cx}{a b c:Expr}{ta tb tc:TE}{pos:Pos}
theorem DH (ha:PE X a ta)(hb:PE X b tb){pins:List (Addr×Obj)}{s:Shared}{σ:St}{H:Hp}{R:V->V->Hp->Prop}(I:Inv X pins σ H s)
 (h:ta σ H fun x H1=>tb σ H1 fun y H2=>R x y H2) {Q:Value->Shared->Prop} {f:Value->Value->Sem Value}
 (hf:∀ v u s2 x y H2,Inv X pins σ H2 s2->RelV x v->RelV y u->R x y H2->wpAny (model X.prog X.w) X.A (f v u) Q X.xe s2) :
 wpAny (model X.prog X.w) X.A (eval a X.env) (fun v s₁=>wpAny (model X.prog X.w) X.A (eval b X.env) (fun u s₂=>wpAny (model X.prog X.w) X.A (f v u) Q X.xe s₂) X.xe s₁) X.xe s:=by
 refine bS (ha pins s σ H _ I h) fun v s1 ⟨x,H1,I1,r1,q1⟩=>?_
 refine bS (hb pins s1 σ H1 _ I1 q1) fun u s2 ⟨y,H2,I2,r2,q2⟩=>?_
 exact hf v u s2 x y H2 I2 r1 r2 q2
theorem FM {op:Operator}{r:R2}(ho:OpR X (binaryOp op) r)(ha:PE X a ta)(hb:PE X b tb):PE X (.BinOp a op b pos) (Fw r ta tb):=by
 intro pins s σ H Q I h
 exact wpAny_BinOp (DH ha hb I h fun v u s2 x y H2 I2 rx ry q=>ho pins s2 σ H2 x y v u Q I2 rx ry q)
theorem GJ {f:Value->Value->Sem Value}{C:Int->Int->Prop}{g:Int->Int->Int}
 (rule:∀(i j:Int)(t u:Tok)(s:Shared)(Q:Value->Shared->Prop)(E:Value->Shared->Prop),C i j->Q (.int (g i j) s.toks) { s with toks:=s.toks+1 }->wpAny (model X.prog X.w) X.A (f (.int i t) (.int j u)) Q E s) :
 OpR X f (rI C fun i j=>.int (g i j)):=by
 intro pins s σ H x y v u Q I rx ry h
 obtain⟨i,j,rfl,rfl,hc,q⟩:=h
 obtain⟨t,rfl⟩:=rx
 obtain⟨t',rfl⟩:=ry
 exact rule i j t t' s _ _ hc ⟨.int (g i j),H,I.tok _,⟨_,rfl⟩,q⟩
theorem DI {f:Value->Value->Sem Value}{g:Int->Int->Int}
 (rule:∀(i j:Int)(t u:Tok)(s:Shared)(Q:Value->Shared->Prop)(E:Value->Shared->Prop),Q (.int (g i j) s.toks) { s with toks:=s.toks+1 }->wpAny (model X.prog X.w) X.A (f (.int i t) (.int j u)) Q E s) :
 OpR X f (DG fun i j=>.int (g i j)):=by
 intro pins s σ H x y v u Q I rx ry h
 obtain⟨i,j,rfl,rfl,q⟩:=h
 obtain⟨t,rfl⟩:=rx
 obtain⟨t',rfl⟩:=ry
 exact rule i j t t' s _ _ ⟨.int (g i j),H,I.tok _,⟨_,rfl⟩,q⟩
theorem G3 {f:Value->Value->Sem Value}{g:Int->Int->Bool}
 (rule:∀(i j:Int)(t u:Tok)(s:Shared)(Q:Value->Shared->Prop)(E:Value->Shared->Prop),Q (.bool (g i j)) s->wpAny (model X.prog X.w) X.A (f (.int i t) (.int j u)) Q E s) :
 OpR X f (DG fun i j=>.bl (g i j)):=by
 intro pins s σ H x y v u Q I rx ry h
 obtain⟨i,j,rfl,rfl,q⟩:=h
 obtain⟨t,rfl⟩:=rx
 obtain⟨t',rfl⟩:=ry
 exact rule i j t t' s _ _ ⟨.bl (g i j),H,I,rfl,q⟩
def G4 (i j:Int):Prop:=0<j/\j<1073741824
def CMul (i j:Int):Prop:=(-(2 ^ 64)<i/\i<2 ^ 64)\/(-(2 ^ 64)<j/\j<2 ^ 64)
theorem CMul.ok {i j:Int}(h:CMul i j):IntMulOk i j:=by
 rcases h with⟨h1,h2⟩|⟨h1,h2⟩
 ·exact .of_left (intBits_le_64 h1 h2)
 ·exact .of_right (intBits_le_64 h1 h2)
theorem sL (k:Nat):(0:Int)<=2 ^ k:=by
 rw[two_pow_cast]
 exact Int.natCast_nonneg _
theorem op_add:OpR X (binaryOp .Add) (DG fun i j=>.int (i+j)):=DI fun _ _ _ _ _ _ _ q=>add_int q
theorem DJ:OpR X (binaryOp .Sub) (DG fun i j=>.int (i-j)):=DI fun _ _ _ _ _ _ _ q=>sub_int q
theorem DL:OpR X (binaryOp .Mult) (rI CMul fun i j=>.int (i*j)):=GJ fun _ _ _ _ _ _ _ hc q=>mul_int q hc.ok
theorem Bj:OpR X (binaryOp .FloorDiv) (rI G4 fun i j=>.int (i / j)):=GJ fun i j _ _ _ _ _ hc q=>by
 have h1:(0:Int)<j:=hc.1
 have h2:j<1073741824:=hc.2
 exact floordiv_int (by omega) (by rw[Int.fdiv_eq_ediv_of_nonneg i (by omega)];exact q) (.inl (PyProof.noPylong_small (by omega)))
theorem DM:OpR X (binaryOp .Mod) (rI (fun _ j=>0<j) fun i j=>.int (i % j)):=GJ fun i j _ _ _ _ _ hc q=>by
 have h1:(0:Int)<j:=hc
 exact mod_int' (by omega) (by rw[Int.fmod_eq_emod_of_nonneg i (by omega)];exact q)
theorem DN:OpR X (binaryOp .RShift) (rI (fun _ j=>0<=j) fun i j=>.int (i / 2 ^ j.toNat)):=GJ fun i j _ _ _ _ _ hc q=>
 rshift_int hc (by rw[Int.fdiv_eq_ediv_of_nonneg i (sL _)];exact q)
theorem DO:OpR X (binaryOp .BitAnd) (DG fun i j=>.int (Builtin.bitAnd i j)):=DI fun _ _ _ _ _ _ _ q=>and_int q
end
section
variable {X:Cx}{a b c:Expr}{ta tb tc:TE}{pos:Pos}
theorem FN:OpR X (compareOp .Lt) (DG fun i j=>.bl (decide (i<j))):=G3 fun _ _ _ _ _ _ _ q=>lt_int q
theorem OpR.or {f:Value->Value->Sem Value}{r r':R2}(h:OpR X f r)(h':OpR X f r'):OpR X f (fun x y H Q=>r x y H Q\/r' x y H Q):=by
 intro pins s σ H x y v u Q I rx ry q
 rcases q with q|q
 ·exact h pins s σ H x y v u Q I rx ry q
 ·exact h' pins s σ H x y v u Q I rx ry q
theorem b9 (b:Expr){op:CmpOp}(h:op≠.In:=by decide)(h2:op≠.NotIn:=by decide):behindInMarks op b=false:=by
 have e1:(op==CmpOp.In)=false:=by cases op<;>first|rfl|exact absurd rfl h
 have e2:(op==CmpOp.NotIn)=false:=by cases op<;>first|rfl|exact absurd rfl h2
 cases b<;>simp[behindInMarks,e1,e2]
theorem Bk {op:CmpOp}{r:R2}(ho:OpR X (compareOp op) r)(ha:PE X a ta)(hb:PE X b tb)(hm:behindInMarks op b=false):PE X (.Compare a [op] [b] pos) (Fw r ta tb):=by
 intro pins s σ H Q I h
 exact wpAny_Compare1 (DH ha hb I h fun v u s2 x y H2 I2 rx ry q=>ho pins s2 σ H2 x y v u Q I2 rx ry q) hm
def FO (t:TE):TT:=fun σ H Q=>t σ H fun x H'=>∃ k,x=.bl k/\Q k H'
theorem Bl {op:CmpOp}{r:R2}(ho:OpR X (compareOp op) r)(ha:PE X a ta)(hb:PE X b tb)(hm:behindInMarks op b=false):PT X (.Compare a [op] [b] pos) (FO (Fw r ta tb)):=by
 intro pins s σ H Q I h
 refine wpAny_isTrue_Compare1 (bS (ha pins s σ H _ I h) fun v s1 ⟨x,H1,I1,r1,q1⟩=>bS (hb pins s1 σ H1 _ I1 q1) fun u s2 ⟨y,H2,I2,r2,q2⟩=>
  bS (ho pins s2 σ H2 x y v u _ I2 r1 r2 q2) fun c s3 ⟨z,H3,I3,r3,k,e,q3⟩=>?_) hm
 subst e
 cases r3
 exact wpAny_truthy_bool ⟨H3,I3,q3⟩
def DP (K:PySem.W.Frag)(x:V)(H:Hp)(k:Bool):Prop:=
 match x with
 | .non=>k=false
 | .bl b=>k=b
 | .int i=>k=(i != 0)
 | .str y=>y.length<=sizeLine/\k=((y.length:Int) != 0)
 | .byt y=>y.size<=sizeLine/\k=((y.size:Int) != 0)
 | .ref p=>(∃ xs,SqL K H p xs/\k=!xs.isEmpty)\/(∃ xs,SqT K H p xs/\k=!xs.isEmpty)\/∃ kvs,H p=some (.dK kvs)/\k=!kvs.isEmpty
 |_=>False
theorem sM {κ:Type}{kvs:List (κ×V)}{vs:List (κ×Value)}(r:KV kvs vs):(!vs.isEmpty)=!kvs.isEmpty:=by
 cases r<;>rfl
theorem kA {xs:List V}{its:List Value}(r:Vals xs its):(!its.toArray.isEmpty)=!xs.isEmpty:=by
 cases r<;>simp
theorem gY:(sizeLine:Nat)<2 ^ 63:=by rw[sizeLine_eq];decide
theorem DQ:G2 X (fun x H Q=>∃ k,DP X.K x H k/\Q k H):=by
 intro pins s σ H x v Q I rx h
 obtain⟨k,e,q⟩:=h
 have hl:=gY
 have hs:sizeLine=16777216:=sizeLine_eq
 cases x with
 |non=>
  cases rx
  have e':k=false:=e
  subst e'
  exact truthy_none ⟨H,I,q⟩
 |bl b=>
  cases rx
  have e':k=b:=e
  subst e'
  exact wpAny_truthy_bool ⟨H,I,q⟩
 |int i=>
  obtain⟨t,rfl⟩:=rx
  have e':k=(i != 0):=e
  subst e'
  exact PySem.P.truthy_int ⟨H,I,q⟩
 |str y=>
  obtain⟨t,rfl⟩:=rx
  obtain⟨hy,e'⟩ : y.length<=sizeLine/\k=((y.length:Int) != 0):=e
  subst e'
  exact PySem.P.truthy_str (by omega) ⟨H,I.tok _,q⟩
 |byt y=>
  obtain⟨t,rfl⟩:=rx
  obtain⟨hy,e'⟩ : y.size<=sizeLine/\k=((y.size:Int) != 0):=e
  subst e'
  exact PySem.W.truthy_bytes (by omega) ⟨H,I.tok _,q⟩
 |ref p=>
  cases rx
  have e':(∃ xs,SqL X.K H p xs/\k=!xs.isEmpty)\/(∃ xs,SqT X.K H p xs/\k=!xs.isEmpty)\/∃ kvs,H p=some (.dK kvs)/\k=!kvs.isEmpty:=e
  rcases e' with⟨xs,hx,e'⟩|⟨xs,hx,e'⟩|⟨kvs,hx,e'⟩
  ·subst e'
   obtain⟨its,r,pl,hz⟩:=I.list hx
   have bc:=r.length
   exact wpAny_truthy_list pl.isList (by simp only[List.size_toArray];omega) ⟨H,I.tok _,by rw[kA r];exact q⟩
  ·subst e'
   obtain⟨its,r,pl,hz⟩:=I.tuple hx
   have bc:=r.length
   exact truthy_tuple pl (by simp only[List.size_toArray];omega) ⟨H,I.tok _,by rw[kA r];exact q⟩
  ·subst e'
   obtain⟨hz,hS,vs,r,m⟩ : kvs.length<=sizeLine/\(p==sysModules)=false/\∃ vs,KV kvs vs/\s.heap.DictOf (ao X.prog X.w) p vs:=I.hok p _ hx
   have bc:kvs.length=vs.length:=Paired.length r
   exact wpAny_truthy_dict hS m (by omega) ⟨H,I.tok _,by rw[sM r];exact q⟩
 |_=>exact(show False from e).elim
theorem yb (ha:PE X a ta)(he:∀ whole,isTrue a X.env whole=(do let v <- whole;standAt a.pos;holding [v] (truthy v))) :
 PT X a (fun σ H Q=>ta σ H fun x H'=>∃ k,DP X.K x H' k/\Q k H'):=by
 intro pins s σ H Q I h
 exact isTrue_plain (bS (ha pins s σ H _ I h) fun v s1 ⟨x,H1,I1,r1,q1⟩=>DQ pins s1 σ H1 x v Q I1 r1 q1) (he _)
theorem sN:OpR X (binaryOp .Add) (fun x y H Q=>∃ i j,x=.str i/\y=.str j/\i.length+j.length<=sizeLine/\Q (.str (i++j)) H):=by
 intro pins s σ H x y v u Q I rx ry h
 obtain⟨i,j,rfl,rfl,hz,q⟩:=h
 obtain⟨t,rfl⟩:=rx
 obtain⟨t',rfl⟩:=ry
 exact add_str (fun t' tk=>⟨.str (i++j),H,I.tok _,⟨_,rfl⟩,q⟩) hz
theorem fX {x:V}{us:List Value}(r:Vals [x] us):∃ u,us=[u]/\RelV x u:=by
 cases r with
 |cons r1 r2=>cases r2;exact⟨_,rfl,r1⟩
theorem mO {x y:V}{us:List Value}(r:Vals [x,y] us):∃ u w',us=[u,w']/\RelV x u/\RelV y w':=by
 cases r with
 |cons r1 r2=>
  cases r2 with
  |cons r3 r4=>cases r4;exact⟨_,_,rfl,r1,r3⟩
theorem wM (hc:X.calm=true):CallR X (.builtin "max") (fun xs H Q=>∃ i j,xs=[.int i,.int j]/\Q (.int (if j>i then j else i)) H):=by
 intro pins s σ H xs us Q I r h
 obtain⟨i,j,rfl,q⟩:=h
 obtain⟨u,w',rfl,⟨t,rfl⟩,⟨t',rfl⟩⟩:=mO r
 refine max_two_ints (I.ok.hd hc) fun h' tk k=>⟨_,H,I.kept k,?_,q⟩
 by_cases hj:j>i
 ·rw[if_pos hj,if_pos hj];exact⟨_,rfl⟩
 ·rw[if_neg hj,if_neg hj];exact⟨_,rfl⟩
theorem wN (hc:X.calm=true):CallR X (.builtin "min") (fun xs H Q=>∃ i j,xs=[.int i,.int j]/\Q (.int (if j<i then j else i)) H):=by
 intro pins s σ H xs us Q I r h
 obtain⟨i,j,rfl,q⟩:=h
 obtain⟨u,w',rfl,⟨t,rfl⟩,⟨t',rfl⟩⟩:=mO r
 refine min_two_ints (I.ok.hd hc) fun h' tk k=>⟨_,H,I.kept k,?_,q⟩
 by_cases hj:j<i
 ·rw[if_pos hj,if_pos hj];exact⟨_,rfl⟩
 ·rw[if_neg hj,if_neg hj];exact⟨_,rfl⟩
end
end L2
namespace L2
open PySem PySem.Spec PyProof.Rows
structure ObjM (h:Heap) (x dx C:Addr) (mA:Str->Option Value):Prop where
 obj:h.get? x=some (PySem.W.instObj C dx)
 ns:h.Ns1 dx mA
 ne:dx≠x
theorem wO {h:Heap}{dx:Addr}{mA:Str->Option Value}(n:h.Ns1 dx mA):∃ od,h.get? dx=some od/\∀ name,PySem.W.lookIn name od=some (mA name):=by
 obtain⟨o,es,ep,ho,hd,hk,_,hm⟩:=n
 refine⟨o,ho,fun name=>?_⟩
 have e:=hm name
 unfold nsFind findBy at e
 rw[<- Array.find?_toList]at e
 unfold PySem.W.lookIn
 rw[hd]
 dsimp only
 split
 ·rename_i y q
  rw[q]at e
  exact congrArg some e
 ·rename_i q
  rw[q]at e
  have a:es.toList.any (·.refKey)=false:=by
   rw[List.any_eq_false]
   intro y hy
   obtain⟨z,t,fV⟩:=hk y (Array.mem_toList_iff.mp hy)
   simp[DictEntry.refKey,fV]
  have a':¬ es.toList.any (·.refKey)=true:=by rw[a];exact Bool.false_ne_true
  rw[if_neg a']
  exact congrArg some e
theorem ObjM.look {h:Heap}{x dx C:Addr}{mA:Str->Option Value}(I:ObjM h x dx C mA):∃ od,PySem.W.InstAt h x (PySem.W.instObj C dx) C (some od)/\∀ name,PySem.W.lookIn name od=some (mA name):=
 let ⟨od,ho,hl⟩:=wO I.ns
 ⟨od,⟨I.obj,rfl,rfl,ho⟩,hl⟩
section
variable {prog:Program}{w:World}{A:Around}{E:Value->Shared->Prop}{s:Shared}{K:PySem.W.Frag}{x dx C f:Addr}{mA:Str->Option Value}{name:Str}{v:Value}
end
theorem RelO.some_of {v:V}{o:Option Value}(r:RelO (some v) o):∃ u,o=some u/\RelV v u:=by
 cases o with
 |none=>exact(show False from r).elim
 |some u=>exact⟨u,rfl,r⟩
section
variable {P:Program}{w:World}{H H':Hp}{h h':Heap}{a C dx:Addr}{fs fs':List (Str×V)}
theorem Bm (hok:HOk P w H h)(e:H a=some (.ins C dx fs)):∃ mA,ObjM h a dx C mA/\(∀ f,RelO (fs.lookup f) (mA f))/\PySem.Within mA (fs.map (·.1))/\fs.length<=1000/\H dx=some (.own a):=by
 obtain⟨d,z,ne,ob,mA,n,r,q⟩:=(show ObjOk P w H h a (.ins C dx fs) from hok a _ e)
 exact⟨mA,⟨ob,n,ne⟩,r,q,z,d⟩
end
structure Cls (K:PySem.W.Frag) (C:Addr):Prop where
 pg:PySem.W.plainGet K C Str.empty=true
 hd:PySem.W.hasDictIn K C=true
 po:PySem.W.plainOver K C=true
 sa:PySem.W.findIn K (.ref C) "__setattr__"=some (some (.builtin "object.__setattr__"))
theorem Cls.get {K:PySem.W.Frag}{C:Addr}(c:Cls K C)(f:Str):PySem.W.plainGet K C f=true:=c.pg
section
variable {X:Cx}{pins:List (Addr×Obj)}{σ:St}{H:Hp}{s:Shared}{a C dx:Addr}{fs:List (Str×V)}{f:Str}{v:V}{A:Around}{E:Value->Shared->Prop}
end
section
variable {X:Cx}{o e value:Expr}{f:Str}{pos pos' fJ:Pos}{ta tv:TE}
end
section
variable {X:Cx}{pins:List (Addr×Obj)}{σ:St}{H:Hp}{s:Shared}{A:Around}{E:Value->Shared->Prop}{Q:Value->Shared->Prop}{c:Value}{b:Bool}
inductive TyOf (K:PySem.W.Frag) (H:Hp):V->Value->Prop where
 |non:TyOf K H .non (.type "NoneType")
 |bl (x:Bool):TyOf K H (.bl x) (.type "bool")
 |int (i:Int):TyOf K H (.int i) (.type "int")
 |str (x:Str):TyOf K H (.str x) (.type "str")
 |flt (x:UInt64):TyOf K H (.flt x) (.type "float")
 |lst {a:Addr} {xs:List V} (e:H a=some (.lst xs)):TyOf K H (.ref a) (.type "list")
 |frz {a:Addr} {o:Obj} {xs:List V} (e:H a=some (.frz o (.lst xs))):TyOf K H (.ref a) (.type "list")
 |tup {a:Addr} {xs:List V} (e:H a=some (.tup xs)):TyOf K H (.ref a) (.type "tuple")
 |dK {a:Addr} {kvs:List (Key×V)} (e:H a=some (.dK kvs)):TyOf K H (.ref a) (.type "dict")
 |dT {a:Addr} {kvs:List (List Key×V)} (e:H a=some (.dT kvs)):TyOf K H (.ref a) (.type "dict")
 |ins {a C dx:Addr} {fs:List (Str×V)} (e:H a=some (.ins C dx fs)) (cl:Cls K C) (ha:PySem.W.findIn K (.ref C) "__class__"=some (some (.builtin "object.__class__")))
  (hn:PySem.W.specialIn K (.builtin "object.__class__") "__get__"=some (some (.builtin "getset_descriptor.__get__"))) (htk:PySem.W.takesIn K (.builtin "object.__class__")=some true)
  (hm:PySem.W.mroIn K C (.type "object")=some true):TyOf K H (.ref a) (.ref C)
theorem wP {x:V}{u t:Value}(I:Inv X pins σ H s)(rx:RelV x u)(ty:TyOf X.K H x t)(e:PySem.W.kitOne X.K t c=some b)(h:∀ tk,Q (.bool b) { s with toks:=tk }) :
 wpAny (model X.prog X.w) A (call (.builtin "isinstance") [u,c]) Q E s:=by
 cases ty with
 |non=>cases (show u=Value.none from rx);exact PySem.W.kia_one PySem.W.kitx_none I.kIn True.intro e (fun z=>nomatch z) h
 |bl y=>cases (show u=Value.bool y from rx);exact PySem.W.kia_one PySem.W.kitx_bool I.kIn True.intro e (fun z=>nomatch z) h
 |int i=>obtain⟨t,q⟩:=(show ∃ t,u=Value.int i t from rx);cases q;exact PySem.W.kia_one PySem.W.kitx_int I.kIn True.intro e (fun z=>nomatch z) h
 |str y=>obtain⟨t,q⟩:=(show ∃ t,u=Value.str y t from rx);cases q;exact PySem.W.kia_one PySem.W.kitx_str I.kIn True.intro e (fun z=>nomatch z) h
 |flt y=>obtain⟨t,q⟩:=(show ∃ t,u=Value.float y t from rx);cases q;exact PySem.W.kia_one PySem.W.kitx_float I.kIn True.intro e (fun z=>nomatch z) h
 | @lst a xs ea=>
  cases (show u=Value.ref a from rx)
  obtain⟨_,_,n,_,h1⟩:=(show ObjOk X.prog X.w H s.heap a (.lst xs) from I.hok a _ ea)
  exact PySem.W.kia_one PySem.W.kitx_list I.kIn ⟨_,h1,rfl⟩ e (fun z=>nomatch z) h
 | @frz a ob xs ea=>
  cases (show u=Value.ref a from rx)
  obtain⟨_,_,_,n,_,h1⟩:=(show ObjOk X.prog X.w H s.heap a (.frz ob (.lst xs)) from I.hok a _ ea)
  exact PySem.W.kia_one PySem.W.kitx_list I.kIn ⟨_,h1,rfl⟩ e (fun z=>nomatch z) h
 | @tup a xs ea=>
  cases (show u=Value.ref a from rx)
  obtain⟨_,_,_,p⟩:=(show ObjOk X.prog X.w H s.heap a (.tup xs) from I.hok a _ ea)
  obtain⟨o,h1,h2,_⟩:=p
  exact PySem.W.kia_one PySem.W.kitx_tuple I.kIn ⟨o,h1,h2⟩ e (fun z=>nomatch z) h
 | @dK a kvs ea=>
  cases (show u=Value.ref a from rx)
  obtain⟨_,_,vs,_,p⟩:=(show ObjOk X.prog X.w H s.heap a (.dK kvs) from I.hok a _ ea)
  obtain⟨o,es,ep,h1,h2,_⟩:=p
  exact PySem.W.kia_one PySem.W.kitx_dict I.kIn ⟨o,h1,h2.1⟩ e (fun z=>nomatch z) h
 | @dT a kvs ea=>
  cases (show u=Value.ref a from rx)
  obtain⟨_,_,xs,_,o,es,ep,h1,h2,_⟩:=(show ObjOk X.prog X.w H s.heap a (.dT kvs) from I.hok a _ ea)
  exact PySem.W.kia_one PySem.W.kitx_dict I.kIn ⟨o,h1,h2.1⟩ e (fun z=>nomatch z) h
 | @ins a C dx fs ea cl ha hn htk hm=>
  cases (show u=Value.ref a from rx)
  obtain⟨mA,O,_⟩:=Bm I.hok ea
  obtain⟨od,J,_⟩:=O.look
  exact PySem.W.kia_one (PySem.W.kitx_own (cl.get _) cl.hd ha hn htk hm) I.kIn J e (fun z=>nomatch z) h
end
end L2
namespace L2
open PySem PySem.Spec PyProof.Rows
structure Room (k:Nat) (A:Around):Prop where
 hd:A.handled=none
 dp:A.depth+3*k+5<recursionLimit
 un:A.units+16*k+200<cLine
theorem Room.mono {j k:Nat}{A:Around}(r:Room k A)(h:j<=k):Room j A:=⟨r.hd,by have:=r.dp;omega,by have:=r.un;omega⟩
theorem Room.deeper {k:Nat}{A:Around}(r:Room (k+1) A)(env:Env):Room k (A.deeper env):=
 ⟨r.hd,by have:=r.dp;show A.depth+1+3*k+5<_;omega,by have:=r.un;show A.units+3+16*k+200<_;omega⟩
theorem Room.depth {k:Nat}{A:Around}(r:Room k A):A.depth<recursionLimit:=by have:=r.dp;omega
theorem Room.units {k:Nat}{A:Around}(r:Room k A):A.units+64<cLine:=by have:=r.un;omega
def DR:TA:=fun _ H Q=>Q [] H
def qI (ta:TE)(tr:TA):TA:=fun σ H Q=>ta σ H fun x H1=>tr σ H1 fun xs H2=>Q (x::xs) H2
section
variable {X:Cx}{e:Expr}{es:List Expr}{te:TE}{t:TA}{pos:Pos}
theorem di:PA X [] DR:=fun _ _ _ _ H Q I h=>Calls.spliced_nil ⟨[],H,I,.nil,h⟩
theorem be (ha:PE X e te)(hr:PA X es t)(hs:starEach (e::es) X.env=(false,eval e X.env)::starEach es X.env:=by rfl):PA X (e::es) (qI te t):=by
 intro pos pins s σ H Q I h
 rw[hs]
 show wpAny _ _ (spliced ((false,eval e X.env)::backTo pos (starEach es X.env))) _ _ s
 refine Calls.spliced_cons (bS (ha pins s σ H _ I h) fun u s1 ⟨x,H1,I1,r1,q1⟩=>?_)
 exact bS (hr pos pins s1 σ H1 _ I1 q1) fun us s2 ⟨xs,H2,I2,r2,q2⟩=>⟨x::xs,H2,I2,.cons r1 r2,q2⟩
def G5 (t:TA):TE:=fun σ H Q=>t σ H fun xs H1=>xs.length<=sizeLine/\∀ p,H1 p=none->Q (.ref p) (az H1 p (.tup xs))
def G6 (t:TA):TE:=fun σ H Q=>t σ H fun xs H1=>xs.length<=sizeLine/\∀ p,H1 p=none->Q (.ref p) (az H1 p (.lst xs))
theorem yc {x1}(h:PA X es t):PE X (.Tuple es x1 pos) (G5 t):=by
 intro pins s σ H Q I hq
 refine wpAny_Tuple_spliced (bS (h pos pins s σ H _ I hq) fun us s1 ⟨xs,H1,I1,r,z,q⟩=>⟨by rw[<- r.length];exact z,?_⟩)
 have hf:H1 s1.heap.objs.size=none:=I1.hok.fresh (Nat.le_refl _)
 refine⟨.ref s1.heap.objs.size,az H1 s1.heap.objs.size (.tup xs),I1.laid (t':=s1.toks) (fun b u e=>Heap.get?_push_of_some _ e) (Nat.le_refl _) ?_,rfl,q _ hf⟩
 exact⟨z,us,r,⟨_,Heap.get?_push_size _ rfl,rfl,_,rfl⟩⟩
theorem DS (h:PA X es t):PE X (.List es pos) (G6 t):=by
 intro pins s σ H Q I hq
 refine wpAny_List_spliced (bS (h pos pins s σ H _ I hq) fun us s1 ⟨xs,H1,I1,r,z,q⟩=>⟨by rw[<- r.length];exact z,?_⟩)
 have hf:H1 s1.heap.objs.size=none:=I1.hok.fresh (Nat.le_refl _)
 refine⟨.ref s1.heap.objs.size,az H1 s1.heap.objs.size (.lst xs),I1.laid (t':=s1.toks) (fun b u e=>Heap.get?_push_of_some _ e) (Nat.le_refl _) ?_,rfl,q _ hf⟩
 exact⟨z,us,0,r,Heap.get?_push_size _ rfl⟩
end
abbrev Sp:=List V->Hp->VK->XK->Prop
abbrev CXT:=List Env->Hp->Shared->XK->Value->Shared->Prop
structure Env0 (P:Program) (w:World) (K:PySem.W.Frag) (mg:Str->Option Value) (base:Heap) (A:Around) (outer:List Env) (s:Shared) (H:Hp):Prop where
 frames:A.frames=some outer
 mod:Mod K mg base
 bs:∀ b o,base.get? b=some o->s.heap.get? b=some o/\H b=none
 bsz:base.objs.size<=s.heap.objs.size
 funs:s.heap.FunFrames base outer
 frf:∀ b∈frs outer,H b=none
 hok:HOk P w H s.heap
 bare:AllBare s.gens
def CE (outer:List Env)(P:Program)(w:World)(H:Hp)(s:Shared)(Q:VK)(u:Value)(s':Shared):Prop:=
 ∃ v H',s'.os=s.os/\AllBare s'.gens/\Un (frs outer) [] H H' s.heap s'.heap/\HOk P w H' s'.heap/\RelV v u/\Q v H'
def CR (CX:CXT)(outer:List Env)(P:Program)(w:World)(H:Hp)(s:Shared)(Q:VK)(E:XK)(r:Result)(s':Shared):Prop:=
 match r with
 | .ok (.ret u)=>CE outer P w H s Q u s'
 | .ok _=>False
 | .error e=>CX outer H s E e s'
structure FnOk (P:Program) (w:World) (K:PySem.W.Frag) (mg:Str->Option Value) (base:Heap) (CX:CXT) (k:Nat) (f:Addr) (fd:FuncData) (ps:List Str) (sp:Sp):Prop where
 len:∀ vs H Q E,sp vs H Q E->vs.length=ps.length
 run:∀(A:Around)(outer:List Env)(s:Shared)(H:Hp)(args:Args)(us:List Value)(vs:List V)(Q:VK)(E:XK),Room k A->Env0 P w K mg base A outer s H->BindsTo s fd args (ps.zip us)->Vals vs us->sp vs H Q E->
  codeAny (model P w) A (.call (.ref f) args) (CR CX outer P w H s Q E) s
theorem FnOk.imp {P:Program}{w:World}{K:PySem.W.Frag}{mg:Str->Option Value}{base:Heap}{CX:CXT}{k:Nat}{f:Addr}{fd:FuncData}{ps:List Str}{sp sp':Sp}(F:FnOk P w K mg base CX k f fd ps sp)
 (h:∀ vs H Q E,sp' vs H Q E->sp vs H Q E):FnOk P w K mg base CX k f fd ps sp':=
 ⟨fun vs H Q E q=>F.len vs H Q E (h _ _ _ _ q),fun A outer s H args us vs Q E hr he hb hv hs=>F.run A outer s H args us vs Q E hr he hb hv (h _ _ _ _ hs)⟩
section
variable {X:Cx}{pins:List (Addr×Obj)}{σ:St}{H:Hp}{s s':Shared}
theorem Inv.env0 (I:Inv X pins σ H s):Env0 X.prog X.w X.K X.mg X.base X.A X.stack s H:=
 ⟨I.ok.frames,I.ok.mod,I.bs,Nat.le_trans I.ok.bsz I.sz,I.stack,I.stkFree,I.hok,I.bare⟩
theorem Inv.after {Q:VK}{u:Value}(I:Inv X pins σ H s)(h:CE X.stack X.prog X.w H s Q u s'):EP X pins σ Q u s':=by
 obtain⟨v,H',os,bare,un,hok,r,q⟩:=h
 obtain⟨hh,g,d,t,os'⟩:=s'
 obtain rfl:os'=s.os:=os
 exact⟨v,H',I.call (h':=hh) (g':=g) (d':=d) (t':=t) (ch:=[]) un hok bare (fun b z=>absurd z (by simp)),r,q⟩
end
def CN (sp:Sp)(dvs:List V)(E:XK)(t:TA):TE:=fun σ H Q=>t σ H fun vs H1=>sp (vs++dvs) H1 Q E
def Binds (K:PySem.W.Frag)(fd:FuncData)(ps:List Str)(ds:List Value):Prop:=
 ∀(s:Shared)(us:List Value),K.In s.heap->(us++ds).length=ps.length->BindsTo s fd ⟨us,[]⟩ (ps.zip (us++ds))
theorem Binds.all {K:PySem.W.Frag}{fd:FuncData}{ps:List Str}(h:∀ us:List Value,us.length=ps.length->bindArgs fd ⟨us,[]⟩=pure (ps.zip us)):Binds K fd ps []:=fun s us _ hl=>by
 rw[List.append_nil]at hl ⊢
 exact .of_eq (h us hl)
def kC (CX:CXT)(X:Cx)(E:XK):Prop:=∀(pins:List (Addr×Obj))(σ:St)(H:Hp)(s:Shared)(e:Value)(s':Shared),Inv X pins σ H s->CX X.stack H s E e s'->X.xe e s'
section
variable {X:Cx}{CX:CXT}{k:Nat}{f C:Addr}{fd:FuncData}{ps:List Str}{sp:Sp}{dvs:List V}{ds:List Value}{E:XK}{x m:Str}{p pos apos:Pos}{e o:Expr}{es:List Expr}{ta:TE}{t:TA}
theorem DT {pins:List (Addr×Obj)}{σ:St}{H:Hp}{s:Shared}{Q:VK}{us:List Value}{vs:List V}(F:FnOk X.prog X.w X.K X.mg X.base CX k f fd ps sp)(hr:Room k X.A)(hb:Binds X.K fd ps ds)(hd:Vals dvs ds)(hx:kC CX X E)
 (I:Inv X pins σ H s) (r:Vals vs us) (h:sp (vs++dvs) H Q E):wpAny (model X.prog X.w) X.A (call (.ref f) us) (EP X pins σ Q) X.xe s:=by
 have r2:Vals (vs++dvs) (us++ds):=r.append hd
 have hl:(us++ds).length=ps.length:=by rw[<- r2.length];exact F.len _ _ _ _ h
 refine wpAny_call (codeAny_mono (F.run X.A X.stack s H ⟨us,[]⟩ (us++ds) (vs++dvs) Q E hr I.env0 (hb s us I.kIn hl) r2 h) fun r s' hq=>?_)
 cases r with
 |error e=>exact hx pins σ H s e s' I hq
 |ok fl=>
  cases fl with
  |ret u=>exact I.after hq
  |next=>exact False.elim hq
  |brk=>exact False.elim hq
  |cont=>exact False.elim hq
theorem vx (F:FnOk X.prog X.w X.K X.mg X.base CX k f fd ps sp)(hr:Room k X.A)(hg:Gl X x)(hm:X.mg x=some (.ref f))(hk:PySem.W.keepIn X.K (.ref f)=true)(hb:Binds X.K fd ps ds)(hd:Vals dvs ds)(hx:kC CX X E)
 (ha:PA X (e::es) t) (hdb:(x==("__debug__" : Str))=false:=by decide) (he:starEach (e::es) X.env=(false,eval e X.env)::starEach es X.env:=by rfl) (hpl:(backTo pos (starEach es X.env)).any (·.1)=false:=by rfl) :
 PE X (.Call (.Name x p) (e::es) [] pos) (CN sp dvs E t):=by
 intro pins s σ H Q I h
 refine wpAny_Call_Name_kw (Be I hg hm ?_ hdb)
 refine PySem.W.callWith_K (h₀:=X.base) I.ok.mod.kin hk (bS (ha pos pins s σ H _ I h) fun us s1 ⟨vs,H1,I1,r,q⟩=>⟨I1.kIn,?_⟩) he hpl
 exact DT F hr hb hd hx I1 r q
end
section
variable {X:Cx}{CX:CXT}{k:Nat}{f C:Addr}{fd:FuncData}{ps ks:List Str}{sp:Sp}{E:XK}{x m:Str}{p pos apos kpos:Pos}{e o:Expr}{es:List Expr}{kws:List Keyword}{te ta:TE}{t tk:TA}{nm:Option Str}
variable {g:List Value->List Value->List Value}{gV:List V->List V->List V}
end
structure FnScope (N P:List Str) (sc:Scope):Prop where
 kind:sc.kind=.function
 co:sc.isCoroutine=false
 gen:sc.isGenerator=false
 nd:N.Nodup
 pre:N.take P.length=P
 par:∀ x∈P,sc.names.lookup x=some .local\/sc.names.lookup x=some .cell
 nofree:∀ y∈sc.names,y.2≠.free
theorem mP {kindOf:Str->Option NameKind}{x:Str}:∀{binds:List (Str×Value)}{m:Str->Option Value},(∀ v,(x,v)∉binds)->bindL kindOf binds m x=m x
 | [],_,_=>rfl
 |(n,v)::r,m,h=>by
  unfold bindL
  rw[mP fun w hw=>h w (List.mem_cons_of_mem _ hw)]
  split
  ·have:x≠n:=by rintro rfl;exact h v List.mem_cons_self
   simp[this]
  ·rfl
theorem mQ {kindOf:Str->Option NameKind}{x:Str}:∀{binds:List (Str×Value)}{m:Str->Option Value},(∀ v,(x,v)∉binds)->bindC kindOf binds m x=m x
 | [],_,_=>rfl
 |(n,v)::r,m,h=>by
  unfold bindC
  rw[mQ fun w hw=>h w (List.mem_cons_of_mem _ hw)]
  split
  ·rfl
  ·have:x≠n:=by rintro rfl;exact h v List.mem_cons_self
   simp[this]
theorem mR {kindOf:Str->Option NameKind}{x:Str}{v:Value}:∀{P:List Str}{vs:List Value}{i:Nat}{m:Str->Option Value},P.Nodup->P[i]?=some x->vs[i]?=some v->kindOf x=some .local->
 bindL kindOf (P.zip vs) m x=some v
 | [],_,_,_,_,h,_,_=>by simp at h
 |_::_,[],_,_,_,_,h,_=>by simp at h
 |p::P,w::vs,0,m,nd,h1,h2,hk=>by
  simp at h1 h2;subst h1;subst h2
  show bindL kindOf ((p,w)::P.zip vs) m p=_
  unfold bindL
  rw[mP fun v hv=>(List.nodup_cons.mp nd).1 (List.of_mem_zip hv).1,if_pos hk]
  simp
 |p::P,w::vs,i+1,m,nd,h1,h2,hk=>by
  show bindL kindOf ((p,w)::P.zip vs) m x=_
  unfold bindL
  exact mR (i:=i) (List.nodup_cons.mp nd).2 (by simpa using h1) (by simpa using h2) hk
theorem mS {kindOf:Str->Option NameKind}{x:Str}{v:Value}:∀{P:List Str}{vs:List Value}{i:Nat}{m:Str->Option Value},P.Nodup->P[i]?=some x->vs[i]?=some v->kindOf x≠some .local->
 bindC kindOf (P.zip vs) m x=some v
 | [],_,_,_,_,h,_,_=>by simp at h
 |_::_,[],_,_,_,_,h,_=>by simp at h
 |p::P,w::vs,0,m,nd,h1,h2,hk=>by
  simp at h1 h2;subst h1;subst h2
  show bindC kindOf ((p,w)::P.zip vs) m p=_
  unfold bindC
  rw[mQ fun v hv=>(List.nodup_cons.mp nd).1 (List.of_mem_zip hv).1,if_neg hk]
  simp
 |p::P,w::vs,i+1,m,nd,h1,h2,hk=>by
  show bindC kindOf ((p,w)::P.zip vs) m x=_
  unfold bindC
  exact mS (i:=i) (List.nodup_cons.mp nd).2 (by simpa using h1) (by simpa using h2) hk
def cJ (N:List Str)(vs:List V):St:=vs.map some++List.replicate (N.length-vs.length) none
def qJ (CX:CXT)(P:Program)(w:World)(K:PySem.W.Frag)(mg:Str->Option Value)(base:Heap)(N:List Str)(qual:Str)(scope:Scope)(f:Addr)(cd:Value)(A:Around)(outer:List Env)(s:Shared)(H:Hp)(E:XK):Cx where
 prog:=P
 w:=w
 K:=K
 mg:=mg
 base:=base
 A:=A.deeper (envOfC qual scope s.heap.objs.size f cd)
 N:=N
 s₀:=s
 H₀:=H
 env:=envOfC qual scope s.heap.objs.size f cd
 outer:=outer
 stack:=envOfC qual scope s.heap.objs.size f cd::outer
 ex:=[]
 calm:=true
 fn:=fun _=>true
 pn:=[]
 xe:=fun e s'=>wpAny (model P w) (A.deeper (envOfC qual scope s.heap.objs.size f cd)) (leaving (envOfC qual scope s.heap.objs.size f cd) e) (fun _ s''=>CX outer H s E e s'') (fun e' s''=>CX outer H s E e' s'') s'
theorem qK {sc:Scope}{n:Nat}{x:Str}(h:sc.names.lookup x=some .cell):∃ c,(cellsFrom n sc.names []).lookup x=some c:=by
 have q:=PySem.W.cellsFrom_some sc.names n [] (.inl h)
 exact Option.isSome_iff_exists.mp q
theorem wQ {CX:CXT}{P:Program}{w:World}{K:PySem.W.Frag}{mg:Str->Option Value}{base:Heap}{N ps:List Str}{qual:Str}{scope:Scope}{f:Addr}{cd:Value}{A:Around}{outer:List Env}{s s1:Shared}{H:Hp}{E:XK}{us:List Value}{vs:List V}
 (S:FnScope N ps scope) (hd:A.handled=none) (e0:Env0 P w K mg base A outer s H) (hl:vs.length=ps.length) (r:Vals vs us)
 (x:InCallC s s.heap.objs.size (bindL (envOfC qual scope s.heap.objs.size f cd).kindOf (ps.zip us) fun _=>none) (cellsFrom (s.heap.objs.size+1) scope.names []) (bindC (envOfC qual scope s.heap.objs.size f cd).kindOf (ps.zip us) fun _=>none) s1) :
 Inv (qJ CX P w K mg base N qual scope f cd A outer s H E) [] (cJ N vs) H s1:=by
 have hpl:ps.length<=N.length:=by have:=congrArg List.length S.pre;rw[List.length_take]at this;omega
 obtain⟨h1,tk,rfl,hk⟩:=x.done
 have noA:∀ b:Addr,b∉(qJ CX P w K mg base N qual scope f cd A outer s H E).ex:=fun b z=>absurd (show b∈([]:List Addr) from z) (by simp)
 refine⟨⟨e0.mod,S.kind,rfl,rfl,Nat.le_refl _,fun y z c h1 h2=>?_,fun y hy=>?_,fun y c _ h=>?_,fun _=>hd,Around.frames_deeper e0.frames,.inr ⟨rfl,rfl⟩,fun b z=>absurd z (noA b),e0.bs,e0.bsz,fun b _ _=>noA b,fun b z=>absurd z (noA b),e0.funs,e0.frf⟩,
  rfl,e0.bare,Un.kept hk,⟨_,x.toInCall.ns,fun i y v h1 h2 h3=>?_⟩,fun y c h=>⟨_,x.cell y c h⟩,e0.hok.fresh (Nat.le_refl _),fun y c h=>?_,fun p hp=>absurd (show p∈([]:List (Addr×Obj)) from hp) (by simp),e0.hok.kept hk,?_⟩
 ·exact name_of_addr x.apart (PySem.mem_of_lookup h1) (PySem.mem_of_lookup h2)
 ·have hy:scope.names.lookup y=some .cell\/scope.names.lookup y=some .free:=hy
  rcases hy with hy|hy
  ·exact qK hy
  ·exact absurd rfl (S.nofree _ (PySem.mem_of_lookup hy))
 ·exact Nat.le_of_lt (x.above y c (PySem.mem_of_lookup h))
 ·have hi:i<vs.length:=by
   unfold cJ at h2
   by_cases hi:i<vs.length
   ·exact hi
   ·rw[List.getElem?_append_right (by simpa using hi)]at h2
    rw[List.getElem?_replicate]at h2
    split at h2<;>cases h2
  have ha:vs[i]?=some v:=by
   unfold cJ at h2
   rw[List.getElem?_append_left (by simpa using hi),List.getElem?_map]at h2
   cases e:vs[i]? with
   |none=>rw[e]at h2;cases h2
   |some a=>rw[e]at h2;cases h2;rfl
  obtain⟨u,hu,rv⟩:=r.get ha
  have hp:ps[i]?=some y:=by
   rw[<- S.pre,List.getElem?_take_of_lt (by omega)];exact h1
  have ndP:ps.Nodup:=by rw[<- S.pre];exact S.nd.sublist (List.take_sublist _ _)
  refine⟨u,rv,?_⟩
  rcases S.par y (List.mem_of_getElem? hp) with k|k
  ·exact .inl ⟨k,mR ndP hp hu k⟩
  ·obtain⟨c,e⟩:=qK (n:=s.heap.objs.size+1) k
   refine .inr ⟨.inl k,c,e,?_⟩
   have q:=x.cell y c e
   rw[mS ndP hp hu (by show scope.names.lookup y≠_;rw[k];decide)]at q
   exact q
 ·exact e0.hok.fresh (Nat.le_of_lt (x.above y c (PySem.mem_of_lookup h)))
 ·unfold cJ
  show _=N.length
  rw[List.length_append,List.length_map,List.length_replicate]
  omega
theorem FP {CX:CXT}{P:Program}{w:World}{K:PySem.W.Frag}{mg:Str->Option Value}{base:Heap}{k:Nat}{f:Addr}{name qual:Str}{params:Arguments}{body:List Stmt}{scope:Scope}{dV kV doc pm cdv ct oc:Value}{an od:Option Addr}
 {osl:Array (Option Value)} {N ps:List Str} {sp:Sp} (lk:K.lookup f=some ⟨oc,od,.func (PySem.W.fnOf name qual params body scope dV kV doc pm an cdv ct),osl⟩) (hcd:PySem.W.codeIn K cdv qual=true) (S:FnScope N ps scope)
 (len:∀ vs H Q E,sp vs H Q E->vs.length=ps.length)
 (hbody:∀(A:Around)(outer:List Env)(s:Shared)(H:Hp)(vs:List V)(Q:VK)(E:XK),Room k (A.deeper (envOfC qual scope s.heap.objs.size f cdv))->sp vs H Q E->
   ∃ t,PSs (qJ CX P w K mg base N qual scope f cdv A outer s H E) body t/\t { nx:=fun _ H'=>Q .non H',rt:=Q } (cJ N vs) H) :
 FnOk P w K mg base CX (k+1) f (PySem.W.fnOf name qual params body scope dV kV doc pm an cdv ct) ps sp:=by
 refine⟨len,fun A outer s H args us vs Q E hr e0 hb r hsp=>?_⟩
 have hl:=len _ _ _ _ hsp
 have KX:K.In s.heap:=e0.mod.kin.keeps fun b o e=>(e0.bs b o e).1
 have lim:s.heap.NoLimit:=e0.mod.nolimit.keeps fun b o e=>(e0.bs b o e).1
 have hkind:∀ y∈ps.zip us,scope.names.lookup y.1=some .local\/(scope.names.lookup y.1=some .cell/\((cellsFrom (s.heap.objs.size+1) scope.names []).lookup y.1).isSome=true):=fun⟨n,v⟩ hy=>by
  rcases S.par n (List.of_mem_zip hy).1 with q|q
  ·exact .inl q
  ·exact .inr ⟨q,PySem.W.cellsFrom_some _ _ _ (.inl q)⟩
 refine codeAny_call_function hr.depth (KX _ _ lk) rfl S.co S.gen rfl (PySem.W.codeRec_of KX hcd) (hb _ _ _ _ ?_)
 refine wpAny_newFunctionEnv_cells S.kind hkind fun env he s1 x=>?_
 subst he
 refine⟨lim.keeps x.toInCall.keep,codeAny_func ?_⟩
 obtain⟨t,ht,hq⟩:=hbody A outer s H vs Q E (hr.deeper _) hsp
 have I:Inv (qJ CX P w K mg base N qual scope f cdv A outer s H E) [] (cJ N vs) H s1:=wQ S hr.hd e0 hl r x
 refine wpAny_mono (ht [] s1 (cJ N vs) H _ I hq) (fun fl s' hs=>?_) fun e s' hs=>hs
 have fin:∀{σ':St}{H':Hp}{v:V}{u:Value},Inv (qJ CX P w K mg base N qual scope f cdv A outer s H E) [] σ' H' s'->RelV v u->Q v H'->CE outer P w H s Q u s':=
  fun{σ' H' v u} J rv q=>⟨v,H',J.os,J.bare,J.base,J.hok,rv,q⟩
 cases fl with
 |ret u=>
  obtain⟨v,σ',H',J,rv,q⟩:=hs
  exact fin J rv q
 |next=>
  obtain⟨σ',H',J,q⟩:=hs
  exact fin (v:=V.non) (u:=Value.none) J rfl q
 |brk=>
  obtain⟨_,_,_,q⟩:=hs
  exact False.elim q
 |cont=>
  obtain⟨_,_,_,q⟩:=hs
  exact False.elim q
end L2
namespace L2
open PySem PySem.Spec PyProof.Rows
section
variable {X:Cx}{x:Str}{p pos:Pos}{e:Expr}{es:List Expr}{t:TA}{id T:String}{r:List V->Hp->VK->Prop}
def HF (r:List V->Hp->VK->Prop)(t:TA):TE:=fun σ H Q=>t σ H fun vs H1=>r vs H1 Q
theorem kE (hc:CallR X (.builtin id) r) (hg:Gl X x) (hm:X.mg x=none) (hv:bootBuiltins x=some (.builtin id)) (ha:PA X (e::es) t) (hn:x≠"__name__":=by decide) (hdb:(x==("__debug__" : Str))=false:=by decide)
 (he:starEach (e::es) X.env=(false,eval e X.env)::starEach es X.env:=by rfl) (hpl:(backTo pos (starEach es X.env)).any (·.1)=false:=by rfl):PE X (.Call (.Name x p) (e::es) [] pos) (HF r t):=by
 intro pins s σ H Q I h
 refine wpAny_Call_Name_kw (fW I hg hm hv ?_ hn hdb)
 exact PyProof.Rows.callWith_builtin1 (bS (ha pos pins s σ H _ I h) fun us s1 ⟨vs,H1,I1,r1,q1⟩=>hc pins s1 σ H1 vs us Q I1 r1 q1) he hpl
theorem mT (hc:CallR X (.type T) r) (hg:Gl X x) (hm:X.mg x=none) (hv:bootBuiltins x=some (.type T)) (ha:PA X (e::es) t) (hn:x≠"__name__":=by decide) (hdb:(x==("__debug__" : Str))=false:=by decide)
 (he:starEach (e::es) X.env=(false,eval e X.env)::starEach es X.env:=by rfl) (hpl:(backTo pos (starEach es X.env)).any (·.1)=false:=by rfl):PE X (.Call (.Name x p) (e::es) [] pos) (HF r t):=by
 intro pins s σ H Q I h
 refine wpAny_Call_Name_kw (fW I hg hm hv ?_ hn hdb)
 exact PyProof.Rows.callWith_type1 (bS (ha pos pins s σ H _ I h) fun us s1 ⟨vs,H1,I1,r1,q1⟩=>hc pins s1 σ H1 vs us Q I1 r1 q1) he hpl
end
end L2
namespace HT
open PySem PyProof.Rows
section
open PySem.SeqAt
open PySem.AutoSeq1 (wpAny_loadPart')
open PySem.MeetsSeq PySem.MeetsSeq2 PySem.MeetsSeq3
end
section
variable {prog:Program}{w:World}{A:Around}{E:Value->Shared->Prop}{s:Shared}
theorem cat_tup {t b:Addr}{vs ws:List Value}{Q:Value->Shared->Prop}(ht:IsTup s.heap t vs.toArray)(hb:IsTup s.heap b ws.toArray)(hv:vs≠[])
 (h1:ws=[]->Q (.ref t) s) (h2:ws≠[]->Q (.ref s.heap.objs.size) { s with heap:=s.heap.push { cls:=.type "tuple",data:=.seq (vs++ws).toArray } })
 (hsz:vs.length+ws.length<=sizeLine):wpAny (model prog w) A (binaryOp .Add (.ref t) (.ref b)) Q E s:=by
 obtain⟨⟨cls,dd,data,sl⟩,ho,hc,n,hd⟩:=id ht
 obtain⟨⟨cls2,dd2,data2,sl2⟩,ho2,hc2,n2,hd2⟩:=id hb
 simp only at hc hd hc2 hd2
 subst hc hd hc2 hd2
 have e:vs.toArray++ws.toArray=(vs++ws).toArray:=by simp
 by_cases hw:ws=[]
 ·exact concat_meets ⟨_,ho,rfl⟩ ⟨_,ho2,rfl⟩ noFill_tuple_add seq_tuple_add PySem.F.slot_tuple_add PySem.F.entry_tuple_add (PySem.F.args_tuple_add_2 _ _)
   (tuple_addW1 t b vs.toArray ws.toArray n n2 dd dd2 sl sl2 (by simpa using hv) (by simp[hw])) ⟨ho,ho2,h1 hw⟩
 ·refine concat_meets ⟨_,ho,rfl⟩ ⟨_,ho2,rfl⟩ noFill_tuple_add seq_tuple_add PySem.F.slot_tuple_add PySem.F.entry_tuple_add (PySem.F.args_tuple_add_2 _ _)
   (tuple_addW2 t b vs.toArray ws.toArray n n2 dd dd2 sl sl2 (by simpa using hv) (by simpa using hw) (by rw[List.size_toArray,List.size_toArray];exact hsz)) ⟨ho,ho2,?_⟩
  rw[e]
  exact h2 hw
def sIx (n d:Nat):Option Int->Nat
 |none=>d
 |some v=>if v<0 then (v+(n:Int)).toNat else min v.toNat n
theorem sIx_nat (n d k:Nat):sIx n d (some (k:Int))=min k n:=by
 show(if (k:Int)<0 then ((k:Int)+(n:Int)).toNat else min (k:Int).toNat n)=min k n
 rw[if_neg (by omega),Int.toNat_natCast]
theorem DU (n d:Nat)(hd:d<=n)(o:Option Int):sIx n d o<=n:=by
 cases o with
 |none=>exact hd
 |some v=>
  show(if v<0 then (v+(n:Int)).toNat else min v.toNat n)<=n
  by_cases hv:v<0
  ·rw[if_pos hv];omega
  ·rw[if_neg hv];exact Nat.min_le_right _ _
theorem vy (v:Int)(n d:Nat):(if v<0 then max (v+(n:Int)) 0 else min v (n:Int))=((sIx n d (some v):Nat):Int):=by
 show(if v<0 then max (v+(n:Int)) 0 else min v (n:Int))=(((if v<0 then (v+(n:Int)).toNat else min v.toNat n):Nat):Int)
 by_cases hv:v<0
 ·simp only[if_pos hv];omega
 ·simp only[if_neg hv];omega
theorem sO (lo hi:Option Int)(n:Nat):Builtin.Slice.sliceAdjust lo hi 1 (n:Int)=(((sIx n 0 lo:Nat):Int),((sIx n n hi:Nat):Int)):=by
 have h1:¬ ((1:Int)<0):=by omega
 unfold Builtin.Slice.sliceAdjust
 simp only[h1,if_false]
 refine Prod.ext ?_ ?_
 ·cases lo with
  |none=>rfl
  |some v=>exact vy v n 0
 ·cases hi with
  |none=>rfl
  |some v=>exact vy v n n
theorem sP (i j:Nat):Builtin.Slice.slicePlaces (i:Int) (j:Int) 1=j-i:=by
 unfold Builtin.Slice.slicePlaces
 have h1:(1:Int)>0:=by omega
 simp only[h1,if_true,Int.ediv_one]
 split<;>omega
theorem kF {v:Value}{o:Option Int}{Q:Option Int->Shared->Prop}(p:IsPart v o)(h:Q o s):wpAny (model prog w) A (Builtin.Slice.slicePartIndex v) Q E s:=by
 cases p with
 |none=>exact slicePart_none h
 |int i t=>exact slicePart_int h
theorem sliceApplied_gen {sl:Addr}{vl vu:Value}{lo hi:Option Int}{n:Nat}{Q:Int×Int×Nat->Shared->Prop}(hs:s.heap.IsSliceOf sl vl vu .none)(pl:IsPart vl lo)(pu:IsPart vu hi)
 (h:Q (((sIx n 0 lo:Nat):Int),1,sIx n n hi-sIx n 0 lo) s):wpAny (model prog w) A (Builtin.Slice.sliceApplied (.ref sl) (pure (n:Int))) Q E s:=by
 obtain⟨os,hos,hcs,hds⟩:=id hs
 unfold Builtin.Slice.sliceApplied Builtin.Slice.sliceFields
 refine wpAny_bind (wpAny_bind (wpAny_field hos hds (x:=vl) rfl (wpAny_bind (wpAny_field hos hds (x:=vu) rfl (wpAny_bind (wpAny_field hos hds (x:=.none) rfl (wpAny_pure ?_)))))))
 refine wpAny_bind (slicePart_none ?_)
 show wpAny _ _ (if ((1:Int)==0)=true then _ else _) _ _ s
 rw[if_neg (by decide)]
 refine wpAny_bind (kF pl (wpAny_bind (kF pu (wpAny_bind (wpAny_pure ?_)))))
 show wpAny _ _ (match Builtin.Slice.sliceAdjust lo hi 1 (n:Int) with|(lo,hi)=>pure (lo,(1:Int),Builtin.Slice.slicePlaces lo hi 1)) _ _ s
 rw[sO lo hi n]
 show wpAny _ _ (pure (((sIx n 0 lo:Nat):Int),(1:Int),Builtin.Slice.slicePlaces ((sIx n 0 lo:Nat):Int) ((sIx n n hi:Nat):Int) 1)) _ _ s
 rw[sP]
 exact wpAny_pure h
theorem yd (xs:Array Value)(i k:Nat):((List.range k).filterMap fun(m:Nat)=>xs[((i:Int)+(m:Int)*1).toNat]?).toArray=((xs.toList.drop i).take k).toArray:=by
 have e:(fun(m:Nat)=>xs[((i:Int)+(m:Int)*1).toNat]?)=fun m=>xs[i+m]?:=by
  funext m
  have:((i:Int)+(m:Int)*1).toNat=i+m:=by omega
  rw[this]
 rw[e]
 have:=pick_run xs i k
 rw[List.filterMap_map]at this
 have e2:((fun x=>xs[x]?) ∘ fun x=>i+x)=fun m=>xs[i+m]?:=rfl
 rw[e2]at this
 rw[this]
theorem getItem_tuple_cut {t sl:Addr}{items:Array Value}{vl vu:Value}{lo hi:Option Int}{Q:Value->Shared->Prop}(ht:IsTup s.heap t items)(hs:s.heap.IsSliceOf sl vl vu .none)(pl:IsPart vl lo)(pu:IsPart vu hi)
 (hw:¬ (sIx items.size 0 lo=0/\sIx items.size items.size hi=items.size))
 (h:Q (.ref s.heap.objs.size) { s with heap:=s.heap.push { cls:=.type "tuple",data:=.seq ((items.toList.drop (sIx items.size 0 lo)).take (sIx items.size items.size hi-sIx items.size 0 lo)).toArray } })
 (hsz:items.size<=sizeLine):wpAny (model prog w) A (getItem (.ref t) (.ref sl)) Q E s:=by
 have htake:sizeOk (.seq ((items.toList.drop (sIx items.size 0 lo)).take (sIx items.size items.size hi-sIx items.size 0 lo)).toArray):=by
  show((items.toList.drop (sIx items.size 0 lo)).take (sIx items.size items.size hi-sIx items.size 0 lo)).toArray.size<=sizeLine
  rw[List.size_toArray,List.length_take,List.length_drop,Array.length_toList]
  omega
 have hj:sIx items.size items.size hi<=items.size:=DU _ _ (Nat.le_refl _) hi
 obtain⟨os,hos,hcs,hds⟩:=id hs
 have hTs:s.TypeIs (.ref sl) "slice":=⟨os,hos,hcs⟩
 unfold getItem
 try with_reducible refine wpAny_holding ?_
 first|refine wpAny_bind (wpAny_pure ?_)|skip
 refine wpAny_bind (wpAny_sequenceKey ht.typeIs (by decide) ?_)
 refine wpAny_bind (wpAny_callSpecial?_slot (name:=Str.ofString "__getitem__") ht.typeIs PyProof.Rows.slot_tuple_getitem
  (wpAny_call_entry PyProof.Rows.slot_tuple_getitem ht.typeIs entry_tuple_getitem ?_ (args_tuple_getitem _ _)))
 show wpAny _ _ (Builtin.Tuple.tupleItemsOf (.ref t) >>= _) _ _ s
 refine wpAny_bind (tupleItemsOf_ ht ?_)
 refine wpAny_bind (wpAny_typeOf hTs ?_)
 rw[if_pos (by decide)]
 refine wpAny_bind (sliceApplied_gen hs pl pu ?_)
 have hno:¬ ((((sIx items.size 0 lo:Nat):Int)==0&&(1:Int)==1&&(sIx items.size items.size hi-sIx items.size 0 lo)==items.size)=true):=by
  intro q
  rw[Bool.and_eq_true,Bool.and_eq_true]at q
  have q1:((sIx items.size 0 lo:Nat):Int)=0:=eq_of_beq q.1.1
  have q2:sIx items.size items.size hi-sIx items.size 0 lo=items.size:=eq_of_beq q.2
  exact hw ⟨by omega,by omega⟩
 show wpAny _ _ (if (((sIx items.size 0 lo:Nat):Int)==0&&(1:Int)==1&&(sIx items.size items.size hi-sIx items.size 0 lo)==items.size)=true then _ else _) _ _ s
 rw[if_neg hno,yd]
 first
  |exact wpAny_bind (m:=Builtin.Tuple.tupleExact _) (wpAny_newObj_type (wpAny_pure ⟨_,rfl,wpAny_pure h⟩) htake)
  |exact wpAny_bind (m:=Builtin.Tuple.tupleExact _) (wpAny_newObj_type (wpAny_bind (wpAny_pure (wpAny_pure ⟨_,rfl,wpAny_pure h⟩))) htake)
  |exact wpAny_bind (wpAny_bind (m:=Builtin.Tuple.tupleExact _) (wpAny_newObj_type (wpAny_pure (wpAny_pure ⟨_,rfl,wpAny_pure h⟩)) htake))
  |exact wpAny_bind (wpAny_bind (m:=Builtin.Tuple.tupleExact _) (wpAny_newObj_type (wpAny_pure ⟨_,rfl,wpAny_pure h⟩) htake))
end
end HT
namespace L2
open PySem PySem.Spec PyProof.Rows
abbrev TO:=St->Hp->(Option Int->Hp->Prop)->Prop
def PO (X:Cx)(e:Option Expr)(t:TO):Prop:=
 ∀(pins:List (Addr×Obj))(s:Shared)(σ:St)(H:Hp)(Q:Option Int->Hp->Prop),Inv X pins σ H s->t σ H Q->
  wpAny (model X.prog X.w) X.A (evalPart e X.env) (fun u s'=>∃ o H',Inv X pins σ H' s'/\IsPart u o/\Q o H') X.xe s
def Bn:TO:=fun _ H Q=>Q none H
def FQ (t:TE):TO:=fun σ H Q=>t σ H fun x H1=>∃ i,x=.int i/\Q (some i) H1
section
variable {X:Cx}{e:Expr}{te:TE}{lo hi:Option Expr}{tl th:TO}{pos p2:Pos}
theorem Bo:PO X none Bn:=by
 intro pins s σ H Q I h
 rw[evalPart_none]
 exact wpAny_pure ⟨none,H,I,.none,h⟩
theorem Bp (h:PE X e te):PO X (some e) (FQ te):=by
 intro pins s σ H Q I hw
 rw[evalPart_some]
 refine bS (h pins s σ H _ I hw) fun u s1 ⟨x,H1,I1,r1,q1⟩=>?_
 obtain⟨i,rfl,q⟩:=q1
 obtain⟨t,rfl⟩:=r1
 exact⟨some i,H1,I1,.int i t,q⟩
def SlR (X:Cx)(r:V->Option Int->Option Int->Hp->VK->Prop):Prop:=
 ∀(pins:List (Addr×Obj))(s:Shared)(σ:St)(H:Hp)(x:V)(v vl vu:Value)(lo hi:Option Int)(sl:Addr)(Q:VK),Inv X pins σ H s->RelV x v->s.heap.IsSliceOf sl vl vu .none->IsPart vl lo->IsPart vu hi->r x lo hi H Q->
  ∃ T id,typeLookup (.type T) "__getitem__"=pure (some (.builtin id))/\s.TypeIs v T/\wpAny (model X.prog X.w) X.A (getItem v (.ref sl)) (EP X pins σ Q) X.xe s
theorem SlR.or {r r':V->Option Int->Option Int->Hp->VK->Prop}(h:SlR X r)(h':SlR X r'):SlR X (fun x lo hi H Q=>r x lo hi H Q\/r' x lo hi H Q):=by
 intro pins s σ H x v vl vu lo hi sl Q I rx hs pl pu q
 rcases q with q|q
 ·exact h pins s σ H x v vl vu lo hi sl Q I rx hs pl pu q
 ·exact h' pins s σ H x v vl vu lo hi sl Q I rx hs pl pu q
def HP (r:V->Option Int->Option Int->Hp->VK->Prop)(te:TE)(tl th:TO):TE:=fun σ H Q=>te σ H fun x H1=>tl σ H1 fun l H2=>th σ H2 fun u H3=>r x l u H3 Q
theorem ye {r:V->Option Int->Option Int->Hp->VK->Prop}(hr:SlR X r)(he:PE X e te)(hl:PO X lo tl)(hu:PO X hi th):PE X (.Subscript e (.Slice lo hi none p2) pos) (HP r te tl th):=by
 intro pins s σ H Q I h
 refine Subscript_ (bS (he pins s σ H _ I h) fun v s1 ⟨x,H1,I1,r1,q1⟩=>?_)
 refine wpAny_Slice (bS (hl pins s1 σ H1 _ I1 q1) fun vl s2 ⟨l,H2,I2,pl,q2⟩=>bS (hu pins s2 σ H2 _ I2 q2) fun vu s3 ⟨u,H3,I3,pu,q3⟩=>?_)
 rw[evalPart_none]
 refine wpAny_pure ?_
 have I4:Inv X pins σ H3 { s3 with heap:=s3.heap.push { cls:=.type "slice",data:=.fields #[vl,vu,.none] } }:=I3.kept (t':=s3.toks) fun b ob q=>Heap.get?_push_of_some _ q
 obtain⟨T,id,hT,ht,hg⟩:=hr pins { s3 with heap:=s3.heap.push { cls:=.type "slice",data:=.fields #[vl,vu,.none] } } σ H3 x v vl vu l u s3.heap.objs.size Q I4 r1 (Heap.IsSliceOf.new ..) pl pu q3
 show wpAny (model X.prog X.w) X.A (subscriptTail e (.Slice lo hi none p2) v (.ref s3.heap.objs.size)) (EP X pins σ Q) X.xe { s3 with heap:=s3.heap.push { cls:=.type "slice",data:=.fields #[vl,vu,.none] } }
 exact tail_any (ops:=[.ref s3.heap.objs.size,v]) ht hT hg (by with_unfolding_all rfl)
def qL (xs:List V)(lo hi:Option Int):List V:=(xs.drop (HT.sIx xs.length 0 lo)).take (HT.sIx xs.length xs.length hi-HT.sIx xs.length 0 lo)
theorem jD (xs:List V)(lo hi:Option Int):(qL xs lo hi).length<=xs.length:=by
 unfold qL
 rw[List.length_take,List.length_drop]
 omega
def G7 (K:PySem.W.Frag):V->Option Int->Option Int->Hp->VK->Prop:=fun x lo hi H Q=>∃ a xs,x=.ref a/\SqT K H a xs/\
 ¬ (HT.sIx xs.length 0 lo=0/\HT.sIx xs.length xs.length hi=xs.length)/\∀ p,H p=none->Q (.ref p) (az H p (.tup (qL xs lo hi)))
theorem sl_tup:SlR X (G7 X.K):=by
 intro pins s σ H x v vl vu lo hi sl Q I rx hs pl pu h
 obtain⟨a,xs,rfl,hx,hw,q⟩:=h
 cases rx
 obtain⟨its,r,ht,hz⟩:=I.tuple hx
 have bc:its.toArray.size=xs.length:=by rw[List.size_toArray];exact r.length.symm
 refine⟨"tuple",_,PyProof.Rows.slot_tuple_getitem.lookup,ht.typeIs,?_⟩
 refine HT.getItem_tuple_cut ht hs pl pu (by rw[bc];exact hw) ?_ (by rw[bc];exact hz)
 rw[bc]
 refine⟨.ref s.heap.objs.size,_,I.laid (t':=s.toks) (o:=.tup (qL xs lo hi)) (fun b ob q=>Heap.get?_push_of_some _ q) (Nat.le_refl _) ?_,rfl,q _ (I.hok.fresh (Nat.le_refl _))⟩
 exact⟨Nat.le_trans (jD xs lo hi) hz,_,(r.drop (HT.sIx xs.length 0 lo)).take (HT.sIx xs.length xs.length hi-HT.sIx xs.length 0 lo),IsTup.new _ _⟩
def FR (K:PySem.W.Frag):R2:=fun x y H Q=>∃ a b xs ys,x=.ref a/\y=.ref b/\SqT K H a xs/\SqT K H b ys/\xs≠[]/\xs.length+ys.length<=sizeLine/\
 (ys=[]->Q (.ref a) H)/\(ys≠[]->∀ p,H p=none->Q (.ref p) (az H p (.tup (xs++ys))))
theorem Vals.nil_iff {xs:List V}{us:List Value}(r:Vals xs us):us=[]↔xs=[]:=by
 cases r with
 |nil=>simp
 |cons _ _=>simp
theorem op_catT:OpR X (binaryOp .Add) (FR X.K):=by
 intro pins s σ H x y v u Q I rx ry h
 obtain⟨a,b,xs,ys,rfl,rfl,ha,hb,hx,hz,q1,q2⟩:=h
 cases rx
 cases ry
 obtain⟨its,r1,p1,_⟩:=I.tuple ha
 obtain⟨its2,r2,p2,_⟩:=I.tuple hb
 refine HT.cat_tup p1 p2 (fun z=>hx (r1.nil_iff.mp z)) (fun z=>⟨.ref a,H,I,rfl,q1 (r2.nil_iff.mp z)⟩) (fun z=>?_) (by rw[<- r1.length,<- r2.length];exact hz)
 refine⟨.ref s.heap.objs.size,_,I.laid (t':=s.toks) (o:=.tup (xs++ys)) (fun b ob q=>Heap.get?_push_of_some _ q) (Nat.le_refl _) ?_,rfl,q2 (fun w=>z (r2.nil_iff.mpr w)) _ (I.hok.fresh (Nat.le_refl _))⟩
 exact⟨by rw[List.length_append];exact hz,_,r1.append r2,IsTup.new _ _⟩
end
end L2
namespace L2
open PySem PySem.Spec PyProof.Rows
def qM (n:Nat)(i:Int):Option Nat:=if 0<=i then (if i<n then some i.toNat else none) else if -(n:Int)<=i then some (i+n).toNat else none
def atI {α:Type}(xs:List α)(i:Int):Option α:=(qM xs.length i).bind fun j=>xs[j]?
theorem vz {n:Nat}{i:Int}{j:Nat}(h:qM n i=some j):seqIndex? i n=some j/\j<n/\-(n:Int)<=i/\i<n:=by
 unfold qM at h
 by_cases h0:0<=i
 ·rw[if_pos h0]at h
  by_cases h1:i<n
  ·rw[if_pos h1]at h
   have e:i.toNat=j:=Option.some.inj h
   exact⟨by rw[seqIndex_of h0 h1,e],by omega,by omega,h1⟩
  ·rw[if_neg h1]at h;cases h
 ·rw[if_neg h0]at h
  by_cases h1:-(n:Int)<=i
  ·rw[if_pos h1]at h
   have e:(i+n).toNat=j:=Option.some.inj h
   exact⟨by rw[seqIndex_neg (by omega) h1,e],by omega,h1,by omega⟩
  ·rw[if_neg h1]at h;cases h
theorem nY {α:Type}{xs:List α}{i:Int}{v:α}(h:atI xs i=some v):∃ j,seqIndex? i xs.length=some j/\xs[j]?=some v/\j<xs.length/\-(xs.length:Int)<=i/\i<xs.length:=by
 unfold atI at h
 cases e:qM xs.length i with
 |none=>rw[e]at h;cases h
 |some j=>
  rw[e]at h
  obtain⟨h1,h2,h3,h4⟩:=vz e
  exact⟨j,h1,h,h2,h3,h4⟩
def vA (b:Expr):Prop:=∀ o i,subscripted b false o i=operate [o,i] (getItem o i)
def IxR (X:Cx)(r:R2):Prop:=
 ∀(value slice:Expr)(pins:List (Addr×Obj))(s:Shared)(σ:St)(H:Hp)(x y:V)(v u:Value)(Q:VK),Inv X pins σ H s->RelV x v->RelV y u->r x y H Q->
  subscripted slice false v u=operate [v,u] (getItem v u)->wpAny (model X.prog X.w) X.A (subscriptTail value slice v u) (EP X pins σ Q) X.xe s
def G8 (X:Cx)(id:String)(r:V->List V->Hp->VK->Prop):Prop:=
 ∀(pins:List (Addr×Obj))(s:Shared)(σ:St)(H:Hp)(x:V)(xs:List V)(v:Value)(us:List Value)(Q:VK),Inv X pins σ H s->RelV x v->Vals xs us->r x xs H Q->
  wpAny (model X.prog X.w) X.A (call (.builtin id) (v::us)) (EP X pins σ Q) X.xe s
section
variable {X:Cx}{a b:Expr}{ta tb:TE}{pos:Pos}
theorem IxR.or {r r':R2}(h:IxR X r)(h':IxR X r'):IxR X (fun x y H Q=>r x y H Q\/r' x y H Q):=by
 intro value slice pins s σ H x y v u Q I rx ry q hs
 rcases q with q|q
 ·exact h value slice pins s σ H x y v u Q I rx ry q hs
 ·exact h' value slice pins s σ H x y v u Q I rx ry q hs
theorem CO {r:R2}(hr:IxR X r)(ha:PE X a ta)(hb:PE X b tb)(hs:vA b):PE X (.Subscript a b pos) (Fw r ta tb):=by
 intro pins s σ H Q I h
 exact Subscript_ (DH ha hb I h fun v u s2 x y H2 I2 rx ry q=>hr a b pins s2 σ H2 x y v u Q I2 rx ry q (hs _ _))
def DV (K:PySem.W.Frag):R2:=fun x y H Q=>∃ p xs i v,x=.ref p/\y=.int i/\SqL K H p xs/\atI xs i=some v/\Q v H
def FS (K:PySem.W.Frag):R2:=fun x y H Q=>∃ p xs i v,x=.ref p/\y=.int i/\SqT K H p xs/\atI xs i=some v/\Q v H
def FT:R2:=fun x y H Q=>∃ z i c,x=.str z/\y=.int i/\z.length<=sizeLine/\atI z.cps.toList i=some c/\Q (.str ⟨#[c]⟩) H
theorem ix_list:IxR X (DV X.K):=by
 intro value slice pins s σ H x y v u Q I rx ry h hs
 obtain⟨p,xs,i,z,rfl,rfl,hq,he,q⟩:=h
 cases rx
 obtain⟨t,rfl⟩:=ry
 obtain⟨its,r,pl,hz⟩:=I.list hq
 obtain⟨j,h1,h2,h3,h4,h5⟩:=nY he
 obtain⟨w,ew,rw'⟩:=r.get h2
 have hl:=r.length
 have hn:=gY
 have fin:EP X pins σ Q w s:=⟨z,H,I,rw',q⟩
 by_cases h0:0<=i
 ·have hj:i.toNat=j:=by
   rw[seqIndex_of h0 h5]at h1
   exact Option.some.inj h1
  exact item_listR pl.isList h0 (by omega) (by rw[hj];simpa using ew) fin hs
 ·have hj:(i+(its.toArray.size:Int)).toNat=j:=by
   rw[seqIndex_neg (by omega) h4]at h1
   rw[List.size_toArray,<- hl]
   exact Option.some.inj h1
  exact subscriptTail_builtinR (x:=w) pl.isList.typeIs slot_list_getitem.lookup
   (wpAny_getItem_list_neg (Q:=fun r s'=>r=w/\EP X pins σ Q r s') pl.isList (by omega) (by rw[List.size_toArray]<;>omega) (by omega) (by rw[hj];simpa using ew) ⟨rfl,fin⟩) hs
theorem ix_tup:IxR X (FS X.K):=by
 intro value slice pins s σ H x y v u Q I rx ry h hs
 obtain⟨p,xs,i,z,rfl,rfl,hq,he,q⟩:=h
 cases rx
 obtain⟨t,rfl⟩:=ry
 obtain⟨its,r,pl,hz⟩:=I.tuple hq
 obtain⟨j,h1,h2,h3,h4,h5⟩:=nY he
 obtain⟨w,ew,rw'⟩:=r.get h2
 have hl:=r.length
 have hn:=gY
 have fin:EP X pins σ Q w s:=⟨z,H,I,rw',q⟩
 exact subscriptTail_builtinR (x:=w) pl.typeIs slot_tuple_getitem.lookup
  (getItem_tuple (j:=j) (Q:=fun r s'=>r=w/\EP X pins σ Q r s') pl (by omega) (by omega) (by rw[List.size_toArray,<- hl];exact h1) (by simpa using ew) ⟨rfl,fin⟩) hs
theorem DW:IxR X FT:=by
 intro value slice pins s σ H x y v u Q I rx ry h hs
 obtain⟨z,i,c,rfl,rfl,hz,he,q⟩:=h
 obtain⟨t,rfl⟩:=rx
 obtain⟨t',rfl⟩:=ry
 obtain⟨j,h1,h2,h3,h4,h5⟩:=nY he
 have hl:z.cps.toList.length=z.length:=by simp[Str.length]
 rw[hl]at h1 h4 h5
 have hn:=gY
 exact tail_any (typeIs_str s z t) slot_str_getitem.lookup (getItem_str (c:=c) (by
  have e1:decide (i < -(2 ^ 63:Int))=false:=decide_eq_false (by omega)
  have e2:decide (i>=2 ^ 63)=false:=decide_eq_false (by omega)
  rw[e1,e2,Bool.or_false]) (by rw[h1];simpa using h2) ⟨.str ⟨#[c]⟩,H,I.tok _,⟨_,rfl⟩,q⟩) hs
def HQ (K:PySem.W.Frag):R2:=fun x y H Q=>DV K x y H Q\/FS K x y H Q\/FT x y H Q
theorem DX:IxR X (HQ X.K):=ix_list.or (ix_tup.or DW)
theorem sQ (its:List Value) (n j:Nat) (u:Value):Obj.mapSeq (·.setIfInBounds j u) { cls:=.type "list",data:=.seq its.toArray n }={ cls:=.type "list",data:=.seq (its.set j u).toArray n }:=by
 simp[Obj.mapSeq]
theorem Inv.lst {pins:List (Addr×Obj)}{σ:St}{H:Hp}{s:Shared}{p:Addr}{xs:List V}(I:Inv X pins σ H s)(h:H p=some (.lst xs)) :
 ∃(its:List Value)(n:Nat),Vals xs its/\s.heap.get? p=some { cls:=.type "list",data:=.seq its.toArray n }/\xs.length<=sizeLine:=by
 obtain⟨z,its,n,r,e⟩:=I.hok p _ h
 exact⟨its,n,r,e,z⟩
theorem Inv.lstUpd {pins:List (Addr×Obj)}{σ:St}{H:Hp}{s:Shared}{p:Addr}{xs ys:List V}{its its':List Value}{n n':Nat}{f:Obj->Obj}(I:Inv X pins σ H s)(h:H p=some (.lst xs))
 (ho:s.heap.get? p=some { cls:=.type "list",data:=.seq its.toArray n }) (hf:f { cls:=.type "list",data:=.seq its.toArray n }={ cls:=.type "list",data:=.seq its'.toArray n' }) (r:Vals ys its') (hz:ys.length<=sizeLine) (t:Nat) :
 Inv X pins σ (az H p (.lst ys)) { s with heap:=s.heap.update p f,toks:=t }:=by
 have e:(s.heap.update p f).get? p=some { cls:=.type "list",data:=.seq its'.toArray n' }:=by
  rw[Heap.get?_update_self f ho (by rw[hf]<;>rfl),hf]
 refine I.write (x:=p) (e:=p) (by rw[h];trivial) (.inl rfl) (fun b u hb q=>(Heap.get?_update_other _ _ (Ne.symm hb)).trans q) ⟨_,e⟩ ?_
 exact⟨hz,its',n',r,e⟩
def FU:V->V->V->Hp->(Hp->Prop)->Prop:=fun o i v H Q=>∃ p xs k j,o=.ref p/\i=.int k/\H p=some (.lst xs)/\qM xs.length k=some j/\Q (az H p (.lst (xs.set j v)))
theorem yf:FI X FU:=by
 intro pins s σ H o i v ov iv u Q I ro ri rv h
 obtain⟨p,xs,k,j,rfl,rfl,hp,hj,q⟩:=h
 cases ro
 obtain⟨t,rfl⟩:=ri
 obtain⟨its,n,r,ho,hz⟩:=I.lst hp
 obtain⟨h1,h2,h3,h4⟩:=vz hj
 have hl:=r.length
 have hn:=gY
 have I':Inv X pins σ (az H p (.lst (xs.set j v))) { s with heap:=s.heap.update p (Obj.mapSeq (·.setIfInBounds j u)) }:=
  I.lstUpd hp ho (sQ its n j u) (r.set rv j) (by rw[List.length_set];exact hz) s.toks
 by_cases h0:0<=k
 ·have hk:k.toNat=j:=by
   rw[seqIndex_of h0 h4]at h1
   exact Option.some.inj h1
  exact PySem.W.ki_setAt ho h0 (by omega) (by rw[List.size_toArray,<- hl];exact h4) (by rw[hk];exact⟨_,I',q⟩)
 ·have hk:(k+(its.toArray.size:Int)).toNat=j:=by
   rw[seqIndex_neg (by omega) h3]at h1
   rw[List.size_toArray,<- hl]
   exact Option.some.inj h1
  exact PySem.W.ki_setBack ho (by omega) (by rw[List.size_toArray,<- hl];exact h3) (by omega) (by rw[hk];exact⟨_,I',q⟩)
theorem nZ (lo hi:Option Int)(n:Nat):(sliceBounds lo hi none n).1=((HT.sIx n 0 lo:Nat):Int)/\(sliceBounds lo hi none n).2.1=((HT.sIx n n hi:Nat):Int)/\(sliceBounds lo hi none n).2.2=1:=by
 refine⟨?_,?_,rfl⟩
 ·cases lo with
  |none=>simp[sliceBounds,HT.sIx]
  |some i=>
   simp only[sliceBounds,HT.sIx,Option.getD_none,show(1:Int)>0 by decide,if_true]
   by_cases h:i<0
   ·simp only[h,if_true]<;>omega
   ·simp only[h,if_false]<;>omega
 ·cases hi with
  |none=>simp[sliceBounds,HT.sIx]
  |some i=>
   simp only[sliceBounds,HT.sIx,Option.getD_none,show(1:Int)>0 by decide,if_true]
   by_cases h:i<0
   ·simp only[h,if_true]<;>omega
   ·simp only[h,if_false]<;>omega
theorem mE (its:List Value)(lo hi:Option Int):slicePick its.toArray lo hi none=((its.drop (HT.sIx its.length 0 lo)).take (HT.sIx its.length its.length hi-HT.sIx its.length 0 lo)).toArray:=by
 obtain⟨h1,h2,h3⟩:=nZ lo hi its.toArray.size
 unfold slicePick
 rw[h1,h2,h3]
 simp only[sliceRange_one,pick_run,List.size_toArray]<;>rfl
def G9 (K:PySem.W.Frag):V->Option Int->Option Int->Hp->VK->Prop:=fun x lo hi H Q=>∃ a xs,x=.ref a/\SqL K H a xs/\∀ p,H p=none->Q (.ref p) (az H p (.lst (qL xs lo hi)))
theorem sl_list:SlR X (G9 X.K):=by
 intro pins s σ H x v vl vu lo hi sl Q I rx hs pl pu h
 obtain⟨a,xs,rfl,hx,q⟩:=h
 cases rx
 obtain⟨its,r,ht,hz⟩:=I.list hx
 have bc:=r.length
 refine⟨"list",_,slot_list_getitem.lookup,ht.isList.typeIs,?_⟩
 refine wpAny_getItem_list_slice ht.isList hs pl pu .none (by simp) ?_ (by rw[List.size_toArray]<;>omega)
 rw[mE,<- bc]
 refine⟨.ref s.heap.objs.size,_,I.laid (t':=s.toks) (o:=.lst (qL xs lo hi)) (fun b ob q=>Heap.get?_push_of_some _ q) (Nat.le_refl _) ?_,rfl,q _ (I.hok.fresh (Nat.le_refl _))⟩
 exact⟨Nat.le_trans (jD xs lo hi) hz,_,0,(r.drop (HT.sIx xs.length 0 lo)).take (HT.sIx xs.length xs.length hi-HT.sIx xs.length 0 lo),Heap.get?_push_size _ rfl⟩
theorem call_len_seq:CallR X (.builtin "len") (fun xs H Q=>∃ p ys,xs=[.ref p]/\(SqL X.K H p ys\/SqT X.K H p ys)/\Q (.int ys.length) H):=by
 intro pins s σ H xs us Q I r h
 obtain⟨p,ys,rfl,hq,q⟩:=h
 obtain⟨u,rfl,rx⟩:=fX r
 cases rx
 have hn:=gY
 rcases hq with hq|hq
 ·obtain⟨its,r',pl,hz⟩:=I.list hq
  have bc:=r'.length
  exact Calls.call_len_list pl.isList (by simp only[List.size_toArray]<;>omega) ⟨.int ys.length,H,I.tok _,⟨s.toks+1,by rw[List.size_toArray,bc]⟩,q⟩
 ·obtain⟨its,r',pl,hz⟩:=I.tuple hq
  have bc:=r'.length
  exact len_tuple pl (by simp only[List.size_toArray]<;>omega) ⟨.int ys.length,H,I.tok _,⟨s.toks+1,by rw[List.size_toArray,bc]⟩,q⟩
theorem n5:CallR X (.builtin "len") (fun xs H Q=>∃ z,xs=[.str z]/\z.length<=sizeLine/\Q (.int z.length) H):=by
 intro pins s σ H xs us Q I r h
 obtain⟨z,rfl,hz,q⟩:=h
 obtain⟨u,rfl,t,rfl⟩:=fX r
 have hn:=gY
 exact len_str (by omega) ⟨.int z.length,H,I.tok _,⟨_,rfl⟩,q⟩
theorem CallR.or {f:Value}{r r':List V->Hp->VK->Prop}(h:CallR X f r)(h':CallR X f r'):CallR X f (fun xs H Q=>r xs H Q\/r' xs H Q):=by
 intro pins s σ H xs us Q I rs q
 rcases q with q|q
 ·exact h pins s σ H xs us Q I rs q
 ·exact h' pins s σ H xs us Q I rs q
theorem n6:CallR X (.type "list") (fun xs H Q=>∃ p ys,xs=[.ref p]/\(SqL X.K H p ys\/SqT X.K H p ys)/\∀ l,H l=none->Q (.ref l) (az H l (.lst ys))):=by
 intro pins s σ H xs us Q I r h
 obtain⟨p,ys,rfl,hq,q⟩:=h
 obtain⟨u,rfl,rx⟩:=fX r
 cases rx
 have fin:∀(its:List Value),Vals ys its->ys.length<=sizeLine->∀(h':Heap)(c':Nat),(∀ b o',s.heap.get? b=some o'->h'.get? b=some o')->
  h'.get? s.heap.objs.size=some { cls:=.type "list",dict:=none,data:=.seq its.toArray c',slots:=#[] }->EP X pins σ Q (.ref s.heap.objs.size) { s with heap:=h' }:=fun its r' hz h' c' kp e=>
  ⟨.ref s.heap.objs.size,_,I.laid (t':=s.toks) kp (Nat.le_refl _) (show ObjOk X.prog X.w _ h' _ (.lst ys) from⟨hz,its,c',r',e⟩),rfl,q _ (I.hok.fresh (Nat.le_refl _))⟩
 rcases hq with hq|hq
 ·obtain⟨its,r',pl,hz⟩:=I.list hq
  have bc:=r'.length
  obtain⟨o,ho,hc,n,hd⟩:=pl.isList
  exact call_list_seq p (.inl rfl) ho hc hd (fun h' c' kp e=>fin its r' hz h' c' kp e) (by simp only[List.size_toArray]<;>omega)
 ·obtain⟨its,r',pl,hz⟩:=I.tuple hq
  have bc:=r'.length
  obtain⟨o,ho,hc,n,hd⟩:=pl
  exact call_list_seq p (.inr rfl) ho hc hd (fun h' c' kp e=>fin its r' hz h' c' kp e) (by simp only[List.size_toArray]<;>omega)
def G_ (K:PySem.W.Frag)(T:String)(x:V)(H:Hp):Prop:=match x with
 | .str _=>T="str"
 | .int _=>T="int"
 | .ref p=>(T="list"/\∃ xs,SqL K H p xs)\/(T="tuple"/\∃ o,K.lookup p=some o/\o.cls=.type "tuple"/\o.dict=none)\/
  (T="dict"/\((∃ kvs,H p=some (.dK kvs))\/∃ kvs,H p=some (.dT kvs)))\/(T="set"/\∃ S n,H p=some (.set S n))
 |_=>False
theorem DY {pins:List (Addr×Obj)}{σ:St}{H:Hp}{s:Shared}{T:String}{x:V}{v:Value}(I:Inv X pins σ H s)(r:RelV x v)(ty:G_ X.K T x H) :
 s.TypeIs v T/\∀ a,v=.ref a->∃ ob,s.heap.get? a=some ob/\ob.dict=none:=by
 cases x with
 |str z=>
  obtain⟨t,rfl⟩:=r
  cases (show T="str" from ty)
  exact⟨typeIs_str s z t,fun _ e=>nomatch e⟩
 |int i=>
  obtain⟨t,rfl⟩:=r
  cases (show T="int" from ty)
  exact⟨typeIs_int s i t,fun _ e=>nomatch e⟩
 |ref p=>
  cases r
  rcases ty with⟨rfl,xs,hq⟩|⟨rfl,o,hk,hc,hd⟩|⟨rfl,hk⟩|⟨rfl,S,n,hk⟩
  ·obtain⟨its,_,pl,_⟩:=I.list hq
   refine⟨pl.isList.typeIs,fun a e=>?_⟩
   cases e
   obtain⟨o,n,e,c,hd,_⟩:=pl
   exact⟨o,e,hd⟩
  ·refine⟨⟨o,I.kIn p o hk,hc⟩,fun a e=>?_⟩
   cases e
   exact⟨o,I.kIn _ o hk,hd⟩
  ·have z:∃ o,s.heap.get? p=some o/\o.ExactDict:=by
    rcases hk with⟨kvs,hk⟩|⟨kvs,hk⟩
    ·obtain⟨_,_,_,_,o,_,_,e,ex,_⟩:=I.hok p _ hk
     exact⟨o,e,ex⟩
    ·obtain⟨_,_,_,_,o,_,_,e,ex,_⟩:=I.hok p _ hk
     exact⟨o,e,ex⟩
   obtain⟨o,e,ex⟩:=z
   refine⟨⟨o,e,ex.1⟩,fun a e2=>?_⟩
   cases e2
   exact⟨o,e,ex.2.1⟩
  ·obtain⟨o,_,_,_,e,ex,_⟩:=I.hok p _ hk
   refine⟨⟨o,e,ex.1⟩,fun a e2=>?_⟩
   cases e2
   exact⟨o,e,ex.2.1⟩
 |_=>exact False.elim ty
def Ha (K:PySem.W.Frag)(T:String)(r:V->List V->Hp->VK->Prop)(to:TE)(t:TA):TE:=fun σ H Q=>to σ H fun x H1=>G_ K T x H1/\t σ H1 fun xs H2=>r x xs H2 Q
variable {o e:Expr}{es:List Expr}{to:TE}{t:TA}{name:Str}{apos cpos:Pos}{T id:String}{r:V->List V->Hp->VK->Prop}
theorem qN (pa:PlainAttrs T) (slot:Slot T name id) (hty:typeOf (.builtin id)=pure (.type "method_descriptor")) (hm:G8 X id r) (ho:PE X o to) (ha:PA X (e::es) t)
 (hbase:attributeBase o name X.env (eval o X.env)=eval o X.env:=by rfl)
 (hfew:((backTo cpos (starEach (e::es) X.env)).all (fun x=>!x.1)&&(backToKw cpos (keywordEach [] X.env)).all (fun x=>x.1.isSome)
   && decide ((e::es).length+([]:List Keyword).length+(if ([]:List Keyword).isEmpty then 0 else 1)<30))=true:=by rfl)
 (hline:(apos.endLine==cpos.line)=true:=by rfl) (hs:starEach (e::es) X.env=(false,eval e X.env)::starEach es X.env:=by rfl) (hplain:(backTo cpos (starEach es X.env)).any (·.1)=false:=by rfl) :
 PE X (.Call (.Attribute o name apos) (e::es) [] cpos) (Ha X.K T r to t):=by
 intro pins s σ H Q I h
 refine wpAny_Call_method_late hbase hfew hline rfl (bS (ho pins s σ H _ I h) fun v s1 ⟨x,H1,I1,r1,ty,q1⟩=>?_)
 obtain⟨h1,h2⟩:=DY I1 r1 ty
 refine⟨T,id,pa,slot,hty,h1,h2,?_⟩
 have hA:=ha cpos pins s1 σ H1 _ I1 q1
 rw[hs]at hA ⊢
 refine Calls.callWith_builtin (by show(false || (backTo cpos (starEach es X.env)).any (·.1))=false;rw[hplain]<;>rfl) (Calls.evalArgs_plain ?_)
 exact bS hA fun us s2 ⟨vs,H2,I2,r2,q2⟩=>hm pins s2 σ H2 x vs v us Q I2 r1 r2 q2
end
end L2
namespace L2
open PySem PySem.Spec PyProof.Rows
def HR (X:Cx)(id:String)(r:V->List V->Hp->VK->Prop):Prop:=
 ∀(pins:List (Addr×Obj))(s:Shared)(σ:St)(H:Hp)(x:V)(xs:List V)(v:Value)(us:List Value)(Q:VK),Inv X pins σ H s->RelV x v->Vals xs us->r x xs H Q->
  wpAny (model X.prog X.w) X.A (call (.builtin id) (v::us)) (EP X pins σ Q) X.xe s
theorem Vals.one:∀{x:V}{us:List Value},Vals [x] us->∃ u,us=[u]/\RelV x u
 |_,_,.cons r .nil=>⟨_,rfl,r⟩
theorem Vals.eraseIdx:∀{xs:List V}{us:List Value}(i:Nat),Vals xs us->Vals (xs.eraseIdx i) (us.eraseIdx i)
 |_,_,_,.nil=>.nil
 |_,_,0,.cons _ t=>t
 |_,_,i+1,.cons r t=>.cons r (Vals.eraseIdx i t)
section
variable {X:Cx}{pins:List (Addr×Obj)}{σ:St}{H:Hp}{s:Shared}{l b:Addr}{xs ys zs:List V}
theorem Inv.lset {its its':List Value}{n:Nat}{f:Array Value->Array Value}{t':Nat}(I:Inv X pins σ H s)(hH:H l=some (.lst xs))
 (e:s.heap.get? l=some { cls:=.type "list",data:=.seq its.toArray n }) (hf:f its.toArray=its'.toArray) (hv:Vals ys its') (hz:ys.length<=sizeLine) :
 Inv X pins σ (az H l (.lst ys)) { s with heap:=s.heap.update l (Obj.mapSeq f),toks:=t' }:=by
 have q:=PySem.IsL.update e f
 rw[hf]at q
 refine I.write (x:=l) (e:=l) (by rw[hH];exact trivial) (.inl rfl) (fun b' u hb hu=>(Heap.get?_update_other s.heap (Obj.mapSeq f) (Ne.symm hb)).trans hu) ⟨_,q⟩ ?_
 exact⟨hz,its',_,hv,q⟩
theorem Inv.lnew {its:List Value}{t':Nat}(I:Inv X pins σ H s)(hv:Vals ys its)(hz:ys.length<=sizeLine) :
 Inv X pins σ (az H s.heap.objs.size (.lst ys)) { s with heap:=s.heap.push { cls:=.type "list",data:=.seq its.toArray },toks:=t' }:=
 I.laid (fun _ _ q=>Heap.get?_push_of_some _ q) (Nat.le_refl _) ⟨hz,its,0,hv,Heap.get?_push_size _ rfl⟩
theorem Inv.fresh (I:Inv X pins σ H s):H s.heap.objs.size=none:=I.hok.fresh (Nat.le_refl _)
theorem Inv.lstM (I:Inv X pins σ H s) (hH:H l=some (.lst xs)):xs.length<=sizeLine/\∃(its:List Value)(n:Nat),Vals xs its/\xs.length=its.length/\s.heap.get? l=some { cls:=.type "list",data:=.seq its.toArray n }:=by
 obtain⟨z,its,n,r,e⟩:=I.hok l _ hH
 exact⟨z,its,n,r,r.length,e⟩
end
section
variable {X:Cx}
def Bq:V->List V->Hp->VK->Prop:=fun x vs H Q=>∃ l xs y,x=.ref l/\vs=[y]/\H l=some (.lst xs)/\xs.length<sizeLine/\Q .non (az H l (.lst (xs++[y])))
theorem mU:HR X "list.append" Bq:=by
 intro pins s σ H x vs v us Q I rx rv h
 obtain⟨l,xs,y,rfl,rfl,hH,hz,q⟩:=h
 cases rx
 obtain⟨u,rfl,ru⟩:=rv.one
 obtain⟨z,its,n,r,hl,e⟩:=I.lstM hH
 refine call_meets F.slot_list_append ⟨_,e,rfl⟩ F.entry_list_append (F.args_list_append_2 _ _) (PySem.list_append l its.toArray n u (by rw[List.size_toArray];omega)) ⟨e,?_⟩
 refine⟨.non,_,I.lset (its':=its++[u]) hH e (by simp) (r.append (.cons ru .nil)) ?_,rfl,q⟩
 rw[List.length_append,List.length_singleton]
 omega
end
section
variable {prog:Program}{w:World}{A:Around}{E:Value->Shared->Prop}{s:Shared}
end
section
variable {X:Cx}
end
end L2
namespace L2
open PySem PySem.Spec PyProof.Rows
section
variable {κ:Type}[DecidableEq κ]
def fT (kvs:List (κ×V))(k:κ):Option V:=(kvs.find? fun kv=>decide (kv.1=k)).map (·.2)
def bu (kvs:List (κ×V))(k:κ)(v:V):List (κ×V):=
 if (kvs.any fun kv=>decide (kv.1=k))=true then kvs.map (fun kv=>if kv.1=k then (kv.1,v) else kv) else kvs++[(k,v)]
theorem eI {p:κ×V}{r:List (κ×V)}{k:κ}(e:p.1=k):fT (p::r) k=some p.2:=by simp[fT,List.find?_cons,e]
theorem eJ {p:κ×V}{r:List (κ×V)}{k:κ}(e:¬ p.1=k):fT (p::r) k=fT r k:=by simp[fT,List.find?_cons,e]
theorem qO (k:κ):∀ kvs:List (κ×V),(kvs.any fun kv=>decide (kv.1=k))=(fT kvs k).isSome
 | []=>rfl
 |p::r=>by
  rw[List.any_cons]
  by_cases e:p.1=k
  ·simp only[eI e,decide_eq_true e,Bool.true_or,Option.isSome_some]
  ·rw[eJ e,decide_eq_false e,Bool.false_or];exact qO k r
theorem cK (kvs:List (κ×V))(k:κ)(v:V):(bu kvs k v).length<=kvs.length+1:=by
 unfold bu
 split
 ·rw[List.length_map];omega
 ·rw[List.length_append,List.length_cons,List.length_nil];omega
theorem RelO.isSome_eq {o:Option V}{u:Option Value}(r:RelO o u):o.isSome=u.isSome:=by
 cases o with
 |none=>cases u with
  |none=>rfl
  |some _=>exact(show False from r).elim
 |some _=>cases u with
  |none=>exact(show False from r).elim
  |some _=>rfl
theorem RelO.getD {o:Option V}{u:Option Value}{d:V}{d':Value}(r:RelO o u)(rd:RelV d d'):RelV (o.getD d) (u.getD d'):=by
 cases o with
 |none=>cases u with
  |none=>exact rd
  |some _=>exact(show False from r).elim
 |some _=>cases u with
  |none=>exact(show False from r).elim
  |some _=>exact r
theorem KV.val {kvs:List (κ×V)}{vs:List (κ×Value)}(r:KV kvs vs)(k:κ):RelO (fT kvs k) (valueAt vs k):=by
 unfold KV at r
 induction r with
 |nil=>exact True.intro
 | @cons p q ps qs h t ih=>
  obtain⟨h1,h2⟩:=h
  by_cases e:p.1=k
  ·have e':q.1=k:=h1.symm.trans e
   have b:valueAt (q::qs) k=some q.2:=by simp[valueAt,List.find?_cons,e']
   rw[eI e,b];exact h2
  ·have e':¬ q.1=k:=fun z=>e (h1.trans z)
   have b:valueAt (q::qs) k=valueAt qs k:=by simp[valueAt,List.find?_cons,e']
   rw[eJ e,b];exact ih
theorem KV.any {kvs:List (κ×V)}{vs:List (κ×Value)}(r:KV kvs vs)(k:κ):(kvs.any fun kv=>decide (kv.1=k))=vs.any fun kv=>decide (kv.1=k):=by
 unfold KV at r
 induction r with
 |nil=>rfl
 |cons h t ih=>rw[List.any_cons,List.any_cons,ih,h.1]
theorem KV.repl {kvs:List (κ×V)}{vs:List (κ×Value)}(r:KV kvs vs)(k:κ){y:V}{u:Value}(ry:RelV y u) :
 KV (kvs.map fun kv=>if kv.1=k then (kv.1,y) else kv) (vs.map fun kv=>if kv.1=k then (kv.1,u) else kv):=by
 unfold KV at r ⊢
 induction r with
 |nil=>exact .nil
 | @cons p q ps qs h t ih=>
  rw[List.map_cons,List.map_cons]
  refine .cons ?_ ih
  obtain⟨h1,h2⟩:=h
  by_cases e:p.1=k
  ·rw[if_pos e,if_pos (h1.symm.trans e)];exact⟨h1,ry⟩
  ·rw[if_neg e,if_neg (fun z=>e (h1.trans z))];exact⟨h1,h2⟩
theorem KV.put {kvs:List (κ×V)}{vs:List (κ×Value)}(r:KV kvs vs)(k:κ){y:V}{u:Value}(ry:RelV y u):KV (bu kvs k y) (stored vs k u):=by
 unfold bu stored
 rw[r.any k]
 by_cases e:(vs.any fun kv=>decide (kv.1=k))=true
 ·rw[if_pos e,if_pos e];exact r.repl k ry
 ·rw[if_neg e,if_neg e];exact Paired.snoc r ⟨rfl,ry⟩
theorem KV.length {kvs:List (κ×V)}{vs:List (κ×Value)}(r:KV kvs vs):kvs.length=vs.length:=Paired.length r
end
theorem fY {P:Program}{w:World}{k:Key}{u:Value}(r:RelV (kV k) u):(ao P w).is k u=true:=by
 cases k with
 |inl i=>obtain⟨t,e⟩:=(show ∃ t,u=Value.int i t from r);subst e;exact qC P w i t
 |inr x=>obtain⟨t,e⟩:=(show ∃ t,u=Value.str x t from r);subst e;exact qD P w x t
theorem mV {P:Program}{w:World}:∀{ks:List Key}{us:List Value},Vals (ks.map kV) us->ItemsAre (ao P w) ks us
 | [],_,r=>by rw[List.map_nil]at r;cases r;exact .nil
 |k::ks,_,r=>by
  rw[List.map_cons]at r
  cases r with
  |cons h t=>exact .cons (fY h) (mV t)
abbrev KT (H:Hp):List (List Key×V)->List (List Key×Addr×Value)->Prop:=Paired fun p q=>p.1=q.1/\H q.2.1=some (.tup (p.1.map kV))/\RelV p.2 q.2.2
theorem KT.val {H:Hp}{kvs:List (List Key×V)}{xs:List (List Key×Addr×Value)}(r:KT H kvs xs)(k:List Key):RelO (fT kvs k) ((atKey xs k).map (·.2)):=by
 induction r with
 |nil=>exact True.intro
 | @cons p q ps qs h t ih=>
  obtain⟨h1,_,h2⟩:=h
  by_cases e:p.1=k
  ·have e':q.1=k:=h1.symm.trans e
   have b:atKey (q::qs) k=some q.2:=by simp[atKey,List.find?_cons,e']
   rw[eI e,b];exact h2
  ·have e':¬ q.1=k:=fun z=>e (h1.trans z)
   have b:atKey (q::qs) k=atKey qs k:=by simp[atKey,List.find?_cons,e']
   rw[eJ e,b];exact ih
theorem KT.repl {H:Hp}{kvs:List (List Key×V)}{xs:List (List Key×Addr×Value)}(r:KT H kvs xs)(k:List Key){y:V}{u:Value}(ry:RelV y u) :
 KT H (kvs.map fun kv=>if kv.1=k then (kv.1,y) else kv) (xs.map (putAt k u)):=by
 induction r with
 |nil=>exact .nil
 | @cons p q ps qs h t ih=>
  rw[List.map_cons,List.map_cons]
  refine .cons ?_ ih
  obtain⟨h1,h2,h3⟩:=h
  unfold putAt
  by_cases e:p.1=k
  ·rw[if_pos e,if_pos (h1.symm.trans e)];exact⟨h1,h2,ry⟩
  ·rw[if_neg e,if_neg (fun z=>e (h1.trans z))];exact⟨h1,h2,h3⟩
theorem KT.put {H:Hp}{kvs:List (List Key×V)}{xs:List (List Key×Addr×Value)}(r:KT H kvs xs)(k:List Key){b:Addr}{y:V}{u:Value}(hb:H b=some (.tup (k.map kV)))(ry:RelV y u) :
 KT H (bu kvs k y) (storedH xs k b u):=by
 have e:(kvs.any fun kv=>decide (kv.1=k))=(atKey xs k).isSome:=by
  rw[qO,(r.val k).isSome_eq,Option.isSome_map]
 unfold bu storedH
 rw[e]
 by_cases q:(atKey xs k).isSome=true
 ·rw[if_pos q,if_pos q];exact r.repl k ry
 ·rw[if_neg q,if_neg q];exact Paired.snoc r ⟨rfl,hb,ry⟩
theorem KT.keeps {H H':Hp}{kvs:List (List Key×V)}{xs:List (List Key×Addr×Value)}(r:KT H kvs xs)(ht:∀ b ys,H b=some (.tup ys)->H' b=some (.tup ys)):KT H' kvs xs:=
 Paired.mapP r fun _ _ z=>⟨z.1,ht _ _ z.2.1,z.2.2⟩
section
variable {P:Program}{w:World}{H:Hp}{h:Heap}{a:Addr}
theorem CP {u:HO}(ok:HOk P w H h)(e:Rd H a u):ObjOk P w H h a u:=e.ok ok
theorem jE {kvs:List (Key×V)}(ok:HOk P w H h)(e:Rd H a (.dK kvs)):kvs.length<=sizeLine/\(a==sysModules)=false/\∃ vs,KV kvs vs/\h.DictOf (ao P w) a vs:=
 show ObjOk P w H h a (.dK kvs) from CP ok e
theorem FV {kvs:List (Key×V)}(ok:HOk P w H h)(e:H a=some (.dK kvs)):kvs.length<=sizeLine/\(a==sysModules)=false/\∃ vs,KV kvs vs/\h.DictOf (ao P w) a vs:=jE ok (.inl e)
theorem cP {ks:List Key}(ok:HOk P w H h)(e:H a=some (.tup (ks.map kV))):(tupleKind (ao P w)).is h ks a:=by
 obtain⟨_,its,r,o,h1,h2,n,h3⟩:=(show ObjOk P w H h a (.tup (ks.map kV)) from ok a _ e)
 exact⟨o,its.toArray,n,h1,h2,h3,by simpa using mV r⟩
theorem kG {kvs:List (List Key×V)}(ok:HOk P w H h)(e:Rd H a (.dT kvs)):kvs.length<=sizeLine/\(a==sysModules)=false/\
 ∃ xs,KT H kvs xs/\h.DictOfH (tupleKind (ao P w)) a xs:=by
 obtain⟨z,y,xs,r,o,es,ep,h1,h2,h3,h4,h5⟩:=(show ObjOk P w H h a (.dT kvs) from CP ok e)
 refine⟨z,y,xs,r,o,es,ep,h1,h2,h3,h4,fun x hx=>?_,h5⟩
 have all:∀{l:List (List Key×V)}{m:List (List Key×Addr×Value)},KT H l m->∀ x∈m,(tupleKind (ao P w)).is h x.1 x.2.1:=by
  intro l m q
  induction q with
  |nil=>intro x hx;exact nomatch hx
  | @cons p q ps qs hq t ih=>
   intro x hx
   rcases List.mem_cons.mp hx with e|hx
   ·subst e
    exact cP ok (by rw[<- hq.1];exact hq.2.1)
   ·exact ih x hx
 exact all r x hx
theorem FW {kvs:List (List Key×V)}(ok:HOk P w H h)(e:H a=some (.dT kvs)):kvs.length<=sizeLine/\(a==sysModules)=false/\
 ∃ xs,KT H kvs xs/\h.DictOfH (tupleKind (ao P w)) a xs:=kG ok (.inl e)
end
def sR (H:Hp)(a:Addr)(y:V)(r:Option V):Prop:=
 (∃ kvs k,Rd H a (.dK kvs)/\y=kV k/\r=fT kvs k)\/∃ kvs k b,Rd H a (.dT kvs)/\y=.ref b/\H b=some (.tup (k.map kV))/\r=fT kvs k
def DPut (H:Hp)(a:Addr)(y v:V)(H':Hp):Prop:=
 (∃ kvs k,H a=some (.dK kvs)/\y=kV k/\kvs.length<sizeLine/\H'=az H a (.dK (bu kvs k v)))\/
 ∃ kvs k b,H a=some (.dT kvs)/\y=.ref b/\H b=some (.tup (k.map kV))/\kvs.length<sizeLine/\H'=az H a (.dT (bu kvs k v))
theorem DPut.k {H:Hp}{a:Addr}{kvs:List (Key×V)}{k:Key}{v:V}(e:H a=some (.dK kvs))(hl:kvs.length<sizeLine):DPut H a (kV k) v (az H a (.dK (bu kvs k v))):=.inl ⟨kvs,k,e,rfl,hl,rfl⟩
theorem DPut.t {H:Hp}{a b:Addr}{kvs:List (List Key×V)}{k:List Key}{v:V}(e:H a=some (.dT kvs))(eb:H b=some (.tup (k.map kV)))(hl:kvs.length<sizeLine) :
 DPut H a (.ref b) v (az H a (.dT (bu kvs k v))):=.inr ⟨kvs,k,b,e,rfl,eb,hl,rfl⟩
section
variable {X:Cx}{pins:List (Addr×Obj)}{σ:St}{H:Hp}{s:Shared}{a:Addr}{y v:V}{u r:Value}{o:Option V}{A:Around}{E:Value->Shared->Prop}
theorem Inv.big (I:Inv X pins σ H s):sysModules<s.heap.objs.size:=by
 have h:mainGlobals<s.heap.objs.size:=(I.mod.glob.keeps I.bk).lt
 exact Nat.lt_trans (by decide) h
theorem wR {Q:Value->Shared->Prop}(hu:A.units+1<cLine)(I:Inv X pins σ H s)(g:sR H a y (some v))(ry:RelV y u)(h:∀ w' s',Inv X pins σ H s'->RelV v w'->Q w' s') :
 wpAny (model X.prog X.w) A (getItem (.ref a) u) Q E s:=by
 rcases g with⟨kvs,k,e,ey,l⟩|⟨kvs,k,b,e,ey,eb,l⟩
 ·subst ey
  obtain⟨z,hd,vs,rel,dd⟩:=jE I.hok e
  obtain⟨w',hw,rw'⟩:=RelO.some_of (v:=v) (o:=valueAt vs k) (by rw[l];exact rel.val k)
  exact wpAny_getItem_of (fY ry) dd.mapOf hw (h w' _ (I.tok _) rw')
 ·subst ey
  cases (show u=Value.ref b from ry)
  obtain⟨z,hd,xs,rel,dd⟩:=kG I.hok e
  obtain⟨w',hw,rw'⟩:=RelO.some_of (v:=v) (o:=(atKey xs k).map (·.2)) (by rw[l];exact rel.val k)
  obtain⟨p,hp,hp2⟩:=Option.map_eq_some_iff.mp hw
  refine wpAny_getItem_heap (tupleKind_room_in1 hu) (cP I.hok eb) dd hp ?_
  rw[hp2]
  exact h w' _ (I.tok _) rw'
theorem Hb {Q:Value->Shared->Prop}(hu:A.units+1<cLine)(I:Inv X pins σ H s)(g:sR H a y o)(ry:RelV y u)(h:∀ s',Inv X pins σ H s'->Q (.bool o.isSome) s') :
 wpAny (model X.prog X.w) A (compareOp .In u (.ref a)) Q E s:=by
 rcases g with⟨kvs,k,e,ey,l⟩|⟨kvs,k,b,e,ey,eb,l⟩
 ·subst ey
  obtain⟨z,hd,vs,rel,dd⟩:=jE I.hok e
  refine wpAny_in_of (fY ry) hd dd.mapOf ?_
  rw[<- (rel.val k).isSome_eq,<- l]
  exact h _ (I.tok _)
 ·subst ey
  cases (show u=Value.ref b from ry)
  obtain⟨z,hd,xs,rel,dd⟩:=kG I.hok e
  refine wpAny_in_heap (tupleKind_room_in1 hu) (cP I.hok eb) hd dd ?_
  have q:=(rel.val k).isSome_eq
  rw[Option.isSome_map]at q
  rw[<- q,<- l]
  exact h _ (I.tok _)
theorem Br {Q:Value->Shared->Prop}(hu:A.units+1<cLine)(I:Inv X pins σ H s)(g:sR H a y o)(ry:RelV y u)(h:∀ s',Inv X pins σ H s'->Q (.bool (!o.isSome)) s') :
 wpAny (model X.prog X.w) A (compareOp .NotIn u (.ref a)) Q E s:=by
 rcases g with⟨kvs,k,e,ey,l⟩|⟨kvs,k,b,e,ey,eb,l⟩
 ·subst ey
  obtain⟨z,hd,vs,rel,dd⟩:=jE I.hok e
  refine wpAny_notIn_of (fY ry) hd dd.mapOf ?_
  rw[<- (rel.val k).isSome_eq,<- l]
  exact h _ (I.tok _)
 ·subst ey
  cases (show u=Value.ref b from ry)
  obtain⟨z,hd,xs,rel,dd⟩:=kG I.hok e
  refine wpAny_notIn_heap (tupleKind_room_in1 hu) (cP I.hok eb) hd dd ?_
  have q:=(rel.val k).isSome_eq
  rw[Option.isSome_map]at q
  rw[<- q,<- l]
  exact h _ (I.tok _)
theorem n8 {h':Heap}{t':Nat}{ob:HO}(I:Inv X pins σ H s)(mu:Fu (H a))(hs:Heap.SameBut a s.heap h')(he:∃ q,h'.get? a=some q)(new:ObjOk X.prog X.w (az H a ob) h' a ob) :
 Inv X pins σ (az H a ob) { s with heap:=h',toks:=t' }:=
 I.write (x:=a) (e:=a) mu (.inl rfl) (fun b q hb z=>(hs.2 b hb).trans z) he new
theorem yg {P:Program}{w:World}{H':Hp}{h':Heap}{kvs:List (Key×V)}{vs:List (Key×Value)}(z:kvs.length<=sizeLine)(hd:(a==sysModules)=false)(rel:KV kvs vs)(dd:h'.DictOf (ao P w) a vs) :
 ObjOk P w H' h' a (.dK kvs):=⟨z,hd,vs,rel,dd⟩
theorem i9 {H':Hp}{Q:Unit->Shared->Prop}(hu:A.units+1<cLine)(I:Inv X pins σ H s)(g:DPut H a y v H')(ry:RelV y u)(rv:RelV v r)(h:∀ s',Inv X pins σ H' s'->Q () s') :
 wpAny (model X.prog X.w) A (setItem (.ref a) u r) Q E s:=by
 rcases g with⟨kvs,k,e,ey,l,eH⟩|⟨kvs,k,b,e,ey,eb,l,eH⟩
 ·subst ey eH
  obtain⟨z,hd,vs,rel,dd⟩:=FV I.hok e
  have hz:vs.length<=sizeLine:=by rw[<- rel.length];exact z
  have hl:(bu kvs k v).length<=sizeLine:=by have:=cK kvs k v;omega
  refine wpAny_setItem_pairs (hsz:=hz) (fY ry) dd fun h' dd' hs=>h _ ?_
  have he:∃ q,h'.get? a=some q:=let ⟨q,_,_,hq,_⟩:=dd';⟨q,hq⟩
  exact n8 I (by rw[e];exact True.intro) hs he (yg hl hd (rel.put k rv) dd')
 ·subst ey eH
  cases (show u=Value.ref b from ry)
  obtain⟨z,hd,xs,rel,dd⟩:=FW I.hok e
  have hz:xs.length<=sizeLine:=by rw[<- Paired.length rel];exact z
  have hl:(bu kvs k v).length<=sizeLine:=by have:=cK kvs k v;omega
  refine wpAny_setItem_heap (hsz:=hz) (tupleKind_room_in1 hu) (cP I.hok eb) dd fun h' dd' hs=>h _ ?_
  obtain⟨q,es,ep,hq,h2,h3,h4,_,h5⟩:=dd'
  refine n8 I (by rw[e];exact True.intro) hs ⟨q,hq⟩ ⟨hl,hd,_,(rel.put k eb rv).keeps fun c ys ec=>?_,q,es,ep,hq,h2,h3,h4,h5⟩
  rw[ag (CJ ec e (fun z=>nomatch z))]
  exact ec
end
section
variable {X:Cx}{pins:List (Addr×Obj)}{σ:St}{H:Hp}{s:Shared}{a:Addr}{kvs:List (Key×V)}{k:Key}{u:Value}{A:Around}{E:Value->Shared->Prop}
end
def Bs (i:Expr):Prop:=∀ ov iv,subscripted i false ov iv=operate [ov,iv] (getItem ov iv)
theorem Bt {prog:Program}{w:World}{A:Around}{E:Value->Shared->Prop}{s:Shared}{env:Env}{value slice:Expr}{pos:Pos}{T id:String}{Q:Value->Shared->Prop}
 (hl:typeLookup (.type T) "__getitem__"=pure (some (.builtin id))) (hs:Bs slice)
 (h:wpAny (model prog w) A (eval value env) (fun o s₁=>wpAny (model prog w) A (eval slice env) (fun i s₂=>s₂.TypeIs o T/\wpAny (model prog w) A (getItem o i) Q E s₂) E s₁) E s) :
 wpAny (model prog w) A (eval (.Subscript value slice pos) env) Q E s:=by
 refine Subscript_ (wpAny_mono h (fun o s₁ h₁=>wpAny_mono h₁ (fun i s₂ h₂=>?_) fun _ _ x=>x) fun _ _ x=>x)
 obtain⟨hT,h₂⟩:=h₂
 unfold subscriptTail
 refine wpAny_bind ?_
 rw[getitemInPython_of_ne hT.not_modules]
 refine wpAny_bind (wpAny_specialOf hT hl ?_)
 have fin:wpAny (model prog w) A (subscripted slice false o i) (fun r s₃=>wpAny (model prog w) A (letTemporaryGo value o r >>= fun _=>pure r) Q E s₃) E s₂:=by
  rw[hs o i]
  exact wpAny_operating (wpAny_mono h₂ (fun r s₃ h₃=>wpAny_bind (wpAny_letTemporaryGo (wpAny_pure h₃))) fun _ _ x=>x)
 first
  |exact wpAny_pure (wpAny_bind fin)
  |exact wpAny_bind (wpAny_pure (wpAny_bind fin))
  |exact wpAny_bind fin
theorem qP {X:Cx} {pins:List (Addr×Obj)} {σ:St} {H:Hp} {s:Shared} {a:Addr} {y:V} {o:Option V} (I:Inv X pins σ H s) (g:sR H a y o):s.TypeIs (.ref a) "dict":=by
 rcases g with⟨kvs,k,e,_,_⟩|⟨kvs,k,b,e,_,_,_⟩
 ·obtain⟨_,_,vs,_,dd⟩:=jE I.hok e
  exact dd.typeIs
 ·obtain⟨_,_,xs,_,dd⟩:=kG I.hok e
  exact dd.typeIs
def FX (td ty:TE):TE:=fun σ H Q=>td σ H fun x H1=>ty σ H1 fun y H2=>∃ a v,x=.ref a/\sR H2 a y (some v)/\Q v H2
section
variable {X:Cx}{o i e value:Expr}{pos pos' fJ:Pos}{td ty tv:TE}
theorem Bu (hu:X.A.units+1<cLine)(ho:PE X o td)(hi:PE X i ty)(hs:Bs i):PE X (.Subscript o i pos) (FX td ty):=by
 intro pins s σ H Q I h
 refine Bt PySem.F.slot_dict_getitem.lookup hs (bS (ho pins s σ H _ I h) fun u s1 ⟨x,H1,I1,rx,q1⟩=>bS (hi pins s1 σ H1 _ I1 q1) fun iv s2 ⟨y,H2,I2,ry,a,v,ex,g,q2⟩=>?_)
 subst ex
 obtain rfl:u=Value.ref a:=rx
 exact⟨qP I2 g,wR hu I2 g ry fun w' s3 I3 rw'=>⟨v,H2,I3,rw',q2⟩⟩
end
theorem yh {P:Program} {w:World} {H:Hp} (h:Heap) (hb:sysModules<h.objs.size):ObjOk P w H (h.push { cls:=.type "dict",data:=.dict #[] }) h.objs.size (.dK []):=
 ⟨Nat.zero_le _,beq_eq_false_iff_ne.mpr (Ne.symm (Nat.ne_of_lt hb)),[],.nil,Heap.DictOf.new h⟩
def sS:TE:=fun _ H Q=>∀ p,H p=none->Q (.ref p) (az H p (.dK []))
section
variable {X:Cx}{pos:Pos}
theorem kH:PE X (.Dict [] [] pos) sS:=fun pins s σ H Q I h=>
 wpAny_Dict_empty ⟨.ref s.heap.objs.size,_,I.laid (a:=s.heap.objs.size) (o:=.dK []) (t':=s.toks) (fun _ _ q=>Heap.get?_push_of_some _ q) (Nat.le_refl _) (yh s.heap I.big),rfl,h _ (I.hok.fresh (Nat.le_refl _))⟩
end
def d6 (kvs more:List (Key×V)):List (Key×V):=more.foldl (fun acc kv=>bu acc kv.1 kv.2) kvs
theorem gK:∀(more kvs:List (Key×V)),(d6 kvs more).length<=kvs.length+more.length
 | [],kvs=>by show kvs.length<=kvs.length+0;omega
 |p::r,kvs=>by
  have h1:=gK r (bu kvs p.1 p.2)
  have h2:=cK kvs p.1 p.2
  show(d6 (bu kvs p.1 p.2) r).length<=_
  rw[List.length_cons];omega
structure M1 (X:Cx) (o:Expr) (m:Str) (apos:Pos) (e:Expr) (cpos:Pos):Prop where
 base:attributeBase o m X.env (eval o X.env)=eval o X.env
 few:((backTo cpos (starEach [e] X.env)).all (fun x=>!x.1)&&(backToKw cpos (keywordEach [] X.env)).all (fun x=>x.1.isSome)
  && decide (([e]:List Expr).length+([]:List Keyword).length+(if ([]:List Keyword).isEmpty then 0 else 1)<30))=true
 line:(apos.endLine==cpos.line)=true
 trees:backTo cpos (starEach [e] X.env)=[(false,eval e X.env)]
structure M2 (X:Cx) (o:Expr) (m:Str) (apos:Pos) (e f:Expr) (cpos:Pos):Prop where
 base:attributeBase o m X.env (eval o X.env)=eval o X.env
 few:((backTo cpos (starEach [e,f] X.env)).all (fun x=>!x.1)&&(backToKw cpos (keywordEach [] X.env)).all (fun x=>x.1.isSome)
  && decide (([e,f]:List Expr).length+([]:List Keyword).length+(if ([]:List Keyword).isEmpty then 0 else 1)<30))=true
 line:(apos.endLine==cpos.line)=true
 trees:backTo cpos (starEach [e,f] X.env)=[(false,eval e X.env),(false,eval f X.env)]
def GK (H:Hp)(a:Addr):Prop:=(∃ kvs,Rd H a (.dK kvs))\/∃ kvs,Rd H a (.dT kvs)
theorem yi {X:Cx}{pins:List (Addr×Obj)}{σ:St}{H:Hp}{s:Shared}{a:Addr}(I:Inv X pins σ H s)(d:GK H a) :
 s.TypeIs (.ref a) "dict"/\(∀ b,Value.ref a=.ref b->∃ ob,s.heap.get? b=some ob/\ob.dict=none)/\(a==sysModules)=false:=by
 rcases d with⟨kvs,e⟩|⟨kvs,e⟩
 ·obtain⟨_,hd,vs,_,dd⟩:=jE I.hok e
  refine⟨dd.typeIs,fun b q=>?_,hd⟩
  cases q
  obtain⟨ob,_,_,h1,h2,_⟩:=dd
  exact⟨ob,h1,h2.2.1⟩
 ·obtain⟨_,hd,xs,_,dd⟩:=kG I.hok e
  refine⟨dd.typeIs,fun b q=>?_,hd⟩
  cases q
  obtain⟨ob,_,_,h1,h2,_⟩:=dd
  exact⟨ob,h1,h2.2.1⟩
section
variable {X:Cx}{pins:List (Addr×Obj)}{σ:St}{H:Hp}{s:Shared}{a:Addr}{y d:V}{u r:Value}{o:Option V}{A:Around}{E:Value->Shared->Prop}
theorem DZ {Q:Value->Shared->Prop}(hu:A.units+1<cLine)(I:Inv X pins σ H s)(g:sR H a y o)(ry:RelV y u)(rd:RelV d r)(h:∀ w' s',Inv X pins σ H s'->RelV (o.getD d) w'->Q w' s') :
 wpAny (model X.prog X.w) A (call (.builtin "dict.get") [.ref a,u,r]) Q E s:=by
 rcases g with⟨kvs,k,e,ey,l⟩|⟨kvs,k,b,e,ey,eb,l⟩
 ·subst ey
  obtain⟨z,hd,vs,rel,dd⟩:=jE I.hok e
  refine call_meetsIn PySem.F.slot_dict_get dd.typeIs PySem.F.entry_dict_get (PySem.F.args_dict_get_3 _ _ _) (meets_dict_get_default (ao X.prog X.w) a (fY ry) hd r) ⟨_,dd.mapOf,h _ _ (I.tok _) ?_⟩
  rw[l]
  exact(rel.val k).getD rd
 ·subst ey
  cases (show u=Value.ref b from ry)
  obtain⟨z,hd,xs,rel,dd⟩:=kG I.hok e
  refine call_meetsIn PySem.F.slot_dict_get dd.typeIs PySem.F.entry_dict_get (PySem.F.args_dict_get_3 _ _ _) (meetsH_dict_get_default (tupleKind (ao X.prog X.w)) a b hd r) ⟨tupleKind_room_in1 hu,k,xs,cP I.hok eb,dd,h _ _ (I.tok _) ?_⟩
  rw[l]
  exact(rel.val k).getD rd
end
section
variable {X:Cx}{o e f:Expr}{apos cpos:Pos}{td ty tx:TE}
end
section
variable {X:Cx}{pins:List (Addr×Obj)}{σ:St}{H:Hp}{s:Shared}{a:Addr}{kvs:List (Key×V)}{A:Around}{E:Value->Shared->Prop}
end
section
variable {X:Cx}{pins:List (Addr×Obj)}{σ:St}{H:Hp}{s:Shared}{a:Addr}{y:V}{u:Value}{A:Around}{E:Value->Shared->Prop}
end
end L2
namespace Att
open PySem PySem.W PySem.Calls PyProof.Rows
theorem jU {P:Params}{h:Heap}:∀(ns:List Int)(vs:List Value),WellAll P h vs (ns.map WData.int)->IntsAre vs ns:=by
 intro ns
 induction ns with
 |nil=>
  intro vs w
  rw[List.map_nil]at w
  cases w
  exact .nil
 |cons n ns ih=>
  intro vs w
  rw[List.map_cons]at w
  cases w with
  |cons a b=>
   cases a
   exact .cons _ _ (ih _ b)
theorem wS {l:OpenLaw}{n:Nat}(hn:l.most=some n){P:Params}{h:Heap}{args:List WData}{vals:List Value}
 (hpre:l.row.toRowW.claim.pre args=true) (hwl:WellAll P h vals args) :
 ∃ a vs ns,vals=[Value.ref a]/\args=[WData.list (ns.map WData.int)]/\h.get? a=some { cls:=.type "list",data:=.seq vs.toArray }/\IntsAre vs ns/\ns.length<=n:=by
 have hsh:WShape.hasAll [] args [.list .int]=true:=(pre_splitW hpre).1
 have hc:l.pre.holds [] { args:=args }=true:=(pre_splitW hpre).2
 obtain⟨d,r,rfl,h1,h2⟩:=hasAllW_cons hsh
 obtain rfl:=hasAllW_nil h2
 obtain⟨xs,rfl,h3⟩:=hasW_list h1
 obtain⟨ns,rfl⟩:=items_int h3
 have bc:ns.length<=n:=by
  unfold OpenLaw.pre at hc
  have h4:(WTm.not (.lt (.lit (.int (n:Int))) (.len (.arg 0)))).holds [] { args:=[.list (ns.map .int)] }=true:=by
   have h4:=(holds_andW hc).1
   rw[hn]at h4
   exact h4
  have h5:=condW_of h4 (w_not (w_lt w_lit (w_len_list (w_arg rfl))))
  rw[List.length_map]at h5
  refine Nat.le_of_not_lt fun q=>?_
  have q':(n:Int)<((ns.length:Nat):Int):=by omega
  first
   |(rw[decide_eq_true q']at h5;exact absurd h5 (by decide))
   |(simp at h5;omega)
 cases hwl with
 |cons w1 w2=>
  cases w2
  cases w1 with
  |list ho hall=>exact⟨_,_,ns,rfl,rfl,ho,jU ns _ hall,bc⟩
theorem wT (l:OpenLaw)(args:List WData):l.row.toRowW.claim.post args (.bool true) args=true:=
 postW_of (r:=l.row.toRowW) (X:=(true==true))
  (show WShape.has [] (.bool true) .bool=true by first|rfl|decide|simp[WShape.has,WShape.arms,WShape.armsAll])
  (show(WTm.eq .res (.lit (.bool true))).value [] { args:=args,res:=some (.bool true),after:=args }=some (.bool (true==true)) from w_eq_bool (w_res rfl) w_lit) rfl
theorem attach_call {l:OpenLaw}{n:Nat}{q:Program}{loose:List Str}{XP:(Str->Option Value)->Heap->Prop}{YP:World->Heap->Prop}{d:DefRec}
 (hn:l.most=some n) (hdf:d.params.defaults=[])
 (call:∀(w:World)(s₀ s₁:Shared)(mg mb:Str->Option Value)(fa:Addr)(o:Obj)(pm cd doc:Value)(a:Addr)(vs:List Value)(ns:List Int),
   Ground q loose [] XP w s₀ mg mb s₁.heap->YP w s₁.heap->
   s₁.heap.get? fa=some o->o.data=.func (docDef d.name d.params d.body d.scope pm cd doc)->s₁.heap.CodeRec cd d.name->mg d.name=some (.ref fa)->
   s₁.heap.get? a=some { cls:=.type "list",data:=.seq vs.toArray }->IntsAre vs ns->ns.length<=n->s₁.gens=#[]->
   codeAny (model l.prog w) callerA (.call (.ref fa) ⟨[.ref a],[]⟩) (fun r s'=>r=.ok (.ret (.bool true))/\OldK s₁.heap s'.heap/\s'.os=s₁.os/\AllBare s'.gens) s₁) :
 WalkO q loose XP YP l.row.toRowW d [] (fun f vs=>PySem.call f vs):=by
 intro w s₀ s₁ mg mb G Y fa o pm cd doc dV kV ho hd hcd hD hmg hg args vals as hpre hlay hrd hwl hlo
 obtain rfl:dV=.none:=Dflts.none hD hdf
 obtain rfl:kV=.none:=Dflts.noKw hD
 obtain⟨a,vs,ns,rfl,rfl,hobj,hints,bc⟩:=wS hn hpre hwl
 refine enter_call (codeAny_mono (call w s₀ s₁ mg mb fa o pm cd doc a vs ns G Y ho (fd_plain hd) hcd hmg hobj hints bc hg) fun r s' hq=>?_)
 obtain⟨rfl,h2,h3,h4⟩:=hq
 exact⟨.inl ⟨.bool true,.bool true,[],rfl,fun _=>rfl,.bool true,wT l _,fun _=>⟨List.Pairwise.nil,fun _ hm=>(nomatch hm)⟩⟩,h2,h3,h4⟩
section
variable {prog:Program}{w:World}{A:Around}{E:Value->Shared->Prop}{s:Shared}{K:Frag}
end
end Att
namespace L2
open PySem PySem.Spec PyProof.Rows
theorem mW:∀{vs:List Value}{ns:List Int},IntsAre vs ns->Vals (ns.map V.int) vs
 |_,_,.nil=>.nil
 |_,_,.cons n t h=>.cons ⟨t,rfl⟩ (mW h)
def Bv (H:Hp):Prop:=∀ b,H b=none\/∃ o xs,H b=some (.frz o (.lst xs))
theorem yj {P:Program}{w:World}{K:PySem.W.Frag}{mg mb:Str->Option Value}{CX:CXT}{k:Nat}{fa a:Addr}{fd:FuncData}{x:Str}{sp:Sp}{s₁:Shared}{vs:List Value}{ns:List Int}
 (KX:K.In s₁.heap) (hns:s₁.heap.Ns mainGlobals mg) (hb:s₁.heap.Ns builtinsNs mb) (hbb:∀ x:Str,x≠"__name__"->mb x=bootBuiltins x) (hlim:s₁.heap.NoLimit) (hg:s₁.gens=#[])
 (ha:s₁.heap.get? a=some { cls:=.type "list",data:=.seq vs.toArray }) (hi:IntsAre vs ns) (hl:ns.length<=sizeLine) (hr:Room k callerA)
 (F:∀ base:Heap,K.In base->base.Ns mainGlobals mg->FnOk P w K mg base CX k fa fd [x] sp) (hbind:∀(s:Shared)(u:Value),BindsTo s fd ⟨[u],[]⟩ [(x,u)])
 (hsp:∀ H:Hp,Bv H->SqL K H a (ns.map V.int)->sp [.ref a] H (fun v _=>v=.bl true) fun _ _ _=>False)
 (hCX:∀ H e s',CX [] H s₁ (fun _ _ _=>False) e s'->False) :
 codeAny (model P w) callerA (.call (.ref fa) ⟨[.ref a],[]⟩) (fun r s'=>r=.ok (.ret (.bool true))/\OldK s₁.heap s'.heap/\s'.os=s₁.os/\AllBare s'.gens) s₁:=by
 have rv:=mW hi
 have lenV:=hi.length
 have core:∀ H:Hp,Bv H->SqL K H a (ns.map V.int)->HOk P w H s₁.heap->(∀ b,H b≠none->b=a)->(H a≠none->K.lookup a=none)->
  codeAny (model P w) callerA (.call (.ref fa) ⟨[.ref a],[]⟩) (fun r s'=>r=.ok (.ret (.bool true))/\OldK s₁.heap s'.heap/\s'.os=s₁.os/\AllBare s'.gens) s₁:=by
  intro H hO hS hok hA hK
  have base_of:∀{b:Addr}{o:Obj},s₁.heap.get? b=some o->H b=none->(nV s₁.heap H).get? b=some o:=fun e n=>xX e n
  have noA:∀{b:Addr}{o:Obj}{es:Array DictEntry}{ep:Nat},s₁.heap.get? b=some o->o.data=.dict es ep->H b=none:=fun{b o es ep} e d=>by
   cases q:H b with
   |none=>rfl
   |some u=>
    have e':b=a:=hA b (by rw[q];simp)
    subst e'
    rw[ha]at e;cases e
    have d':Data.seq vs.toArray _=Data.dict es ep:=d
    cases d'
  have nsK:∀{b:Addr}{m:Str->Option Value},s₁.heap.Ns b m->(nV s₁.heap H).Ns b m:=fun{b m} ⟨o,es,ep,e,d,r⟩=>⟨o,es,ep,base_of e (noA e d),d,r⟩
  have hKb:K.In (nV s₁.heap H):=fun b o e=>base_of (KX b o e) (by
   cases q:H b with
   |none=>rfl
   |some u=>
    have e':b=a:=hA b (by rw[q];simp)
    subst e'
    rw[hK (by rw[q];simp)]at e;cases e)
  have hM:Mod K mg (nV s₁.heap H):=⟨hKb,nsK hns,⟨mb,nsK hb,hbb⟩,let ⟨mc,h1,h2⟩:=hlim;⟨mc,nsK h1,h2⟩⟩
  have e0:Env0 P w K mg (nV s₁.heap H) callerA [] s₁ H:=⟨rfl,hM,fun b o e=>Bc e,Nat.le_of_eq (wI _ _),trivial,fun b hb=>absurd (show b∈([]:List Addr) from hb) (by simp),hok,.of_eq hg⟩
  refine codeAny_mono ((F _ hKb (nsK hns)).run callerA [] s₁ H ⟨[.ref a],[]⟩ [.ref a] [.ref a] _ _ hr e0 (hbind s₁ (.ref a)) (.cons rfl .nil) (hsp H hO hS)) fun r s' h=>?_
  cases r with
  |error e=>exact(hCX H e s' h).elim
  |ok fl=>
   cases fl with
   |next=>exact False.elim h
   |brk=>exact False.elim h
   |cont=>exact False.elim h
   |ret u=>
    obtain⟨v,H',os,bare,un,hok',r',q⟩:=h
    have q':v=.bl true:=q
    subst q'
    obtain rfl:u=Value.bool true:=r'
    refine⟨rfl,OldK.of_keep fun b o e=>?_,os,bare⟩
    cases q:H b with
    |none=>exact un.keep b o e q (by intro z;exact absurd (show b∈([]:List Addr) from z) (by simp)) (by simp)
    |some u=>
     rcases hO b with z|⟨ob,xs,z⟩
     ·rw[q]at z;cases z
     ·have z2:=un.frzs b ob _ z
      obtain⟨e1,_⟩:=hok b _ z
      obtain⟨e2,_⟩:=hok' b _ z2
      rw[e]at e1;cases e1
      exact e2
 cases hk:K.lookup a with
 |some o=>
  have e:=KX a o hk
  rw[ha]at e
  cases e
  refine core (fun _=>none) (fun _=>.inl rfl) (.inr ⟨_,vs.toArray,_,hk,rfl,rfl,rfl,by rw[List.size_toArray,lenV];exact hl,by simpa using rv⟩) (fun b u z=>by have z':(none:Option HO)=some u:=z;cases z') (fun b z=>absurd rfl z) fun z=>absurd rfl z
 |none=>
  refine core (fun b=>if b=a then some (.frz { cls:=.type "list",data:=.seq vs.toArray } (.lst (ns.map V.int))) else none) (fun b=>?_) (.inl (.inr ⟨{ cls:=.type "list",data:=.seq vs.toArray },if_pos rfl⟩)) (fun b u z=>?_) (fun b z=>?_) fun _=>hk
  ·by_cases hb:b=a
   ·exact .inr ⟨_,_,if_pos hb⟩
   ·exact .inl (if_neg hb)
  ·by_cases hb:b=a
   ·have z':=(if_pos hb).symm.trans z
    cases z'
    subst hb
    exact⟨ha,by rw[List.length_map];exact hl,vs,_,rv,ha⟩
   ·have z':=(if_neg hb).symm.trans z
    cases z'
  ·by_cases hb:b=a
   ·exact hb
   ·exact absurd (if_neg hb) z
end L2
namespace L2
open PySem PySem.Spec PyProof.Rows
theorem Bw {l:PySem.W.OpenLaw}{n k:Nat}{q:Program}{loose:List Str}{XP:(Str->Option Value)->Heap->Prop}{YP:World->Heap->Prop}{d:DefRec}{K:Params->PySem.W.Frag}{CX:World->CXT}{sp:World->Sp}{x:Str}
 (hn:l.most=some n) (hn2:n<=sizeLine) (hdf:d.params.defaults=[]) (hr:Room k callerA)
 (hY:∀(w:World)(h:Heap),YP w h->(K w.params).In h)
 (F:∀(w:World)(mg:Str->Option Value)(fa:Addr)(h:Heap),(K w.params).In h->h.Ns mainGlobals mg->mg d.name=some (.ref fa)->
   ∃ fd:FuncData,(∀(s:Shared)(u:Value),BindsTo s fd ⟨[u],[]⟩ [(x,u)])/\
    ∀ base:Heap,(K w.params).In base->base.Ns mainGlobals mg->FnOk l.prog w (K w.params) mg base (CX w) k fa fd [x] (sp w))
 (hsp:∀(w:World)(H:Hp)(a:Addr)(ns:List Int),ns.length<=n->Bv H->SqL (K w.params) H a (ns.map V.int)->sp w [.ref a] H (fun v _=>v=.bl true) fun _ _ _=>False)
 (hCX:∀(w:World)(H:Hp)(s:Shared)(e:Value)(s':Shared),CX w [] H s (fun _ _ _=>False) e s'->False) :
 PySem.W.WalkO q loose XP YP l.row.toRowW d [] (fun f vs=>PySem.call f vs):=by
 refine Att.attach_call hn hdf fun w s₀ s₁ mg mb fa o pm cd doc a vs ns G Y ho hd hcd hmg hobj hints bc hg=>?_
 have KX:=hY w _ Y
 obtain⟨fd,hb,hF⟩:=F w mg fa _ KX G.T.g hmg
 exact yj KX G.T.g G.T.b G.T.builtins G.T.nolimit hg hobj hints (Nat.le_trans bc hn2) hr hF hb (fun H hO hS=>hsp w H a ns bc hO hS) fun H e s'=>hCX w H s₁ e s'
end L2
namespace L2
open PySem PySem.Spec PyProof.Rows
def defArgs (s:Stmt):Arguments:=match s with
 | .FunctionDef _ a _ _ _ _ _ _ _ _=>a
 |_=>{ posonlyargs:=[],args:=[],vararg:=none,kwonlyargs:=[],kw_defaults:=[],kwarg:=none,defaults:=[] }
def defBody (s:Stmt):List Stmt:=match s with
 | .FunctionDef _ _ b _ _ _ _ _ _ _=>b
 |_=>[]
def defScope (s:Stmt):Scope:=match s with
 | .FunctionDef _ _ _ _ _ _ sc _ _ _=>sc
 |_=>{ kind:=.function,names:=[],isGenerator:=false,isCoroutine:=false }
abbrev jF:CXT:=fun _ _ _ _ _ _=>False
abbrev E0:XK:=fun _ _ _=>False
structure Fun (K:PySem.W.Frag) (x qual:Str) (st:Stmt) (f:Addr) (fd:FuncData):Prop where
 ex:∃(oc:Value)(od:Option Addr)(kV doc pm:Value)(an:Option Addr)(cdv ct:Value)(osl:Array (Option Value)),
  fd=PySem.W.fnOf x qual (defArgs st) (defBody st) (defScope st) .none kV doc pm an cdv ct/\K.lookup f=some ⟨oc,od,.func fd,osl⟩/\PySem.W.codeIn K cdv qual=true
 kp:PySem.W.keepIn K (.ref f)=true
section
variable {P:Program}{w:World}{K:PySem.W.Frag}{mg:Str->Option Value}{base:Heap}
theorem Fun.ok {x qual:Str}{st:Stmt}{f:Addr}{fd:FuncData}{N ps:List Str}{k:Nat}{sp:Sp}(F:Fun K x qual st f fd)(S:FnScope N ps (defScope st))(len:∀ vs H Q E,sp vs H Q E->vs.length=ps.length)
 (hbody:∀(cdv:Value)(A:Around)(outer:List Env)(s:Shared)(H:Hp)(vs:List V)(Q:VK)(E:XK),Room k (A.deeper (envOfC qual (defScope st) s.heap.objs.size f cdv))->sp vs H Q E->
   ∃ t,PSs (qJ jF P w K mg base N qual (defScope st) f cdv A outer s H E).nox (defBody st) t/\t { nx:=fun _ H'=>Q .non H',rt:=Q } (cJ N vs) H):FnOk P w K mg base jF (k+1) f fd ps sp:=by
 obtain⟨oc,od,kV,doc,pm,an,cdv,ct,osl,rfl,lk,hcd⟩:=F.ex
 refine FP lk hcd S len fun A outer s H vs Q E hr hsp=>?_
 obtain⟨t,h,q⟩:=hbody cdv A outer s H vs Q E hr hsp
 exact⟨t,h.nox,q⟩
theorem Fun.binds {x qual:Str}{st:Stmt}{f:Addr}{fd:FuncData}{ps:List Str}(F:Fun K x qual st f fd)
 (h:∀(kV doc pm:Value)(an:Option Addr)(cdv ct:Value)(us:List Value),us.length=ps.length->bindArgs (PySem.W.fnOf x qual (defArgs st) (defBody st) (defScope st) .none kV doc pm an cdv ct) ⟨us,[]⟩=pure (ps.zip us)):Binds K fd ps []:=by
 obtain⟨oc,od,kV,doc,pm,an,cdv,ct,osl,rfl,lk,hcd⟩:=F.ex
 exact .all (h kV doc pm an cdv ct)
theorem aH {x qual:Str}{st:Stmt}{f:Addr}{oc:Value}{od an:Option Addr}{osl:Array (Option Value)}{kV doc pm cdv ct:Value}(l:K.lookup f=some ⟨oc,od,.func (PySem.W.fnOf x qual (defArgs st) (defBody st) (defScope st) .none kV doc pm an cdv ct),osl⟩)
 (c:PySem.W.codeIn K cdv qual=true) (k:PySem.W.keepIn K (.ref f)=true):Fun K x qual st f (PySem.W.fnOf x qual (defArgs st) (defBody st) (defScope st) .none kV doc pm an cdv ct):=⟨⟨oc,od,kV,doc,pm,an,cdv,ct,osl,rfl,l,c⟩,k⟩
end
section
variable {X:Cx}
theorem pv (i:Nat) {x:Str} {pos:Pos} (hN:X.N[i]?=some x:=by rfl) (hv:Vis X.env.scope x:=by first|exact Or.inl rfl|exact Or.inr (Or.inl rfl)|exact Or.inr (Or.inr rfl)) (hd:(x==("__debug__" : Str))=false:=by decide)
 (hcd:(x==("__classdict__" : Str))=false:=by decide):PE X (.Name x pos) (fS i):=Dq hN hv hd hcd
end
theorem wU {A B:Prop}(h:B):if false=true then A else B:=by
 rw[if_neg Bool.false_ne_true]
 exact h
theorem wV {A B:Prop}(h:A):if true=true then A else B:=by
 rw[if_pos rfl]
 exact h
def Same (H H':Hp):Prop:=∀ b o,H b=some o->H' b=some o
theorem Same.refl (H:Hp):Same H H:=fun _ _ h=>h
theorem Same.trans {H H1 H2:Hp}(a:Same H H1)(b:Same H1 H2):Same H H2:=fun c o h=>b c o (a c o h)
theorem Same.free {H H':Hp}(e:Same H H'){l:Addr}(h:H' l=Option.none):H l=Option.none:=by
 cases q:H l with
 |none=>rfl
 |some o=>
  rw[e l o q]at h
  cases h
section
variable {κ:Type}[DecidableEq κ]
end
end L2
set_option autoImplicit false
namespace L2
open PySem PySem.Spec PyProof.Rows
section
variable {P:Program}{w:World}{K:PySem.W.Frag}{mg:Str->Option Value}{base:Heap}{N:List Str}{qual:Str}{scope:Scope}{f:Addr}{cd:Value}{A:Around}{outer:List Env}{s₀:Shared}{H₀:Hp}{E:XK}
end
end L2
namespace L2
open PySem PySem.Spec PyProof.Rows
section
variable {X:Cx}{c:Str}{C:Addr}{np cpos pos:Pos}{e₀:Expr}{aQ:List Expr}{t:TA}
end
section
variable {M:Model}{A:Around}{E:Value->Shared->Prop}
end
end L2
namespace L2
open PySem PySem.Spec PyProof.Rows
abbrev TX:=St->Hp->VK->XK->Prop
section
variable {X:Cx}{k:Nat}{f:Addr}{fd:FuncData}{ps:List Str}{sp:Sp}{dvs:List V}{ds:List Value}{x:Str}{p pos:Pos}{e:Expr}{es:List Expr}{t:TA}
end
section
variable {X:Cx}{pins:List (Addr×Obj)}{σ:St}{H:Hp}{s:Shared}{x:Addr}
end
section
variable {X:Cx}{hc:Str}{Ch:Addr}{np hpos pos epos:Pos}{b₀:Stmt}{suite:List Stmt}{ts:TS}{te:TX}{e:Expr}
end
end L2
namespace L2
open PySem PySem.Spec PySem.Calls PyProof.Rows
theorem fK {prog:Program}{w:World}{A:Around}{E:Value->Shared->Prop}{s:Shared}{a:Addr}{o:Obj}{xs:Array Value}{k:Nat}{name:Str}{Q:Option Value->Shared->Prop}
 (hx:s.heap.get? a=some o) (hc:o.cls=.type "list") (hdat:o.data=.seq xs k) (hd:o.dict=none) (hmiss:typeLookup (.type "list") name=pure none) (hname:(["__module__", "__name__", "__qualname__", "__doc__", "__annotations__"]:List Str).contains name=false) (hA:A.handled=none)
 (h:∀ h' tk e,Heap.NewExcOf s.heap h' e "AttributeError"->Q none { s with heap:=h',toks:=tk }) (hsz:name.length+100<=sizeLine:=by size_fits) :
 wpAny (model prog w) A (getAttr? (.ref a) name) Q E s:=by
 obtain⟨c,dct,dat,sl⟩:=o
 simp only at hc hdat hd
 subst hc hdat hd
 obtain⟨hp,g,d,tk,os⟩:=s
 have hT:∀ tk',(⟨hp,g,d,tk',os⟩ : Shared).TypeIs (.ref a) "list":=fun _=>⟨_,hx,rfl⟩
 have f1:=sub_AttributeError
 have f3:=PySem.F.slot_list_getattribute.lookup
 have f4:=PySem.F.slot_list_getattribute.bind (.ref a)
 have f5:=am_list_getattr_none
 unfold getAttr? getAttrBy? getAttrBy
 repeat (any_goals (first|assumption|exact hT _|((with_reducible show wpAny _ _ (call (Value.builtin "list.__getattribute__") _ _) _ _ _);refine call_meets PySem.F.slot_list_getattribute (hT _) am_entry_list_getattribute (PySem.F.args_list_getattribute_2 _ _) (meets_getattribute_miss_list a xs k sl name _ hmiss hname hsz) ⟨hx,hA,fun h' tk' e hx'=>?_⟩)|wp_step))
 obtain⟨t',u',he⟩:=hx'.there
 show wpAny _ _ (getattributeRaised _ _ _ _ _ _ _) _ _ _
 unfold getattributeRaised
 repeat (any_goals (first|assumption|wp_step))
 exact h _ _ _ hx'.of
end L2
namespace L2
open PySem PySem.Spec PySem.Calls PyProof.Rows
abbrev eL:=List Key×Addr×Value
def vD (xs:List eL)(its:List eL):List eL:=its.foldl (fun xs x=>storedH xs x.1 x.2.1 x.2.2) xs
theorem cX:entryFor table "dict.update.loop"=some Builtin.«dict.update.loop»:=entryFor_of_tree (by kernel_rfl)
theorem bf:plainId "dict.update.loop"=true:=by decide +kernel
section
variable {prog:Program}{w:World}
abbrev tK (prog:Program)(w:World):=tupleKind (ao prog w)
def DRaw (prog:Program)(w:World)(h:Heap)(S:Addr)(xs:List eL):Prop:=∃ o es ep,h.get? S=some o/\o.ExactDict/\o.data=.dict es ep/\es.toList=xs.map (entryOfKey (tK prog w))/\(xs.map (·.1)).Nodup
theorem fw {h h':Heap}{k:List Key}{a:Addr}(x:(tK prog w).is h k a)(e:∀ b o,h.get? b=some o->h'.get? b=some o):(tK prog w).is h' k a:=by
 obtain⟨o,items,n,h1,r⟩:=x
 exact⟨o,items,n,e _ _ h1,r⟩
theorem DRaw.of {hb h:Heap}{S:Addr}{xs:List eL}(d:DRaw prog w h S xs)(ks:∀ x∈xs,(tK prog w).is hb x.1 x.2.1)(e:∀ b o,hb.get? b=some o->h.get? b=some o):h.DictOfH (tK prog w) S xs:=by
 obtain⟨o,es,ep,h1,h2,h3,h4,h5⟩:=d
 exact⟨o,es,ep,h1,h2,h3,h4,fun x hx=>fw (ks x hx) e,h5⟩
theorem sT {hb:Heap}{xs:List eL}{k:List Key}{a:Addr}{v:Value}(ks:∀ x∈xs,(tK prog w).is hb x.1 x.2.1)(hk:(tK prog w).is hb k a):∀ x∈storedH xs k a v,(tK prog w).is hb x.1 x.2.1:=by
 unfold storedH
 split
 ·intro x hx
  obtain⟨y,hy,rfl⟩:=List.mem_map.mp hx
  have:=ks y hy
  unfold putAt
  split<;>exact this
 ·intro x hx
  rcases List.mem_append.mp hx with hx|hx
  ·exact ks x hx
  ·simp at hx;subst hx;exact hk
theorem qQ {xs:List eL}{k:List Key}{a:Addr}{v:Value}:(storedH xs k a v).length<=xs.length+1:=by
 unfold storedH
 split
 ·rw[List.length_map];omega
 ·rw[List.length_append];simp
variable {A:Around}{R:Result->Shared->Prop}{I:Addr}{fp wr:List Addr}{G:Array GenState->Array GenState->Prop}{n:Nat}{P:Nat->Value->Prop}{St:Nat->Shared->Prop}
theorem ic (W:WalksS prog w A.in1 I fp wr G n P St)(S:Addr)(hSf:S∉fp)(hu:A.in1.units<cLine)(hb:Heap)(hbS:hb.get? S=none)(hbw:∀ b∈wr,hb.get? b=none)(its:List eL)(hn:its.length=n)
 (hval:∀ i v,P i v->∃ p x,v=.ref p/\its[i]?=some x/\hb.IsTuple p #[.ref x.2.1,x.2.2]/\(tK prog w).is hb x.1 x.2.1) (hsz:n<=sizeLine) :
 ∀(k i:Nat)(s:Shared)(xs:List eL)(j:Int),n-i=k->i<=n->St i s->(∀ b o,hb.get? b=some o->s.heap.get? b=some o)->(∀ x∈xs,(tK prog w).is hb x.1 x.2.1)->xs.length<=i->
  DRaw prog w s.heap S xs->
  (∀ s',Moved (S::wr) G s s'->s'.heap.DictOfH (tK prog w) S (vD xs (its.drop i))->R (.ok (.ret .none)) s')->
  codeAny (model prog w) A (.builtin "dict.update.loop" ⟨[.ref S,.ref I,rawInt j,.none],[]⟩) R s:=by
 have hSw:S∉wr:=fun h=>hSf (W.sub _ h)
 have hsub:∀ b∈wr,b∈S::wr:=fun b hb=>List.mem_cons_of_mem _ hb
 intro k
 induction k with
 |zero=>
  intro i s xs j hk hi hst K ks hxl hS hR
  have hin:i=n:=by omega
  subst hin
  refine codeAny_builtin cX ?_
  rw[Around.under_plainId bf _]
  show wpAny _ A.in1 (pyNext (.ref I) >>= _) _ _ s
  refine wpAny_bind (W.done s _ _ hst fun s' hm=>?_)
  have hR':=hR s' (hm.mono hsub) (by
   rw[List.drop_of_length_le (by omega)]
   obtain⟨o,es,ep,ho,aQ⟩:=hS
   exact DRaw.of (hb:=hb) ⟨o,es,ep,hm.heap S _ hSw ho,aQ⟩ ks fun b o e=>hm.heap b o (fun z=>by rw[hbw b z]at e;cases e) (K b o e))
  show wpAny _ A.in1 (Builtin.Dict.addKeywords S [] >>= fun _=>ret Value.none) _ _ s'
  exact wpAny_bind (wpAny_pure (wpAny_pure hR'))
 |succ k ih=>
  intro i s xs j hk hi hst K ks hxl hS hR
  have hlt:i<n:=by omega
  refine codeAny_builtin cX ?_
  rw[Around.under_plainId bf _]
  show wpAny _ A.in1 (pyNext (.ref I) >>= _) _ _ s
  refine wpAny_bind (W.item i s _ _ hlt hst fun v s' hP hst' hm=>?_)
  obtain⟨p,x,rfl,hx,ht,fV⟩:=hval i v hP
  have K':∀ b o,hb.get? b=some o->s'.heap.get? b=some o:=fun b o e=>hm.heap b o (fun z=>by rw[hbw b z]at e;cases e) (K b o e)
  obtain⟨ot,hot,hct,nt,hdt⟩:=ht
  have hT:s'.TypeIs (.ref p) "tuple":=⟨ot,K' _ _ hot,hct⟩
  have hS':DRaw prog w s'.heap S xs:=by
   obtain⟨o,es,ep,ho,aQ⟩:=hS
   exact⟨o,es,ep,hm.heap S _ hSw ho,aQ⟩
  refine wpAny_bind (wpAny_holding ?_)
  refine wpAny_bind ?_
  refine wpAny_tryCatch ?_
  unfold Builtin.Dict.pairItems
  refine wpAny_bind (wpAny_typeOf hT ?_)
  rw[if_pos (by decide)]
  refine wpAny_bind (wpAny_seqItems (K' _ _ hot) hdt ?_)
  refine wpAny_pure ?_
  show wpAny _ A.in1 (holding [Value.ref x.2.1,x.2.2] (dictSet S (.ref x.2.1) x.2.2)) _ _ s'
  refine wpAny_holding ?_
  refine wpAny_dictSet_heap (knd:=tK prog w) (hsz:=by omega) hu (fw fV K') (DRaw.of hS' ks K') fun h' hd' hs'=>?_
  have K2:∀ b o,hb.get? b=some o->h'.get? b=some o:=fun b o e=>(hs'.2 b (fun z=>by subst z;rw[hbS]at e;cases e)).trans (K' b o e)
  have hdrop:its.drop i=x::its.drop (i+1):=by
   have hil:i<its.length:=by omega
   rw[List.drop_eq_getElem_cons hil]
   rw[List.getElem?_eq_getElem hil]at hx
   rw[Option.some.inj hx]
  refine wpAny_pure ⟨plainId_quiet bf _,ih (i+1) _ (storedH xs x.1 x.2.1 x.2.2) (j+1) (by omega) hlt (W.frame _ s' _ _ hst' (Nat.le_add_right _ _) fun b hb o e=>?_) K2 (sT ks fV) (by have:=qQ (xs:=xs) (k:=x.1) (a:=x.2.1) (v:=x.2.2);omega) ?_ fun s'' hm'' hS''=>?_⟩
  ·rw[hs'.2 b (fun h:b=S=>hSf (by rw[<- h];exact hb))];exact e
  ·obtain⟨o,es,ep,h1,h2,h3,h4,_,h5⟩:=hd'
   exact⟨o,es,ep,h1,h2,h3,h4,h5⟩
  ·refine hR s'' (Moved.trans W.gtrans ((hm.mono hsub).then_heap (Nat.le_add_right _ _) fun b o hb e=>?_) hm'') (by rw[hdrop];exact hS'')
   rw[hs'.2 b (fun h:b=S=>hb (by rw[h];exact List.mem_cons_self))];exact e
end
end L2
namespace L2
open PySem PySem.Spec PySem.Calls PyProof.Rows
section
variable {prog:Program}{w:World}{A:Around}{E:Value->Shared->Prop}{s:Shared}
theorem jV {l:Addr} {items:Array Value} {nl:Nat} {its:List eL} {Q:Value->Shared->Prop} (hh:A.handled=none) (hu:A.in1.in1.units<cLine) (hl:s.heap.get? l=some { cls:=.type "list",data:=.seq items nl }) (hn:its.length=items.size) (hsz:items.size<=sizeLine)
 (hval:∀(i:Nat)(v:Value),items[i]?=some v->∃(p:Addr)(x:eL),v=.ref p/\its[i]?=some x/\s.heap.IsTuple p #[.ref x.2.1,x.2.2]/\(tK prog w).is s.heap x.1 x.2.1)
 (h:∀(h':Heap)(tk:Nat),h'.DictOfH (tK prog w) s.heap.objs.size (vD [] its)->(∀ b o,b<s.heap.objs.size->s.heap.get? b=some o->h'.get? b=some o)->Q (.ref s.heap.objs.size) { s with heap:=h',toks:=tk }) :
 wpAny (model prog w) A (call (.type "dict") [.ref l]) Q E s:=by
 refine callType_codes (Q₁:=fun obj s₁=>obj=.ref s.heap.objs.size/\s₁={ s with heap:=s.heap.push { cls:=.type "dict",data:=.dict #[] } }) PySem.F.kt_called_dict (PySem.F.kt_typeCall_dict_1 _) PySem.F.entry_dict_init (kt_code_dict_new _ ⟨rfl,rfl⟩) ?_
 rintro obj s₁ ⟨rfl,rfl⟩
 have hD:(s.heap.push { cls:=.type "dict",data:=.dict #[] }).get? s.heap.objs.size=some { cls:=.type "dict",data:=.dict #[] }:=Heap.get?_push_size _ rfl
 have hT:Shared.TypeIs { s with heap:=s.heap.push { cls:=.type "dict",data:=.dict #[] } } (.ref s.heap.objs.size) "dict":=⟨_,hD,rfl⟩
 refine⟨hT,PySem.F.args_dict_init_2 _ _,?_⟩
 unfold Builtin.«dict.__init__»
 refine wpAny_bind ?_
 unfold Builtin.Dict.selfAndRest
 refine wpAny_bind (wpAny_notOrdered_dict hT ?_)
 show wpAny _ _ (pure (s.heap.objs.size,[Value.ref l])) _ _ _
 refine wpAny_pure ?_
 show wpAny _ _ (Builtin.Dict.updateFrom "dict.__init__" s.heap.objs.size (.ref l) [] .none) _ _ _
 unfold Builtin.Dict.updateFrom
 have hl1:(s.heap.push { cls:=.type "dict",data:=.dict #[] }).get? l=some { cls:=.type "list",data:=.seq items nl }:=Heap.get?_push_of_some _ hl
 refine wpAny_bind (wpAny_typeOf ⟨_,hl1,rfl⟩ ?_)
 rw[if_pos (by decide)]
 refine wpAny_bind (fK (s:={ s with heap:=s.heap.push { cls:=.type "dict",data:=.dict #[] } }) hl1 rfl rfl rfl (am_miss_of_fast (by decide +kernel)) (by decide +kernel) (by simp[hh]) fun h1 tk1 e1 hx1=>?_)
 rw[if_pos (by decide)]
 refine wpAny_bind (wpAny_rule ?_)
 have k1:∀ b o,s.heap.get? b=some o->h1.get? b=some o:=fun b o e=>hx1.keeps b o (Heap.get?_push_of_some _ e)
 have hl2:h1.get? l=some { cls:=.type "list",data:=.seq items nl }:=k1 _ _ hl
 have hD1:h1.get? s.heap.objs.size=some { cls:=.type "dict",data:=.dict #[] }:=hx1.keeps _ _ hD
 have hlt1:s.heap.objs.size<h1.objs.size:=Heap.lt_size hD1
 have hll:l<s.heap.objs.size:=Heap.lt_size hl
 refine wpAny_bind (wpAny_pyIter_list (s:=⟨h1,s.gens,s.drawn,tk1,s.os⟩) ⟨_,hl2,rfl,nl,rfl⟩ ?_)
 have hh3:A.in1.in1.handled=none:=by simp[hh]
 have hno:∀ b,s.heap.objs.size<=b->s.heap.get? b=none:=fun b hb=>by
  cases q:s.heap.get? b with
  |none=>rfl
  |some o=>exact absurd (Heap.lt_size q) (Nat.not_lt.mpr hb)
 have hneI:l≠h1.objs.size:=Nat.ne_of_lt (Nat.lt_trans hll hlt1)
 have k2:∀ b o,h1.get? b=some o->(h1.push { cls:=.type "list_iterator",data:=.fields #[.ref l,.int 0 0] }).get? b=some o:=fun b o e=>Heap.get?_push_of_some _ e
 refine wpAny_pure ⟨plainId_quiet bf _,ic (A:=A.in1) ((Walks.list hh3 h1.objs.size l hneI items).toS) s.heap.objs.size ?_ hu s.heap (hno _ (Nat.le_refl _)) ?_ its hn hval hsz (items.size-0) 0 _ [] 0 rfl (Nat.zero_le _) ⟨⟨_,Heap.get?_push_size _ rfl,rfl,rfl⟩,⟨_,k2 _ _ hl2,rfl,nl,rfl⟩⟩ (fun b o e=>k2 _ _ (k1 b o e)) (fun x hx=>nomatch hx) (Nat.le_refl _) ⟨_,#[],0,k2 _ _ hD1,?_,rfl,rfl,List.nodup_nil⟩ ?_⟩
 ·simp only[List.mem_cons,List.not_mem_nil,or_false,not_or]
  exact⟨Nat.ne_of_lt hlt1,Nat.ne_of_gt hll⟩
 ·intro b hb
  simp only[List.mem_cons,List.not_mem_nil,or_false]at hb
  subst hb
  exact hno _ (Nat.le_of_lt hlt1)
 ·exact⟨rfl,rfl,rfl⟩
 ·intro s' hm hS'
  obtain⟨h',g',d',tk',os'⟩:=s'
  have eg:g'=s.gens:=hm.gens
  have ed:d'=s.drawn:=hm.drawn
  have eo:os'=s.os:=hm.os
  subst eg;subst ed;subst eo
  refine⟨rfl,h h' tk' hS' fun b o hb e=>hm.heap b o ?_ (k2 _ _ (k1 _ _ e))⟩
  simp only[List.mem_cons,List.not_mem_nil,or_false,not_or]
  exact⟨Nat.ne_of_lt hb,Nat.ne_of_lt (Nat.lt_trans hb hlt1)⟩
end
end L2
namespace L2
open PySem PySem.Spec PySem.Calls PyProof.Rows
def fZ (t kvs:List (List Key×V)):List (List Key×V):=kvs.foldl (fun t x=>bu t x.1 x.2) t
def n9 (H:Hp):List V->List (List Key×V)->Prop:=Paired fun v kv=>∃ p ka,v=.ref p/\H p=some (.tup [.ref ka,kv.2])/\H ka=some (.tup (kv.1.map kV))
section
variable {P:Program}{w:World}{H:Hp}{h:Heap}
theorem mX (ok:HOk P w H h):∀{vs:List V}{us:List Value}{kvs:List (List Key×V)},n9 H vs kvs->Vals vs us->
 ∃ its:List eL,its.length=us.length/\(∀(i:Nat)(v:Value),us[i]?=some v->∃(p:Addr)(x:eL),v=.ref p/\its[i]?=some x/\h.IsTuple p #[.ref x.2.1,x.2.2]/\(tK P w).is h x.1 x.2.1)/\
  ∀ t xs,KT H t xs->KT H (fZ t kvs) (vD xs its)
 |_,_,_,.nil,.nil=>⟨[],rfl,fun i v e=>by simp at e,fun t xs r=>r⟩
 |_,_,_,.cons (a:=v) (b:=kv) q t,.cons (b:=u) r s=>by
  obtain⟨its,hl,hv,hk⟩:=mX ok t s
  obtain⟨p,ka,rfl,hp,hka⟩:=q
  cases r
  obtain⟨_,is,r2,ot,ho,hc,n,hd⟩:=(show ObjOk P w H h p (.tup [.ref ka,kv.2]) from ok p _ hp)
  obtain⟨u1,u2,rfl,ru1,ru2⟩:=mO r2
  cases ru1
  refine⟨(kv.1,ka,u2)::its,by simp[hl],fun i v e=>?_,fun t xs rt=>?_⟩
  ·cases i with
   |zero=>simp at e;subst e;exact⟨p,(kv.1,ka,u2),rfl,rfl,⟨ot,ho,hc,n,hd⟩,cP ok hka⟩
   |succ i=>exact hv i v (by simpa using e)
  ·exact hk _ _ (rt.put kv.1 hka ru2)
theorem kI:∀(kvs t:List (List Key×V)),(fZ t kvs).length<=t.length+kvs.length
 | [],t=>Nat.le_refl _
 |x::r,t=>by
  have:=kI r (bu t x.1 x.2)
  have h2:=cK t x.1 x.2
  show(fZ (bu t x.1 x.2) r).length<=_
  simp only[List.length_cons];omega
end
section
variable {X:Cx}
theorem sU (hc:X.calm=true) (hu:X.A.units+64<cLine):CallR X (.type "dict") (fun xs H Q=>∃ l vs kvs,xs=[.ref l]/\Rd H l (.lst vs)/\n9 H vs kvs/\∀ p,H p=none->Q (.ref p) (az H p (.dT (fZ [] kvs)))):=by
 intro pins s σ H xs us Q I r h
 obtain⟨l,vs,kvs,rfl,hl,hp,q⟩:=h
 obtain⟨u,rfl,ru⟩:=fX r
 obtain rfl:u=Value.ref l:=ru
 obtain⟨hz,its,n,rv,hg⟩:=(show ObjOk X.prog X.w H s.heap l (.lst vs) from hl.ok I.hok)
 obtain⟨pi,pl,pv,pk⟩:=mX I.hok hp rv
 have hsz:its.toArray.size<=sizeLine:=by rw[List.size_toArray,<- rv.length];exact hz
 refine jV (I.ok.hd hc) (by show X.A.units+1+1<cLine;omega) hg (its:=pi) (by rw[pl,List.size_toArray]) hsz (fun i v e=>pv i v (by simpa using e)) fun h' tk hD hk=>?_
 have hf:H s.heap.objs.size=none:=I.hok.fresh (Nat.le_refl _)
 refine⟨.ref s.heap.objs.size,_,I.laid (a:=s.heap.objs.size) (o:=.dT (fZ [] kvs)) (t':=tk) (fun b o e=>hk b o (Heap.lt_size e) e) (Nat.le_refl _) ?_,rfl,q _ hf⟩
 obtain⟨o,es,ep,h1,h2,h3,h4,_,h5⟩:=hD
 refine⟨?_,beq_eq_false_iff_ne.mpr (Ne.symm (Nat.ne_of_lt I.big)),vD [] pi,(pk [] [] .nil).keeps fun b ys e=>?_,o,es,ep,h1,h2,h3,h4,h5⟩
 ·have:=kI kvs []
  have h2:=Paired.length hp
  simp only[List.length_nil]at this
  omega
 ·rw[ag (ak e hf)];exact e
end
end L2
namespace L2
open PySem PySem.Spec PySem.Calls PyProof.Rows
section
variable {X:Cx}{pins:List (Addr×Obj)}{σ:St}{H:Hp}{s:Shared}{a:Addr}
theorem Inv.retK (I:Inv X pins σ H s)(e:H a=some (.dT [])):Inv X pins σ (az H a (.dK [])) s:=by
 obtain⟨z,y,xs,r,o,es,ep,h1,h2,h3,h4,h5⟩:=(show ObjOk X.prog X.w H s.heap a (.dT []) from I.hok a _ e)
 cases r
 exact I.write (x:=a) (e:=a) (t':=s.toks) (h':=s.heap) (by rw[e];exact True.intro) (.inl rfl) (fun b u _ q=>q) ⟨o,h1⟩ ⟨z,y,[],.nil,o,es,ep,h1,h2,h3,by
  have e:es=#[]:=by simpa using h4
  subst e
  intro x hx
  simp at hx,by
  have e:es=#[]:=by simpa using h4
  subst e
  constructor,List.nodup_nil⟩
theorem Inv.retT (I:Inv X pins σ H s)(e:H a=some (.dK [])):Inv X pins σ (az H a (.dT [])) s:=by
 obtain⟨z,y,vs,r,o,es,ep,h1,h2,h3,h4,h5⟩:=(show ObjOk X.prog X.w H s.heap a (.dK []) from I.hok a _ e)
 cases r
 exact I.write (x:=a) (e:=a) (t':=s.toks) (h':=s.heap) (by rw[e];exact True.intro) (.inl rfl) (fun b u _ q=>q) ⟨o,h1⟩ ⟨z,y,[],.nil,o,es,ep,h1,h2,h3,(by
  generalize es.toList=l at h5
  obtain⟨h5,_⟩:=h5
  cases l with
  |nil=>rfl
  |cons x r=>cases h5),List.nodup_nil⟩
end
end L2
namespace L2
open PySem PySem.Spec PySem.Calls PyProof.Rows
def kJ (H:Hp)(a:Addr)(y:V)(r:Option V):Prop:=
 sR H a y r\/(Rd H a (.dT [])/\(∃ k,y=kV k)/\r=none)\/(Rd H a (.dK [])/\(∃(b:Addr)(k:List Key),y=.ref b/\H b=some (.tup (k.map kV)))/\r=none)
def CQ (H:Hp)(a:Addr)(y v:V)(H':Hp):Prop:=
 DPut H a y v H'\/(H a=some (.dT [])/\∃ k,y=kV k/\H'=az H a (.dK [(k,v)]))\/(H a=some (.dK [])/\∃(b:Addr)(k:List Key),y=.ref b/\H b=some (.tup (k.map kV))/\H'=az H a (.dT [(k,v)]))
section
variable {X:Cx}{pins:List (Addr×Obj)}{σ:St}{H:Hp}{s:Shared}{a:Addr}{y v:V}{u r:Value}{o:Option V}{A:Around}{E:Value->Shared->Prop}
theorem gZ {P:Program}{w:World}{h:Heap}(x:ObjOk P w H h a (.dT [])):(a==sysModules)=false/\h.DictOf (ao P w) a []:=by
 obtain⟨z,y,xs,r,o,es,ep,h1,h2,h3,h4,h5⟩:=x
 cases r
 have e:es=#[]:=by simpa using h4
 subst e
 exact⟨y,o,#[],ep,h1,h2,h3,fun x hx=>by simp at hx,by constructor,List.nodup_nil⟩
theorem sV {P:Program}{w:World}{h:Heap}(x:ObjOk P w H h a (.dK [])):(a==sysModules)=false/\h.DictOfH (tupleKind (ao P w)) a []:=by
 obtain⟨z,y,vs,r,o,es,ep,h1,h2,h3,h4,h5⟩:=x
 cases r
 refine⟨y,o,es,ep,h1,h2,h3,?_,fun x hx=>(nomatch hx),List.nodup_nil⟩
 generalize es.toList=l at h5
 obtain⟨h5,_⟩:=h5
 cases l with
 |nil=>rfl
 |cons x r=>cases h5
theorem FY {Q:Value->Shared->Prop}(hu:A.units+1<cLine)(I:Inv X pins σ H s)(g:kJ H a y o)(ry:RelV y u)(h:∀ s',Inv X pins σ H s'->Q (.bool o.isSome) s') :
 wpAny (model X.prog X.w) A (compareOp .In u (.ref a)) Q E s:=by
 rcases g with g|⟨e,⟨k,rfl⟩,rfl⟩|⟨e,⟨b,k,rfl,eb⟩,rfl⟩
 ·exact Hb hu I g ry h
 ·obtain⟨y,dd⟩:=gZ (e.ok I.hok)
  exact wpAny_in_of (fY ry) y dd.mapOf (h _ (I.tok _))
 ·obtain rfl:u=Value.ref b:=ry
  obtain⟨y,dd⟩:=sV (e.ok I.hok)
  exact wpAny_in_heap (tupleKind_room_in1 hu) (cP I.hok eb) y dd (h _ (I.tok _))
theorem ym {Q:Value->Shared->Prop}(hu:A.units+1<cLine)(I:Inv X pins σ H s)(g:kJ H a y o)(ry:RelV y u)(h:∀ s',Inv X pins σ H s'->Q (.bool (!o.isSome)) s') :
 wpAny (model X.prog X.w) A (compareOp .NotIn u (.ref a)) Q E s:=by
 rcases g with g|⟨e,⟨k,rfl⟩,rfl⟩|⟨e,⟨b,k,rfl,eb⟩,rfl⟩
 ·exact Br hu I g ry h
 ·obtain⟨y,dd⟩:=gZ (e.ok I.hok)
  exact wpAny_notIn_of (fY ry) y dd.mapOf (h _ (I.tok _))
 ·obtain rfl:u=Value.ref b:=ry
  obtain⟨y,dd⟩:=sV (e.ok I.hok)
  exact wpAny_notIn_heap (tupleKind_room_in1 hu) (cP I.hok eb) y dd (h _ (I.tok _))
theorem sW {H':Hp}{Q:Unit->Shared->Prop}(hu:A.units+1<cLine)(I:Inv X pins σ H s)(g:CQ H a y v H')(ry:RelV y u)(rv:RelV v r)(h:∀ s',Inv X pins σ H' s'->Q () s') :
 wpAny (model X.prog X.w) A (setItem (.ref a) u r) Q E s:=by
 rcases g with g|⟨e,k,rfl,rfl⟩|⟨e,b,k,rfl,eb,rfl⟩
 ·exact i9 hu I g ry rv h
 ·refine i9 hu (I.retK e) (DPut.k (kvs:=[]) (k:=k) (v:=v) ai (by decide)) ry rv fun s' I'=>?_
  rw[vq]at I'
  exact h s' I'
 ·refine i9 hu (I.retT e) (DPut.t (kvs:=[]) (k:=k) (v:=v) ai (by rw[ag (CJ eb e (fun z=>nomatch z))];exact eb) (by decide)) ry rv fun s' I'=>?_
  rw[vq]at I'
  exact h s' I'
end
section
variable {X:Cx}{value o i:Expr}{td ty tv:TE}{pos pos':Pos}
def sX (td ty tv:TE):TS:=fun D σ H=>tv σ H fun v H1=>td σ H1 fun x H2=>ty σ H2 fun y H3=>∃ a H4,x=.ref a/\CQ H3 a y v H4/\D.nx σ H4
theorem qR (hu:X.A.units+1<cLine)(ho:PE X o td)(hi:PE X i ty)(hv:PE X value tv)(hs:swapsWith value (some (.Subscript o i pos')) pos.line X.env=pure false) :
 PS X (.Assign [.Subscript o i pos'] value pos) (sX td ty tv):=by
 intro pins s σ H D I h
 refine wpAny_Assign_Subscript (bS (hv pins s σ H _ I h) fun r s1 ⟨v,H1,I1,rv,q1⟩=>bS (ho pins s1 σ H1 _ I1 q1) fun u s2 ⟨x,H2,I2,rx,q2⟩=>bS (hi pins s2 σ H2 _ I2 q2) fun iv s3 ⟨y,H3,I3,ry,a,H4,ex,g,q3⟩=>?_) hs
 subst ex
 obtain rfl:u=Value.ref a:=rx
 exact sW hu I3 g ry rv fun s4 I4=>⟨σ,H4,I4,q3⟩
end
end L2
namespace L2
open PySem PySem.Spec PySem.Calls PyProof.Rows
section
variable {X:Cx}{pins:List (Addr×Obj)}{σ:St}{H:Hp}{s:Shared}{a:Addr}{y d:V}{u r:Value}{o:Option V}{A:Around}{E:Value->Shared->Prop}
theorem Bx {Q:Value->Shared->Prop}(hu:A.units+1<cLine)(I:Inv X pins σ H s)(g:kJ H a y o)(ry:RelV y u)(rd:RelV d r)(h:∀ w' s',Inv X pins σ H s'->RelV (o.getD d) w'->Q w' s') :
 wpAny (model X.prog X.w) A (call (.builtin "dict.get") [.ref a,u,r]) Q E s:=by
 rcases g with g|⟨e,⟨k,rfl⟩,rfl⟩|⟨e,⟨b,k,rfl,eb⟩,rfl⟩
 ·exact DZ hu I g ry rd h
 ·obtain⟨y,dd⟩:=gZ (e.ok I.hok)
  exact call_meetsIn PySem.F.slot_dict_get dd.typeIs PySem.F.entry_dict_get (PySem.F.args_dict_get_3 _ _ _) (meets_dict_get_default (ao X.prog X.w) a (fY ry) y r) ⟨_,dd.mapOf,h _ _ (I.tok _) rd⟩
 ·obtain rfl:u=Value.ref b:=ry
  obtain⟨y,dd⟩:=sV (e.ok I.hok)
  exact call_meetsIn PySem.F.slot_dict_get dd.typeIs PySem.F.entry_dict_get (PySem.F.args_dict_get_3 _ _ _) (meetsH_dict_get_default (tupleKind (ao X.prog X.w)) a b y r) ⟨tupleKind_room_in1 hu,k,[],cP I.hok eb,dd,h _ _ (I.tok _) rd⟩
end
def By (td ty tx:TE):TE:=fun σ H Q=>td σ H fun x H1=>∃ a,x=.ref a/\GK H1 a/\ty σ H1 fun y H2=>tx σ H2 fun z H3=>∃ o,kJ H3 a y o/\Q (o.getD z) H3
section
variable {X:Cx}{o e f:Expr}{apos cpos:Pos}{td ty tx:TE}
theorem wW (hu:X.A.units+1<cLine) (ho:PE X o td) (he:PE X e ty) (hf:PE X f tx) (m:M2 X o "get" apos e f cpos):PE X (.Call (.Attribute o "get" apos) [e,f] [] cpos) (By td ty tx):=by
 intro pins s σ H Q I h
 refine wpAny_Call_method m.base m.few m.line PySem.F.plainAttrs_dict PySem.F.slot_dict_get PySem.F.type_dict_get (bS (ho pins s σ H _ I h) fun u s1 ⟨x,H1,I1,rx,a,ex,d,q1⟩=>?_)
 subst ex
 obtain rfl:u=Value.ref a:=rx
 obtain⟨t1,t2,_⟩:=yi I1 d
 refine⟨t1,t2,?_⟩
 rw[m.trees]
 refine Calls.callWith_builtin rfl (Calls.evalArgs_plain (Calls.spliced_cons (bS (he pins s1 σ H1 _ I1 q1) fun iv s2 ⟨y,H2,I2,ry,q2⟩=>
  Calls.spliced_cons (bS (hf pins s2 σ H2 _ I2 q2) fun fv s3 ⟨z,H3,I3,rz,ov,g,q3⟩=>Calls.spliced_nil ?_))))
 exact Bx hu I3 g ry rz fun w' s4 I4 rw'=>⟨_,H3,I4,rw',q3⟩
end
end L2
namespace L2
open PySem PySem.Spec PySem.Calls PyProof.Rows
def dj:HO->Prop
 | .dK _=>True
 | .dT _=>True
 |_=>False
section
variable {X:Cx}{pins:List (Addr×Obj)}{σ:St}{H H':Hp}{s:Shared}{d:Addr}{o:Obj}{u:HO}
theorem Inv.view (I:Inv X pins σ H s)(hn:∀ b,H b=none->H' b=none)(ht:∀ b xs,H b=some (.tup xs)->H' b=some (.tup xs))(hf:∀ b o u,X.H₀ b=some (.frz o u)->H' b=some (.frz o u))
 (hb:∀ b ps,H b=some (.tbl ps)->H' b=some (.tbl ps)) (hok:HOk X.prog X.w H' s.heap):Inv X pins σ H' s where
 ok:=I.ok
 os:=I.os
 bare:=I.bare
 base:=⟨I.base.keep,I.base.slot,fun b o e n hx=>hn b (I.base.free b o e n hx),I.base.there,fun b xs e=>ht b xs (I.base.tups b xs e),hf,fun b ps e=>let ⟨m,q⟩:=I.base.tbls b ps e;⟨m,hb b _ q⟩⟩
 loc:=I.loc
 cell:=I.cell
 free:=hn _ I.free
 freeC:=fun x c e=>hn c (I.freeC x c e)
 pin:=fun p hp=>let ⟨a,b,c⟩:=I.pin p hp;⟨a,hn _ b,c⟩
 hok:=hok
 len:=I.len
theorem vE {P:Program}{w:World}{h:Heap}(ok:HOk P w H h){u':HO}(hd:∃ u,H d=some u/\(∀ y,u≠.own y)/\∀ xs,u≠.tup xs)(new:ObjOk P w (az H d u') h d u'):HOk P w (az H d u') h:=fun b v e=>by
 obtain⟨u,hu,h1,h2⟩:=hd
 by_cases hb:b=d
 ·subst hb;rw[ai]at e;cases e;exact new
 ·rw[ag hb]at e
  refine(ok b v e).stay (fun _ _ _ q=>q) (fun c q=>?_) fun c xs q=>?_
  ·rw[ag]
   ·exact q
   ·rintro rfl;rw[hu]at q;cases q;exact h1 _ rfl
  ·rw[ag]
   ·exact q
   ·rintro rfl;rw[hu]at q;cases q;exact h2 _ rfl
theorem vF {u:HO}(h:dj u):(∀ y,u≠.own y)/\(∀ xs,u≠.tup xs)/\(∀ ps,u≠.tbl ps)/\∀ o v,u≠.frz o v:=by
 cases u<;>first|exact h.elim|exact⟨fun _ z=>(nomatch z),fun _ z=>(nomatch z),fun _ z=>(nomatch z),fun _ _ z=>(nomatch z)⟩
theorem mY {P:Program}{w:World}{h:Heap}(hu:dj u)(x:ObjOk P w H h d u)(ht:∀ b xs,H b=some (.tup xs)->H' b=some (.tup xs)):ObjOk P w H' h d u:=by
 cases u with
 |dK kvs=>exact x
 |dT kvs=>
  obtain⟨z,y,xs,r,q⟩:=x
  exact⟨z,y,xs,Paired.mapP r fun p q z=>⟨z.1,ht _ _ z.2.1,z.2.2⟩,q⟩
 |_=>exact hu.elim
theorem Inv.frz (I:Inv X pins σ H s)(e:H d=some u)(hu:dj u)(ho:s.heap.get? d=some o):Inv X pins σ (az H d (.frz o u)) s:=by
 obtain⟨n1,n2,n3,n4⟩:=vF hu
 have ht:∀ b xs,H b=some (.tup xs)->az H d (.frz o u) b=some (.tup xs):=fun b xs q=>by
  rw[ag]
  ·exact q
  ·rintro rfl;rw[e]at q;cases q;exact n2 _ rfl
 refine I.view (fun b hb=>?_) ht (fun b o' u' q=>?_) (fun b ps q=>?_) (vE I.hok ⟨u,e,n1,n2⟩ ⟨ho,mY hu (I.hok d u e) ht⟩)
 ·rw[ag]
  ·exact hb
  ·rintro rfl;rw[e]at hb;cases hb
 ·have q:=I.base.frzs b o' u' q
  rw[ag]
  ·exact q
  ·rintro rfl;rw[e]at q;cases q;exact n4 _ _ rfl
 ·rw[ag]
  ·exact q
  ·rintro rfl;rw[e]at q;cases q;exact n3 _ rfl
theorem Inv.nofrz (I:Inv X pins σ H s)(e:H d=some u)(hu:dj u):∀ o v,X.H₀ d≠some (.frz o v):=fun o v q=>by
 have:=I.base.frzs d o v q
 rw[e]at this;cases this
 exact(vF hu).2.2.2 _ _ rfl
theorem Inv.unfrz (I:Inv X pins σ H s)(e:H d=some (.frz o u))(hu:dj u)(hn:∀ o v,X.H₀ d≠some (.frz o v)):Inv X pins σ (az H d u) s:=by
 have ht:∀ b xs,H b=some (.tup xs)->az H d u b=some (.tup xs):=fun b xs q=>by
  rw[ag]
  ·exact q
  ·rintro rfl;rw[e]at q;cases q
 have x:ObjOk X.prog X.w H s.heap d u:=(show ObjOk X.prog X.w H s.heap d (.frz o u) from I.hok d _ e).2
 refine I.view (fun b hb=>?_) ht (fun b o' u' q=>?_) (fun b ps q=>?_) (vE I.hok ⟨_,e,fun _ z=>(nomatch z),fun _ z=>(nomatch z)⟩ (mY hu x ht))
 ·rw[ag]
  ·exact hb
  ·rintro rfl;rw[e]at hb;cases hb
 ·have q2:=I.base.frzs b o' u' q
  rw[ag]
  ·exact q2
  ·rintro rfl;exact hn _ _ q
 ·rw[ag]
  ·exact q
  ·rintro rfl;rw[e]at q;cases q
end
def CS (d:Addr)(o:Obj)(u:HO)(kvs:List (Key×V)):It:=
 ⟨fun i H=>H d=some (.frz o u)/\i<kvs.length,fun i H x H'=>H'=H/\∃ k v,kvs[i]?=some (k,v)/\x=kV k,fun i H=>H d=some (.frz o u)/\kvs.length<=i⟩
theorem n_ {k:Key}{u:Value}{P:Program}{w:World}(h:(ao P w).is k u=true):RelV (kV k) u:=by
 rcases aT (show jB k u=true from h) with⟨i,t,rfl,rfl⟩|⟨x,t,rfl,rfl⟩
 ·exact⟨t,rfl⟩
 ·exact⟨t,rfl⟩
theorem f8 {P:Program}{w:World}{h h':Heap}{d:Addr}{o:Obj}{vs:List (Key×Value)}{ep:Nat}(x:h.DictAt (ao P w) d vs ep)(e:h.get? d=some o)(e':h'.get? d=some o):h'.DictAt (ao P w) d vs ep:=by
 obtain⟨o',es,ho,r⟩:=x
 rw[e]at ho;cases ho
 exact⟨o,es,e',r⟩
theorem wX {P:Program}{w:World}{K:PySem.W.Frag}{tg:Expr}{d it:Addr}{o:Obj}{u0:HO}{kvs:List (Key×V)}{vs:List (Key×Value)}{ep:Nat}{h0:Heap}(rel:KV kvs vs)(x0:h0.DictAt (ao P w) d vs ep)(e0:h0.get? d=some o) :
 Turn P w K tg (CS d o u0 kvs) [it] it (fun i h=>h.IsKeyIter it d i vs.length ep) where
 mem:=by simp
 obj:=fun i h st b hb=>by
  have e:b=it:=by simpa using hb
  subst e
  obtain⟨o,e,c,q⟩:=st
  exact⟨o,e,fun v z=>by rw[q]at z;cases z⟩
 keep:=fun i h h' st k=>st.at fun o e=>k it (by simp) o e
 item:=by
  intro X hP hw hK hc i pins s σ H E I hf st hg
  subst hP hw hK
  obtain⟨hd,hi⟩:=hg
  obtain⟨eo,_⟩:=(show ObjOk X.prog X.w H s.heap d (.frz o u0) from I.hok d _ hd)
  have x1:=f8 x0 e0 eo
  obtain⟨f0,f1,f2,f3,f4,f5⟩:=hf it (by simp)
  have hiv:i<vs.length:=by rw[<- rel.length];exact hi
  have rg:∃ k v u,kvs[i]?=some (k,v)/\vs[i]?=some (k,u):=by
   have hk:kvs[i]?=some kvs[i]:=by simp[hi]
   have hv:vs[i]?=some vs[i]:=by simp[hiv]
   have key:∀{a:List (Key×V)}{b:List (Key×Value)},KV a b->∀(i:Nat) p q,a[i]?=some p->b[i]?=some q->p.1=q.1:=by
    intro a b r
    induction r with
    |nil=>intro i p q e;simp at e
    |cons hq t ih=>
     intro i p q e1 e2
     cases i with
     |zero=>simp at e1 e2;subst e1 e2;exact hq.1
     |succ i=>exact ih i p q (by simpa using e1) (by simpa using e2)
   have:=key rel i _ _ hk hv
   exact⟨kvs[i].1,kvs[i].2,vs[i].2,hk,by rw[hv,this]⟩
  obtain⟨k,v,uv,h1,h2⟩:=rg
  refine wpAny_pyNext_dict_item st x1 h2 fun key h' fV st' sb=>?_
  have I1:Inv X pins σ H { s with heap:=h' }:=I.turned (t':=s.toks) (fun b o hb e=>(sb.2 b hb).trans e) f0 f1 f3 f4 f5
  obtain⟨oi,e,c,q⟩:=id st'
  exact⟨key,rfl,qH (s:={ s with heap:=h' }) e c q (by decide) ⟨kV k,H,I1,n_ fV,⟨rfl,k,v,h1,rfl⟩,st',fun b hb=>(hf b hb).1⟩⟩
 done:=by
  intro X hP hw hK hc i pins s σ H E I hf st hg
  subst hP hw hK
  obtain⟨hd,hi⟩:=hg
  obtain⟨eo,_⟩:=(show ObjOk X.prog X.w H s.heap d (.frz o u0) from I.hok d _ hd)
  have x1:=f8 x0 e0 eo
  obtain⟨f0,f1,f2,f3,f4,f5⟩:=hf it (by simp)
  have hl:=rel.length
  exact wpAny_pyNext_dict_end (I.ok.hd hc) st x1 (by simp;omega) fun h' eb=>⟨rfl,I.turned (t':=s.toks) (fun b o hb e=>eb b o hb e) f0 f1 f3 f4 f5⟩
 self:=fun _ _ _ _ _ st h=>wpAny_pyIter_keyiter st h
section
variable {X:Cx}{tg:Expr}
def FZ (X:Cx)(tl:TE):TI:=fun σ H R=>tl σ H fun x H1=>∃ d kvs u,x=.ref d/\(u=.dK kvs\/(u=.dT []/\kvs=[]))/\((∃ o,H1 d=some (.frz o u)/\R (CS d o u kvs) H1)\/(H1 d=some u/\∀ o,(∀ o' v,X.H₀ d≠some (.frz o' v))->R (CS d o u kvs) (az H1 d (.frz o u))))
theorem vG {l:Expr}{tl:TE}(hl:PE X l tl):PI X tg l (FZ X tl):=by
 intro pins s σ H R I h
 refine bS (hl pins s σ H _ I h) fun v s1 ⟨x,H1,I1,r1,q1⟩=>?_
 obtain⟨d,kvs,u,e,hu,q⟩:=q1
 subst e
 cases r1
 have dI:dj u:=by rcases hu with rfl|⟨rfl,_⟩<;>exact True.intro
 have fin:∀(o:Obj)(H2:Hp),Inv X pins σ H2 s1->H2 d=some (.frz o u)->R (CS d o u kvs) H2->wpAny (model X.prog X.w) X.A (pyIter (.ref d)) (GH X pins σ tg R) X.xe s1:=fun o H2 I2 e2 q2=>by
  obtain⟨eo,hx⟩:=(show ObjOk X.prog X.w H2 s1.heap d (.frz o u) from I2.hok d _ e2)
  have key:(d==sysModules)=false/\∃ vs,KV kvs vs/\s1.heap.DictOf (ao X.prog X.w) d vs:=by
   rcases hu with rfl|⟨rfl,rfl⟩
   ·obtain⟨z,hd,vs,rel,dd⟩:=hx
    exact⟨hd,vs,rel,dd⟩
   ·obtain⟨hd,dd⟩:=gZ hx
    exact⟨hd,[],.nil,dd⟩
  obtain⟨hd,vs,rel,dd⟩:=key
  obtain⟨ep,da⟩:=dd.dictAt
  refine wpAny_pyIter_dict hd da ?_
  refine⟨s1.heap.objs.size,[s1.heap.objs.size],_,_,H2,rfl,I2.kept (t':=s1.toks) fun b o e=>Heap.get?_push_of_some _ e,wX rel da eo,⟨_,Heap.get?_push_size _ rfl,rfl,rfl⟩,fun b hb=>?_,q2⟩
  have e:b=s1.heap.objs.size:=by simpa using hb
  subst e
  exact I2.fpOk (Nat.le_refl _) (I2.hok.fresh (Nat.le_refl _))
 rcases q with⟨o,e1,q⟩|⟨e1,q⟩
 ·exact fin o H1 I1 e1 q
 ·have hob:∃ o,s1.heap.get? d=some o:=by
   rcases hu with rfl|⟨rfl,_⟩
   ·obtain⟨_,_,_,_,o,_,_,ho,_⟩:=(show ObjOk X.prog X.w H1 s1.heap d (.dK kvs) from I1.hok d _ e1)
    exact⟨o,ho⟩
   ·obtain⟨_,_,_,_,o,_,_,ho,_⟩:=(show ObjOk X.prog X.w H1 s1.heap d (.dT []) from I1.hok d _ e1)
    exact⟨o,ho⟩
  obtain⟨o,ho⟩:=hob
  exact fin o _ (I1.frz e1 dI ho) ai (q o (I1.nofrz e1 dI))
def unD (X:Cx)(D:Ends):Ends where
 nx:=fun σ H=>D.nx σ H\/∃ d o u,H d=some (.frz o u)/\dj u/\(∀ o v,X.H₀ d≠some (.frz o v))/\D.nx σ (az H d u)
 rt:=D.rt
 bk:=D.bk
 ct:=D.ct
theorem D0 {st:Stmt}{t:TS}(h:PS X st t):PS X st (fun D σ H=>t (unD X D) σ H):=by
 intro pins s σ H D I q
 refine bS (h pins s σ H _ I q) fun f s' r=>?_
 cases f with
 |next=>
  obtain⟨σ',H',I',r⟩:=r
  rcases r with r|⟨d,o,u,e,hu,hn,r⟩
  ·exact⟨σ',H',I',r⟩
  ·exact⟨σ',_,I'.unfrz e hu hn,r⟩
 |_=>exact r
end
end L2
namespace L2
open PySem PySem.Spec PySem.Calls PyProof.Rows
abbrev mZ:=Key×Value×Value
def Hc (vs:List (Key×Value))(its:List mZ):List (Key×Value):=its.foldl (fun vs x=>stored vs x.1 x.2.2) vs
section
variable {prog:Program}{w:World}
theorem jG {h h':Heap}{S:Addr}{vs:List (Key×Value)}(d:h.DictOf (ao prog w) S vs)(e:∀ o,h.get? S=some o->h'.get? S=some o):h'.DictOf (ao prog w) S vs:=let ⟨o,es,ep,ho,r⟩:=d;⟨o,es,ep,e o ho,r⟩
variable {A:Around}{R:Result->Shared->Prop}{I:Addr}{fp wr:List Addr}{G:Array GenState->Array GenState->Prop}{n:Nat}{P:Nat->Value->Prop}{St:Nat->Shared->Prop}
theorem g6 (W:WalksS prog w A.in1 I fp wr G n P St)(S:Addr)(hSf:S∉fp)(hb:Heap)(hbS:hb.get? S=none)(hbw:∀ b∈wr,hb.get? b=none)(its:List mZ)(hn:its.length=n)
 (hval:∀ i v,P i v->∃ p x,v=.ref p/\its[i]?=some x/\hb.IsTuple p #[x.2.1,x.2.2]/\(ao prog w).is x.1 x.2.1=true) (hsz:n<=sizeLine) :
 ∀(k i:Nat)(s:Shared)(vs:List (Key×Value))(j:Int),n-i=k->i<=n->St i s->(∀ b o,hb.get? b=some o->s.heap.get? b=some o)->vs.length<=i->s.heap.DictOf (ao prog w) S vs->
  (∀ s',Moved (S::wr) G s s'->s'.heap.DictOf (ao prog w) S (Hc vs (its.drop i))->R (.ok (.ret .none)) s')->
  codeAny (model prog w) A (.builtin "dict.update.loop" ⟨[.ref S,.ref I,rawInt j,.none],[]⟩) R s:=by
 have hSw:S∉wr:=fun h=>hSf (W.sub _ h)
 have hsub:∀ b∈wr,b∈S::wr:=fun b hb=>List.mem_cons_of_mem _ hb
 intro k
 induction k with
 |zero=>
  intro i s vs j hk hi hst K hxl hS hR
  have hin:i=n:=by omega
  subst hin
  refine codeAny_builtin cX ?_
  rw[Around.under_plainId bf _]
  show wpAny _ A.in1 (pyNext (.ref I) >>= _) _ _ s
  refine wpAny_bind (W.done s _ _ hst fun s' hm=>?_)
  have hR':=hR s' (hm.mono hsub) (by
   rw[List.drop_of_length_le (by omega)]
   exact jG hS fun o e=>hm.heap S o hSw e)
  show wpAny _ A.in1 (Builtin.Dict.addKeywords S [] >>= fun _=>ret Value.none) _ _ s'
  exact wpAny_bind (wpAny_pure (wpAny_pure hR'))
 |succ k ih=>
  intro i s vs j hk hi hst K hxl hS hR
  have hlt:i<n:=by omega
  refine codeAny_builtin cX ?_
  rw[Around.under_plainId bf _]
  show wpAny _ A.in1 (pyNext (.ref I) >>= _) _ _ s
  refine wpAny_bind (W.item i s _ _ hlt hst fun v s' hP hst' hm=>?_)
  obtain⟨p,x,rfl,hx,ht,fV⟩:=hval i v hP
  have K':∀ b o,hb.get? b=some o->s'.heap.get? b=some o:=fun b o e=>hm.heap b o (fun z=>by rw[hbw b z]at e;cases e) (K b o e)
  obtain⟨ot,hot,hct,nt,hdt⟩:=ht
  have hT:s'.TypeIs (.ref p) "tuple":=⟨ot,K' _ _ hot,hct⟩
  have hS':=jG hS fun o e=>hm.heap S o hSw e
  refine wpAny_bind (wpAny_holding ?_)
  refine wpAny_bind ?_
  refine wpAny_tryCatch ?_
  unfold Builtin.Dict.pairItems
  refine wpAny_bind (wpAny_typeOf hT ?_)
  rw[if_pos (by decide)]
  refine wpAny_bind (wpAny_seqItems (K' _ _ hot) hdt ?_)
  refine wpAny_pure ?_
  show wpAny _ A.in1 (holding [x.2.1,x.2.2] (dictSet S x.2.1 x.2.2)) _ _ s'
  refine wpAny_holding ?_
  refine wpAny_dictSet_pairs (knd:=ao prog w) (hsz:=by omega) fV hS' fun h' hd' hs'=>?_
  have K2:∀ b o,hb.get? b=some o->h'.get? b=some o:=fun b o e=>(hs'.2 b (fun z=>by subst z;rw[hbS]at e;cases e)).trans (K' b o e)
  have hdrop:its.drop i=x::its.drop (i+1):=by
   have hil:i<its.length:=by omega
   rw[List.drop_eq_getElem_cons hil]
   rw[List.getElem?_eq_getElem hil]at hx
   rw[Option.some.inj hx]
  refine wpAny_pure ⟨plainId_quiet bf _,ih (i+1) _ (stored vs x.1 x.2.2) (j+1) (by omega) hlt (W.frame _ s' _ _ hst' (Nat.le_add_right _ _) fun b hb o e=>?_) K2 (by have:=stored_length_le vs x.1 x.2.2;omega) hd' fun s'' hm'' hS''=>?_⟩
  ·rw[hs'.2 b (fun h:b=S=>hSf (by rw[<- h];exact hb))];exact e
  ·refine hR s'' (Moved.trans W.gtrans ((hm.mono hsub).then_heap (Nat.le_add_right _ _) fun b o hb e=>?_) hm'') (by rw[hdrop];exact hS'')
   rw[hs'.2 b (fun h:b=S=>hb (by rw[h];exact List.mem_cons_self))];exact e
end
section
variable {prog:Program}{w:World}{A:Around}{E:Value->Shared->Prop}{s:Shared}
theorem i_ {l:Addr} {items:Array Value} {nl:Nat} {its:List mZ} {Q:Value->Shared->Prop} (hh:A.handled=none) (hl:s.heap.get? l=some { cls:=.type "list",data:=.seq items nl }) (hn:its.length=items.size) (hsz:items.size<=sizeLine)
 (hval:∀(i:Nat)(v:Value),items[i]?=some v->∃(p:Addr)(x:mZ),v=.ref p/\its[i]?=some x/\s.heap.IsTuple p #[x.2.1,x.2.2]/\(ao prog w).is x.1 x.2.1=true)
 (h:∀(h':Heap)(tk:Nat),h'.DictOf (ao prog w) s.heap.objs.size (Hc [] its)->(∀ b o,b<s.heap.objs.size->s.heap.get? b=some o->h'.get? b=some o)->Q (.ref s.heap.objs.size) { s with heap:=h',toks:=tk }) :
 wpAny (model prog w) A (call (.type "dict") [.ref l]) Q E s:=by
 refine callType_codes (Q₁:=fun obj s₁=>obj=.ref s.heap.objs.size/\s₁={ s with heap:=s.heap.push { cls:=.type "dict",data:=.dict #[] } }) PySem.F.kt_called_dict (PySem.F.kt_typeCall_dict_1 _) PySem.F.entry_dict_init (kt_code_dict_new _ ⟨rfl,rfl⟩) ?_
 rintro obj s₁ ⟨rfl,rfl⟩
 have hD:(s.heap.push { cls:=.type "dict",data:=.dict #[] }).get? s.heap.objs.size=some { cls:=.type "dict",data:=.dict #[] }:=Heap.get?_push_size _ rfl
 have hT:Shared.TypeIs { s with heap:=s.heap.push { cls:=.type "dict",data:=.dict #[] } } (.ref s.heap.objs.size) "dict":=⟨_,hD,rfl⟩
 refine⟨hT,PySem.F.args_dict_init_2 _ _,?_⟩
 unfold Builtin.«dict.__init__»
 refine wpAny_bind ?_
 unfold Builtin.Dict.selfAndRest
 refine wpAny_bind (wpAny_notOrdered_dict hT ?_)
 show wpAny _ _ (pure (s.heap.objs.size,[Value.ref l])) _ _ _
 refine wpAny_pure ?_
 show wpAny _ _ (Builtin.Dict.updateFrom "dict.__init__" s.heap.objs.size (.ref l) [] .none) _ _ _
 unfold Builtin.Dict.updateFrom
 have hl1:(s.heap.push { cls:=.type "dict",data:=.dict #[] }).get? l=some { cls:=.type "list",data:=.seq items nl }:=Heap.get?_push_of_some _ hl
 refine wpAny_bind (wpAny_typeOf ⟨_,hl1,rfl⟩ ?_)
 rw[if_pos (by decide)]
 refine wpAny_bind (fK (s:={ s with heap:=s.heap.push { cls:=.type "dict",data:=.dict #[] } }) hl1 rfl rfl rfl (am_miss_of_fast (by decide +kernel)) (by decide +kernel) (by simp[hh]) fun h1 tk1 e1 hx1=>?_)
 rw[if_pos (by decide)]
 refine wpAny_bind (wpAny_rule ?_)
 have k1:∀ b o,s.heap.get? b=some o->h1.get? b=some o:=fun b o e=>hx1.keeps b o (Heap.get?_push_of_some _ e)
 have hl2:h1.get? l=some { cls:=.type "list",data:=.seq items nl }:=k1 _ _ hl
 have hD1:h1.get? s.heap.objs.size=some { cls:=.type "dict",data:=.dict #[] }:=hx1.keeps _ _ hD
 have hlt1:s.heap.objs.size<h1.objs.size:=Heap.lt_size hD1
 have hll:l<s.heap.objs.size:=Heap.lt_size hl
 refine wpAny_bind (wpAny_pyIter_list (s:=⟨h1,s.gens,s.drawn,tk1,s.os⟩) ⟨_,hl2,rfl,nl,rfl⟩ ?_)
 have hh3:A.in1.in1.handled=none:=by simp[hh]
 have hno:∀ b,s.heap.objs.size<=b->s.heap.get? b=none:=fun b hb=>by
  cases q:s.heap.get? b with
  |none=>rfl
  |some o=>exact absurd (Heap.lt_size q) (Nat.not_lt.mpr hb)
 have hneI:l≠h1.objs.size:=Nat.ne_of_lt (Nat.lt_trans hll hlt1)
 have k2:∀ b o,h1.get? b=some o->(h1.push { cls:=.type "list_iterator",data:=.fields #[.ref l,.int 0 0] }).get? b=some o:=fun b o e=>Heap.get?_push_of_some _ e
 refine wpAny_pure ⟨plainId_quiet bf _,g6 (A:=A.in1) ((Walks.list hh3 h1.objs.size l hneI items).toS) s.heap.objs.size ?_ s.heap (hno _ (Nat.le_refl _)) ?_ its hn hval hsz (items.size-0) 0 _ [] 0 rfl (Nat.zero_le _) ⟨⟨_,Heap.get?_push_size _ rfl,rfl,rfl⟩,⟨_,k2 _ _ hl2,rfl,nl,rfl⟩⟩ (fun b o e=>k2 _ _ (k1 b o e)) (Nat.le_refl _) ⟨_,#[],0,k2 _ _ hD1,⟨rfl,rfl,rfl⟩,rfl,fun x hx=>by simp at hx,by constructor,List.nodup_nil⟩ ?_⟩
 ·simp only[List.mem_cons,List.not_mem_nil,or_false,not_or]
  exact⟨Nat.ne_of_lt hlt1,Nat.ne_of_gt hll⟩
 ·intro b hb
  simp only[List.mem_cons,List.not_mem_nil,or_false]at hb
  subst hb
  exact hno _ (Nat.le_of_lt hlt1)
 ·intro s' hm hS'
  obtain⟨h',g',d',tk',os'⟩:=s'
  have eg:g'=s.gens:=hm.gens
  have ed:d'=s.drawn:=hm.drawn
  have eo:os'=s.os:=hm.os
  subst eg;subst ed;subst eo
  refine⟨rfl,h h' tk' hS' fun b o hb e=>hm.heap b o ?_ (k2 _ _ (k1 _ _ e))⟩
  simp only[List.mem_cons,List.not_mem_nil,or_false,not_or]
  exact⟨Nat.ne_of_lt hb,Nat.ne_of_lt (Nat.lt_trans hb hlt1)⟩
end
def oa (H:Hp):List V->List (Key×V)->Prop:=Paired fun v kv=>∃ p,v=.ref p/\H p=some (.tup [kV kv.1,kv.2])
section
variable {P:Program}{w:World}{H:Hp}{h:Heap}
theorem kK (ok:HOk P w H h):∀{vs:List V}{us:List Value}{kvs:List (Key×V)},oa H vs kvs->Vals vs us->
 ∃ its:List mZ,its.length=us.length/\(∀(i:Nat)(v:Value),us[i]?=some v->∃(p:Addr)(x:mZ),v=.ref p/\its[i]?=some x/\h.IsTuple p #[x.2.1,x.2.2]/\(ao P w).is x.1 x.2.1=true)/\
  ∀ t vs,KV t vs->KV (d6 t kvs) (Hc vs its)
 |_,_,_,.nil,.nil=>⟨[],rfl,fun i v e=>by simp at e,fun t xs r=>r⟩
 |_,_,_,.cons (a:=v) (b:=kv) q t,.cons (b:=u) r s=>by
  obtain⟨its,hl,hv,hk⟩:=kK ok t s
  obtain⟨p,rfl,hp⟩:=q
  cases r
  obtain⟨_,is,r2,ot,ho,hc,n,hd⟩:=(show ObjOk P w H h p (.tup [kV kv.1,kv.2]) from ok p _ hp)
  obtain⟨u1,u2,rfl,ru1,ru2⟩:=mO r2
  refine⟨(kv.1,u1,u2)::its,by simp[hl],fun i v e=>?_,fun t xs rt=>?_⟩
  ·cases i with
   |zero=>simp at e;subst e;exact⟨p,(kv.1,u1,u2),rfl,rfl,⟨ot,ho,hc,n,hd⟩,fY ru1⟩
   |succ i=>exact hv i v (by simpa using e)
  ·exact hk _ _ (rt.put kv.1 ru2)
end
section
variable {X:Cx}
theorem sY (hc:X.calm=true):CallR X (.type "dict") (fun xs H Q=>∃ l vs kvs,xs=[.ref l]/\Rd H l (.lst vs)/\oa H vs kvs/\∀ p,H p=none->Q (.ref p) (az H p (.dK (d6 [] kvs)))):=by
 intro pins s σ H xs us Q I r h
 obtain⟨l,vs,kvs,rfl,hl,hp,q⟩:=h
 obtain⟨u,rfl,ru⟩:=fX r
 obtain rfl:u=Value.ref l:=ru
 obtain⟨hz,its,n,rv,hg⟩:=(show ObjOk X.prog X.w H s.heap l (.lst vs) from hl.ok I.hok)
 obtain⟨pi,pl,pv,pk⟩:=kK I.hok hp rv
 have hsz:its.toArray.size<=sizeLine:=by rw[List.size_toArray,<- rv.length];exact hz
 refine i_ (I.ok.hd hc) hg (its:=pi) (by rw[pl,List.size_toArray]) hsz (fun i v e=>pv i v (by simpa using e)) fun h' tk hD hk=>?_
 have hf:H s.heap.objs.size=none:=I.hok.fresh (Nat.le_refl _)
 refine⟨.ref s.heap.objs.size,_,I.laid (a:=s.heap.objs.size) (o:=.dK (d6 [] kvs)) (t':=tk) (fun b o e=>hk b o (Heap.lt_size e) e) (Nat.le_refl _) ?_,rfl,q _ hf⟩
 refine⟨?_,beq_eq_false_iff_ne.mpr (Ne.symm (Nat.ne_of_lt I.big)),_,pk [] [] .nil,hD⟩
 have:=gK kvs []
 have h2:=Paired.length hp
 simp only[List.length_nil]at this
 omega
theorem D1 {pins:List (Addr×Obj)}{σ:St}{H:Hp}{s:Shared}{a:Addr}{kvs:List (Key×V)}(I:Inv X pins σ H s)(e:Rd H a (.dK kvs)\/(Rd H a (.dT [])/\kvs=[])) :
 kvs.length<=sizeLine/\(a==sysModules)=false/\∃ vs,KV kvs vs/\s.heap.DictOf (ao X.prog X.w) a vs:=by
 rcases e with e|⟨e,rfl⟩
 ·exact jE I.hok e
 ·obtain⟨y,dd⟩:=gZ (e.ok I.hok)
  exact⟨Nat.zero_le _,y,[],.nil,dd⟩
end
end L2
namespace L2
open PySem PySem.Spec PySem.Calls PyProof.Rows
section
variable {prog:Program}{w:World}{A:Around}{E:Value->Shared->Prop}{s:Shared}
theorem D2 {d:Addr}{vs:List (Key×Value)}{k:Key}{key dflt:Value}{Q:Value->Shared->Prop}(fV:(ao prog w).is k key=true)(hm:s.heap.DictOf (ao prog w) d vs)(hn0:valueAt vs k=none)
 (h:∀ h',h'.DictOf (ao prog w) d (stored vs k dflt)->Heap.SameBut d s.heap h'->Q dflt { s with heap:=h',toks:=s.toks+1 }) (hsz:vs.length<=sizeLine):wpAny (model prog w) A (dictSetDefault d key dflt) Q E s:=by
 obtain⟨o,es,ep,ho,hc,hd,hk,hp,hn⟩:=hm
 have hes:es.size<=sizeLine:=by
  have e1:=hp.length
  have e2:es.toList.length=es.size:=by simp
  omega
 have hnone:vs.findIdx? (fun kv=>decide (kv.1=k))=none:=by
  rw[List.findIdx?_eq_none_iff]
  intro x hx
  refine decide_eq_false fun e=>?_
  have:(valueAt vs k).isSome=true:=by
   unfold valueAt
   rw[Option.isSome_map,List.find?_isSome]
   exact⟨x,hx,decide_eq_true e⟩
  rw[hn0]at this;cases this
 have hidx:(es.findIdx? fun e=>(ao prog w).is k e.key)=none:=by
  have:(es.findIdx? fun e=>(ao prog w).is k e.key)=vs.findIdx? fun kv=>decide (kv.1=k):=by
   rw[<- hp.findIdx k];obtain⟨l⟩:=es;simp
  rw[this];exact hnone
 have hnot:k∉vs.map (·.1):=not_mem_of_findIdx_none hnone
 have hany:¬ (vs.any fun kv=>decide (kv.1=k))=true:=by
  rw[List.any_eq_true];rintro⟨kv,hkv,he⟩;exact hnot (List.mem_map.mpr ⟨kv,hkv,of_decide_eq_true he⟩)
 unfold dictSetDefault
 try with_reducible refine wpAny_holding ?_
 refine wpAny_bind ((ao prog w).pyHash fV ?_)
 refine wpAny_bind (wpAny_dictFind_of (s:={ s with toks:=s.toks+1 }) fV ho hd hk ?_)
 rw[hidx]
 refine wpAny_bind (wpAny_rule (wpAny_bind (wpAny_updateDictKeys (hz:=hes) (s:={ s with toks:=s.toks+1 }) ho hd (wpAny_pure (h _ ⟨_,_,ep+1,Heap.get?_update_self _ ho (Obj.isFreed_of_dict (Obj.data_mapDictKeys hd _)),hc.mapDictKeys _,Obj.data_mapDictKeys hd _,hk.push fV _,?_,?_⟩ (Heap.SameBut.update ..))))))
 ·rw[stored,if_neg hany]
  have:=hp.append fV ((ao prog w).hash k) dflt
  obtain⟨l⟩:=es
  simpa using this
 ·rw[stored,if_neg hany,List.map_append,List.nodup_append]
  refine⟨hn,by simp,?_⟩
  intro a ha b hb
  simp only[List.map_cons,List.map_nil,List.mem_singleton]at hb
  subst hb
  exact fun e=>hnot (e▸ha)
end
section
variable {X:Cx}
def yn:V->List V->Hp->VK->Prop:=fun x xs H Q=>∃ a k y kvs,x=.ref a/\xs=[kV k,y]/\(H a=some (.dK kvs)\/(H a=some (.dT [])/\kvs=[]))/\kvs.length<sizeLine/\
 ((∃ v,fT kvs k=some v/\Q v H)\/(fT kvs k=none/\Q y (az H a (.dK (bu kvs k y)))))
theorem vH:G8 X "dict.setdefault" yn:=by
 intro pins s σ H x xs v us Q I rx rs q
 obtain⟨a,k,y,kvs,rfl,rfl,ha,hz,q⟩:=q
 obtain rfl:v=Value.ref a:=rx
 obtain⟨u1,u2,rfl,ru1,ru2⟩:=mO rs
 obtain⟨z1,y1,vs,r1,d1⟩:=D1 I (ha.imp .inl fun⟨e,w⟩=>⟨.inl e,w⟩)
 have fV:=fY (P:=X.prog) (w:=X.w) ru1
 refine wpAny_call_entry PySem.F.slot_dict_setdefault d1.typeIs PySem.F.entry_dict_setdefault ?_ (PySem.F.args_dict_setdefault_3 _ _ _)
 unfold Builtin.«dict.setdefault»
 refine wpAny_bind ?_
 unfold Builtin.Dict.keyAndDefault
 refine wpAny_bind (wpAny_notOrdered_dict d1.typeIs (show wpAny _ _ (pure (a,u1,some u2)) _ _ s from wpAny_pure ?_))
 show wpAny _ _ (if (a==sysModules)=true then _ else (dictSetDefault a u1 u2 >>= _)) _ _ s
 rw[if_neg (by rw[y1];exact Bool.false_ne_true)]
 have bc:vs.length<=sizeLine:=by rw[<- r1.length];omega
 have dle:s.heap.DictLe a sizeLine:=fun o es ep ho hd=>by
  obtain⟨o',es',ep',ho',_,hd',_,hp,_⟩:=id d1
  rw[ho]at ho';cases ho'
  rw[hd]at hd';cases hd'
  have e1:=hp.length
  have e2:es.toList.length=es.size:=by simp
  omega
 have rv:=r1.val k
 rcases q with⟨v,hv,q⟩|⟨hv,q⟩
 ·obtain⟨w',hw,rw'⟩:=RelO.some_of (v:=v) (o:=valueAt vs k) (by rw[<- hv];exact rv)
  refine wpAny_bind (wpAny_dictSetDefault_of (hz:=dle) fV d1.mapOf (fun v' e=>?_) fun e=>?_)
  ·rw[hw]at e;cases e
   exact wpAny_pure ⟨_,rfl,v,H,I.tok _,rw',q⟩
  ·rw[hw]at e;cases e
 ·have hn0:valueAt vs k=none:=by
   have:=rv.isSome_eq
   rw[hv]at this
   cases z:valueAt vs k with
   |none=>rfl
   |some _=>rw[z]at this;cases this
  refine wpAny_bind (D2 fV d1 hn0 (fun h' dd' hs=>wpAny_pure ⟨_,rfl,?_⟩) bc)
  have he:∃ q,h'.get? a=some q:=let ⟨q,_,_,hq,_⟩:=dd';⟨q,hq⟩
  have mu:Fu (H a):=by rcases ha with e|⟨e,_⟩<;>(rw[e];exact True.intro)
  have hl:(bu kvs k y).length<=sizeLine:=by have:=cK kvs k y;omega
  exact⟨y,_,n8 (t':=s.toks+1) I mu hs he (yg hl y1 (r1.put k ru2) dd'),ru2,q⟩
end
end L2
namespace L2
open PySem PySem.Spec PySem.Calls PyProof.Rows
def Hd (K:PySem.W.Frag)(a:Addr)(n:Nat):It:=
 ⟨fun i H=>∃ xs,SqL K H a xs/\xs.length=n/\i<n,fun i H x H'=>H'=H/\∀ xs,SqL K H a xs->xs[n-1-i]?=some x,fun i H=>n<=i⟩
theorem yo {P:Program}{w:World}{K:PySem.W.Frag}{tg:Expr}(a it:Addr)(n:Nat):Turn P w K tg (Hd K a n) [it] it (fun i h=>i<=n/\h.IsRevIter it a ((n:Int)-1-i)) where
 mem:=by simp
 obj:=fun i h st b hb=>by
  have e:b=it:=by simpa using hb
  subst e
  obtain⟨_,o,e,c,d⟩:=st
  exact⟨o,e,fun v z=>by rw[d]at z;cases z⟩
 keep:=fun i h h' st k=>⟨st.1,st.2.at fun o e=>k it (by simp) o e⟩
 item:=by
  intro X hP hw hK hc i pins s σ H E I hf st hg
  subst hP hw hK
  obtain⟨xs,hq,hn,hi⟩:=hg
  obtain⟨its,rv,p,hz⟩:=I.list hq
  have hx:xs[n-1-i]?=some xs[n-1-i]:=by simp[show n-1-i<xs.length by omega]
  obtain⟨u,hu,ru⟩:=rv.get hx
  obtain⟨f0,f1,f2,f3,f4,f5⟩:=hf it (by simp)
  have ei:(n:Int)-1-i=((n-1-i:Nat):Int):=by omega
  have st2:=st.2
  rw[ei]at st2
  refine wpAny_pyNext_rev_item st2 p.isList (x:=u) (by simpa using hu) fun h' st' sb=>?_
  have I1:Inv X pins σ H { s with heap:=h' }:=I.turned (t':=s.toks) (fun b o hb e=>(sb.2 b hb).trans e) f0 f1 f3 f4 f5
  obtain⟨o,e,c,d⟩:=id st'
  have e2:((n-1-i:Nat):Int)-1=(n:Int)-1-((i+1:Nat):Int):=by omega
  exact⟨u,rfl,qH (s:={ s with heap:=h' }) e c d (by decide) ⟨xs[n-1-i],H,I1,ru,⟨rfl,fun ys hy=>by rw[I.list_inj hy hq];exact hx⟩,⟨by omega,by rw[<- e2];exact st'⟩,fun b hb=>(hf b hb).1⟩⟩
 done:=by
  intro X hP hw hK hc i pins s σ H E I hf st hg
  subst hP hw hK
  obtain⟨f0,f1,f2,f3,f4,f5⟩:=hf it (by simp)
  have hin:i=n:=Nat.le_antisymm st.1 hg
  have st2:=st.2
  rw[hin,show(n:Int)-1-(n:Nat)=-1 by omega]at st2
  exact wpAny_pyNext_rev_end (I.ok.hd hc) st2 fun h' eb=>⟨rfl,I.turned (t':=s.toks) (fun b o hb e=>eb b o hb e) f0 f1 f3 f4 f5⟩
 self:=fun _ _ _ _ _ st h=>wpAny_pyIter_revIter st.2 h
section
variable {X:Cx}{tg:Expr}
def He (K:PySem.W.Frag)(ta:TA):TI:=fun σ H R=>ta σ H fun vs H1=>∃ a xs,vs=[.ref a]/\SqL K H1 a xs/\R (Hd K a xs.length) H1
theorem D6 {l:Expr} {ta:TA} {p pos:Pos} (hg:Gl X "reversed") (hm:X.mg "reversed"=none) (ha:PA X [l] ta) (hs:starEach [l] X.env=[(false,eval l X.env)]:=by rfl):PI X tg (.Call (.Name "reversed" p) [l] [] pos) (He X.K ta):=by
 intro pins s σ H R I h
 refine Call_ (fW I hg hm boot_reversed (PyProof.Rows.callWith_type1 (bS (ha pos pins s σ H _ I h) fun us s1 ⟨vs,H1,I1,r1,q1⟩=>?_) hs rfl))
 obtain⟨a,xs,rfl,hq,q⟩:=q1
 obtain⟨u,rfl,ru⟩:=fX r1
 obtain rfl:u=Value.ref a:=ru
 obtain⟨its,rv,pl,hz⟩:=I1.list hq
 refine call_reversed_list pl.isList ?_
 have hn:(its.toArray.size:Int)-1=(xs.length:Int)-1-((0:Nat):Int):=by rw[List.size_toArray,<- rv.length];simp
 have st0:(s1.heap.push (revObj a ((its.toArray.size:Int)-1))).IsRevIter s1.heap.objs.size a ((xs.length:Int)-1-((0:Nat):Int)):=⟨_,Heap.get?_push_size _ rfl,rfl,by rw[<- hn];rfl⟩
 refine wpAny_pyIter_revIter st0 ?_
 refine⟨s1.heap.objs.size,[s1.heap.objs.size],_,_,H1,rfl,I1.kept (t':=s1.toks) fun b o e=>Heap.get?_push_of_some _ e,yo a _ xs.length,⟨Nat.zero_le _,st0⟩,fun b hb=>?_,q⟩
 have e:b=s1.heap.objs.size:=by simpa using hb
 subst e
 exact I1.fpOk (Nat.le_refl _) (I1.hok.fresh (Nat.le_refl _))
end
end L2
namespace ST
open PySem PySem.SetTable
def st (m:Nat)(h:Int):Probe:={ j:=bits h % (m+1),more:=runEnd m (bits h % (m+1))-bits h % (m+1),i:=bits h % (m+1),perturb:=bits h,dummy:=none }
def rs (m:Nat)(p:Nat×Nat):Probe:={ j:=p.1,more:=runEnd m p.1-p.1,i:=p.1,perturb:=p.2,dummy:=none }
def adv (m:Nat)(p:Probe):Probe:=if p.more>0 then { p with j:=p.j+1,more:=p.more-1 } else { p with j:=(leap m p.i p.perturb).1,more:=runEnd m (leap m p.i p.perturb).1-(leap m p.i p.perturb).1,i:=(leap m p.i p.perturb).1,perturb:=(leap m p.i p.perturb).2 }
theorem sZ (t:SetTable)(p:Probe):t.advance p=adv t.mask p:=rfl
def it (m:Nat):Nat->Probe->Probe
 |0,p=>p
 |n+1,p=>it m n (adv m p)
theorem cQ (m:Nat):∀(a b:Nat)(p:Probe),it m (a+b) p=it m b (it m a p)
 |0,b,p=>by rw[Nat.zero_add];rfl
 |a+1,b,p=>by rw[Nat.succ_add];exact cQ m a b (adv m p)
theorem Bz (m n:Nat)(p:Probe):it m (n+1) p=adv m (it m n p):=cQ m n 1 p
structure Va (m:Nat) (p:Probe):Prop where
 i:p.i<=m
 more:p.more<=9
 j:p.j+p.more<=m
 q:p.perturb<2 ^ 64
 d:p.dummy=none
theorem oe (h:Int):bits h<2 ^ 64:=by
 unfold bits
 have:=Int.emod_lt_of_pos h (show(0:Int)<2 ^ 64 by decide)
 have h2:=Int.emod_nonneg h (show(2 ^ 64:Int)≠0 by decide)
 omega
theorem g7 (m i:Nat)(h:i<=m):runEnd m i-i<=9/\i+(runEnd m i-i)<=m:=by
 unfold runEnd;split<;>omega
theorem Va.rs {m:Nat}{p:Nat×Nat}(h1:p.1<=m)(h2:p.2<2 ^ 64):Va m (rs m p):=⟨h1,(g7 m _ h1).1,(g7 m _ h1).2,h2,rfl⟩
theorem Va.st (m:Nat)(h:Int):Va m (st m h):=by
 have:bits h % (m+1)<=m:=Nat.le_of_lt_succ (Nat.mod_lt _ (Nat.succ_pos m))
 exact⟨this,(g7 m _ this).1,(g7 m _ this).2,oe h,rfl⟩
theorem og (m i q:Nat):(leap m i q).1<=m:=by
 exact Nat.le_of_lt_succ (Nat.mod_lt _ (Nat.succ_pos m))
theorem s_ (m i q:Nat):(leap m i q).2=q / 32:=rfl
theorem Va.adv {m:Nat}{p:Probe}(v:Va m p):Va m (adv m p):=by
 unfold ST.adv
 split
 ·exact⟨v.i,by dsimp only;have:=v.more;omega,by dsimp only;have:=v.j;omega,v.q,v.d⟩
 ·have l:=og m p.i p.perturb
  exact⟨l,(g7 m _ l).1,(g7 m _ l).2,by dsimp only;rw[s_];have:=v.q;have:=Nat.div_le_self p.perturb 32;omega,v.d⟩
theorem Va.it {m:Nat}:∀{n:Nat}{p:Probe},Va m p->Va m (it m n p)
 |0,_,v=>v
 |n+1,_,v=>Va.it (n:=n) v.adv
theorem Va.jle {m:Nat}{p:Probe}(v:Va m p):p.j<=m:=by have:=v.j;omega
theorem ie {m:Nat}:∀(k:Nat)(p:Probe),p.more=k->Va m p->it m (k+1) p=rs m (leap m p.i p.perturb)
 |0,p,e,v=>by
  show adv m p=_
  unfold adv rs
  rw[if_neg (by omega)]
  obtain⟨j,mo,i,q,d⟩:=p
  cases v.d
  rfl
 |k+1,p,e,v=>by
  have e1:adv m p={ p with j:=p.j+1,more:=p.more-1 }:=by unfold adv;rw[if_pos (by omega)]
  show it m (k+1) (adv m p)=_
  have:=ie k (adv m p) (by rw[e1];show p.more-1=k;omega) v.adv
  rw[this,e1]
def lp (m:Nat):Nat->Nat×Nat->Nat×Nat
 |0,p=>p
 |n+1,p=>lp m n (leap m p.1 p.2)
theorem yp (m:Nat):∀(a b:Nat)(p:Nat×Nat),lp m (a+b) p=lp m b (lp m a p)
 |0,b,p=>by rw[Nat.zero_add];rfl
 |a+1,b,p=>by rw[Nat.succ_add];exact yp m a b _
theorem F0 (m:Nat):∀(n:Nat)(p:Nat×Nat),(lp m n p).2=p.2 / 32 ^ n
 |0,p=>by simp[lp]
 |n+1,p=>by
  show(lp m n (leap m p.1 p.2)).2=_
  rw[F0 m n,s_,Nat.div_div_eq_div_mul,Nat.pow_succ,Nat.mul_comm]
theorem CT (m:Nat):∀(n:Nat)(p:Nat×Nat),p.1<=m->(lp m n p).1<=m
 |0,p,h=>h
 |n+1,p,_=>CT m n _ (og m _ _)
theorem qS {m:Nat}:∀(L:Nat)(p:Probe),Va m p->∃ n,n<=10*(L+1)/\it m n p=rs m (lp m (L+1) (p.i,p.perturb))
 |0,p,v=>⟨p.more+1,by have:=v.more;omega,ie _ p rfl v⟩
 |L+1,p,v=>by
  have h1:=ie _ p rfl v
  have v1:Va m (rs m (leap m p.i p.perturb)):=by rw[<- h1];exact v.it
  obtain⟨n,hn,e⟩:=qS L _ v1
  refine⟨p.more+1+n,by have:=v.more;omega,?_⟩
  rw[cQ,h1,e]
  rfl
def f5 (m i:Nat):Nat:=(i*5+1) % (m+1)
def fN (m:Nat):Nat->Nat->Nat
 |0,i=>i
 |n+1,i=>fN m n (f5 m i)
def yq (m:Nat):Nat->Nat->List Nat
 |0,_=>[]
 |n+1,i=>i::yq m n (f5 m i)
theorem qT (m:Nat):∀(n i k:Nat),k<n->(yq m n i)[k]?=some (fN m k i)
 |n+1,i,0,_=>rfl
 |n+1,i,k+1,h=>qT m n _ k (by omega)
theorem qU (m:Nat):∀(n i:Nat),(yq m n i).length=n
 |0,_=>rfl
 |n+1,i=>by show(yq m n _).length+1=_;rw[qU]
theorem oh (m:Nat):∀(a b i:Nat),fN m (a+b) i=fN m b (fN m a i)
 |0,b,i=>by rw[Nat.zero_add];rfl
 |a+1,b,i=>by rw[Nat.succ_add];exact oh m a b _
def Hf (m:Nat):Bool:=((List.range (m+1)).all fun j=>(yq m (m+1) 0).contains j)&&(fN m (m+1) 0==0)
def Msk (m:Nat):Prop:=m=7\/m=31\/m=127
theorem vI {m:Nat}(h:Msk m):Hf m=true:=by
 rcases h with rfl|rfl|rfl<;>decide +kernel
theorem yr {m j:Nat}(h:Msk m)(hj:j<=m):∃ n,n<=m/\fN m n 0=j:=by
 have:=vI h
 unfold Hf at this
 simp only[Bool.and_eq_true,List.all_eq_true]at this
 have h1:=this.1 j (List.mem_range.mpr (by omega))
 rw[List.contains_iff_mem,List.mem_iff_getElem?]at h1
 obtain⟨n,hn⟩:=h1
 have hl:=(List.getElem?_eq_some_iff.mp hn).1
 rw[qU]at hl
 rw[qT m _ _ _ hl]at hn
 exact⟨n,by omega,Option.some.inj hn⟩
theorem D7 {m i j:Nat}(h:Msk m)(hi:i<=m)(hj:j<=m):∃ n,n<=m/\fN m n i=j:=by
 obtain⟨a,ha,ea⟩:=yr h hi
 obtain⟨b,hb,eb⟩:=yr h hj
 by_cases hab:a<=b
 ·refine⟨b-a,by omega,?_⟩
  rw[<- ea,<- oh,show a+(b-a)=b by omega,eb]
 ·refine⟨m+1+b-a,by omega,?_⟩
  have z:=vI h
  unfold Hf at z
  simp only[Bool.and_eq_true,beq_iff_eq]at z
  rw[<- ea,<- oh,show a+(m+1+b-a)=m+1+b by omega,oh,z.2,eb]
theorem vJ (m:Nat):∀(n i:Nat),lp m n (i,0)=(fN m n i,0)
 |0,_=>rfl
 |n+1,i=>by
  show lp m n (leap m i 0)=_
  have:leap m i 0=(f5 m i,0):=rfl
  rw[this];exact vJ m n _
theorem qV {m j:Nat}(h:Msk m)(hj:j<=m)(p:Nat×Nat)(h1:p.1<=m)(h2:p.2<2 ^ 64):∃ n,13<=n/\n<=m+13/\(lp m n p).1=j:=by
 have hp13:(2:Nat) ^ 64<32 ^ 13:=by decide
 have hq:(lp m 13 p).2=0:=by rw[F0];exact Nat.div_eq_of_lt (by omega)
 obtain⟨n,hn,e⟩:=D7 h (CT m 13 p h1) hj
 refine⟨13+n,by omega,by omega,?_⟩
 rw[yp]
 have:lp m 13 p=((lp m 13 p).1,0):=by rw[<- hq]
 rw[this,vJ]
 exact e
theorem CU {m j:Nat}(h:Msk m)(hj:j<=m){p:Probe}(v:Va m p):∃ n,n<10*turns m/\(it m n p).j=j:=by
 obtain⟨L,h1,h2,e⟩:=qV h hj (p.i,p.perturb) v.i v.q
 obtain⟨n,hn,en⟩:=qS (L-1) p v
 rw[show L-1+1=L by omega]at en hn
 refine⟨n,by unfold turns;omega,?_⟩
 rw[en];exact e
end ST
namespace ST
open PySem PySem.SetTable
def Ris (xs:List Nat):Prop:=xs.Pairwise (·< ·)
theorem kL {xs:Array Nat}{j:Nat}(hr:Ris xs.toList):∀(fuel lo hi:Nat),lo<=hi->hi<=xs.size->hi-lo<=fuel->
 (∀ i (h:i<xs.size),i<lo->xs[i]<j)->(∀ i (h:i<xs.size),hi<=i->j<=xs[i])->
 below.go xs j fuel lo hi<=xs.size/\(∀ i (h:i<xs.size),i<below.go xs j fuel lo hi->xs[i]<j)/\∀ i (h:i<xs.size),below.go xs j fuel lo hi<=i->j<=xs[i]
 |0,lo,hi,h1,h2,h3,h4,h5=>by
  have:lo=hi:=by omega
  subst this
  exact⟨h2,h4,h5⟩
 |f+1,lo,hi,h1,h2,h3,h4,h5=>by
  have mono:∀ a b (ha:a<xs.size) (hb:b<xs.size),a<=b->xs[a]<=xs[b]:=by
   intro a b ha hb hab
   rcases Nat.lt_or_eq_of_le hab with h|h
   ·have:=List.pairwise_iff_getElem.mp hr a b (by simpa using ha) (by simpa using hb) h
    simpa using Nat.le_of_lt this
   ·subst h;exact Nat.le_refl _
  unfold below.go
  by_cases hc:lo<hi
  ·rw[if_pos hc]
   have hm:(lo+hi) / 2<xs.size:=by omega
   have eg:xs.getD ((lo+hi) / 2) j=xs[(lo+hi) / 2]:=by simp[Array.getD,hm]
   dsimp only
   rw[eg]
   by_cases hq:xs[(lo+hi) / 2]<j
   ·rw[if_pos hq]
    refine kL hr f _ _ (by omega) h2 (by omega) (fun i h hi'=>?_) h5
    exact Nat.lt_of_le_of_lt (mono i _ h hm (by omega)) hq
   ·rw[if_neg hq]
    refine kL hr f _ _ (by omega) (by omega) (by omega) h4 fun i h hi'=>?_
    exact Nat.le_trans (by omega) (mono _ i hm h hi')
  ·rw[if_neg hc]
   have:lo=hi:=by omega
   subst this
   exact⟨h2,h4,h5⟩
theorem dk {xs:Array Nat}(j:Nat)(hr:Ris xs.toList):below xs j<=xs.size/\(∀ i (h:i<xs.size),i<below xs j->xs[i]<j)/\∀ i (h:i<xs.size),below xs j<=i->j<=xs[i]:=by
 unfold below
 exact kL hr xs.size 0 xs.size (Nat.zero_le _) (Nat.le_refl _) (by omega) (fun i h z=>by omega) fun i h z=>by omega
theorem yt {xs:Array Nat}{i:Nat}(hr:Ris xs.toList)(h:i<xs.size):below xs xs[i]=i:=by
 obtain⟨a,b,c⟩:=dk xs[i] hr
 rcases Nat.lt_trichotomy (below xs xs[i]) i with q|q|q
 ·have hb:below xs xs[i]<xs.size:=by omega
  have h1:=c (below xs xs[i]) hb (Nat.le_refl _)
  have h2:=List.pairwise_iff_getElem.mp hr _ i (by simpa using hb) (by simpa using h) q
  simp at h2
  omega
 ·exact q
 ·have:=b i h q;omega
theorem m5 (j:Nat):has #[] j=false:=rfl
structure Tb (t:SetTable):Prop where
 msk:Msk t.mask
 dum:t.dummies=#[]
 ris:Ris t.place.toList
 le:∀ j∈t.place.toList,j<=t.mask
theorem m6 {t:SetTable}(h:Tb t){i:Nat}(hi:i<t.place.size):t.slot t.place[i]=.live i:=by
 unfold slot
 dsimp only
 rw[yt h.ris hi]
 rw[if_pos]
 simp[hi]
theorem tf {t:SetTable}(h:Tb t){j:Nat}(hj:j∉t.place.toList):t.slot j=.empty:=by
 unfold slot
 dsimp only
 rw[if_neg,h.dum,m5]
 ·rfl
 ·intro e
  have e:t.place[below t.place j]?=some j:=by simpa using e
  obtain⟨h1,h2⟩:=Array.getElem?_eq_some_iff.mp e
  exact hj (by rw[<- h2];simp)
theorem tj {t:SetTable}(h:Tb t)(j:Nat):(j∉t.place.toList/\t.slot j=.empty)\/∃ i,∃ hi:i<t.place.size,t.place[i]=j/\t.slot j=.live i:=by
 by_cases hj:j∈t.place.toList
 ·right
  obtain⟨i,hi,e⟩:=List.mem_iff_getElem.mp hj
  have hi':i<t.place.size:=by simpa using hi
  have e':t.place[i]=j:=by simpa using e
  exact⟨i,hi',e',by rw[<- e'];exact m6 h hi'⟩
 ·exact .inl ⟨hj,tf h hj⟩
def Lv (t:SetTable)(j:Nat):Prop:=j∈t.place.toList
inductive PrSpec (t:SetTable) (ha:Nat->Int) (h:Int) (p:Probe):Option Met->Prop
 |em (n:Nat) (e:¬ Lv t (it t.mask n p).j) (b:∀ k,k<n->∃ i,∃ hi:i<t.place.size,t.place[i]=(it t.mask k p).j/\ha i≠h):PrSpec t ha h p (some (.empty (it t.mask n p).j none))
 |ca (n i:Nat) (hi:i<t.place.size) (e:t.place[i]=(it t.mask n p).j) (q:ha i=h) (b:∀ k,k<n->∃ i,∃ hi:i<t.place.size,t.place[i]=(it t.mask k p).j/\ha i≠h) :
  PrSpec t ha h p (some (.candidate (it t.mask n p).j i (it t.mask (n+1) p)))
theorem qW {t:SetTable}(h:Tb t)(ha:Nat->Int)(x:Int):∀(fuel:Nat)(p:Probe),Va t.mask p->(∃ n,n<fuel/\¬ Lv t (it t.mask n p).j)->PrSpec t ha x p (probe.go t ha x fuel p)
 |0,p,v,⟨n,hn,_⟩=>by omega
 |f+1,p,v,⟨n,hn,he⟩=>by
  unfold probe.go
  rcases tj h p.j with⟨h1,e⟩|⟨i,hi,h1,e⟩
  ·rw[e]
   dsimp only
   have:=PrSpec.em (t:=t) (ha:=ha) (h:=x) (p:=p) 0 h1 fun k hk=>by omega
   rw[v.d]
   exact this
  ·rw[e]
   dsimp only
   by_cases hq:ha i=x
   ·rw[if_pos (by simpa using hq)]
    exact PrSpec.ca (t:=t) (ha:=ha) (h:=x) (p:=p) 0 i hi h1 hq fun k hk=>by omega
   ·rw[if_neg (by simpa using hq),sZ]
    have hn0:n≠0:=by
     rintro rfl
     exact he (by show p.j∈t.place.toList;rw[<- h1];simp)
    have ih:=qW h ha x f (adv t.mask p) v.adv ⟨n-1,by omega,by
     have:it t.mask (n-1) (adv t.mask p)=it t.mask n p:=by
      show _=it t.mask n p
      rw[show n=(n-1)+1 by omega];rfl
     rw[this];exact he⟩
    have shift:∀{nn:Nat},(∀ k,k<nn->∃ i,∃ hi:i<t.place.size,t.place[i]=(it t.mask k (adv t.mask p)).j/\ha i≠x)->∀ k,k<nn+1->∃ i,∃ hi:i<t.place.size,t.place[i]=(it t.mask k p).j/\ha i≠x:=by
     intro nn b k hk
     cases k with
     |zero=>exact⟨i,hi,h1,hq⟩
     |succ k=>exact b k (by omega)
    generalize probe.go t ha x f (adv t.mask p)=rr at ih
    cases ih with
    |em n' e' b=>exact PrSpec.em (t:=t) (ha:=ha) (h:=x) (p:=p) (n'+1) e' (shift b)
    |ca n' i' hi' e' q' b=>exact PrSpec.ca (t:=t) (ha:=ha) (h:=x) (p:=p) (n'+1) i' hi' e' q' (shift b)
theorem kN:∀(l1 l2:List Nat),l1.Nodup->(∀ x∈l1,x∈l2)->l1.length<=l2.length
 | [],_,_,_=>Nat.zero_le _
 |a::l1,l2,nd,hs=>by
  have ha:a∈l2:=hs a (List.mem_cons_self ..)
  have ih:=kN l1 (l2.erase a) (List.nodup_cons.mp nd).2 fun x hx=>by
   have:x≠a:=fun e=>(List.nodup_cons.mp nd).1 (e▸hx)
   exact(List.mem_erase_of_ne this).mpr (hs x (List.mem_cons_of_mem _ hx))
  rw[List.length_erase_of_mem ha]at ih
  have:0<l2.length:=List.length_pos_of_mem ha
  simp only[List.length_cons];omega
theorem kP {t:SetTable}(h:Tb t)(hs:t.place.size<=t.mask):∃ j,j<=t.mask/\¬ Lv t j:=by
 refine Classical.byContradiction fun hn=>?_
 have hall:∀ j,j<=t.mask->j∈t.place.toList:=fun j hj=>Classical.byContradiction fun z=>hn ⟨j,hj,z⟩
 have:=kN (List.range (t.mask+1)) t.place.toList List.nodup_range fun j hj=>hall j (by have:=List.mem_range.mp hj;omega)
 simp at this
 omega
theorem tm {t:SetTable}(h:Tb t)(hs:t.place.size<=t.mask)(ha:Nat->Int)(x:Int){p:Probe}(v:Va t.mask p):PrSpec t ha x p (t.probe ha x p):=by
 obtain⟨j,hj,hn⟩:=kP h hs
 obtain⟨n,h1,h2⟩:=CU h.msk hj v
 unfold probe
 exact qW h ha x _ p v ⟨n,h1,by rw[h2];exact hn⟩
end ST
namespace ST
open PySem PySem.SetTable
def Rea (m:Nat)(lv:Nat->Prop)(h:Int)(j:Nat):Prop:=∃ n,(it m n (st m h)).j=j/\∀ k,k<n->lv (it m k (st m h)).j
theorem Rea.mono {m:Nat}{lv lv':Nat->Prop}{h:Int}{j:Nat}(r:Rea m lv h j)(s:∀ j,lv j->lv' j):Rea m lv' h j:=let ⟨n,e,b⟩:=r;⟨n,e,fun k hk=>s _ (b k hk)⟩
structure Tbl {V:Type} (t:SetTable) (es:Array (Int×V)):Prop where
 tb:Tb t
 len:t.place.size=es.size
 rea:∀ q∈t.place.toList.zip es.toList,Rea t.mask (·∈ t.place.toList) q.2.1 q.1
def m7 (t:SetTable):Prop:=t.place.size*5<t.mask*3
theorem insertAt_toList {α:Type}(xs:Array α)(p:Nat)(x:α)(h:p<=xs.size):(insertAt xs p x).toList=xs.toList.take p++x::xs.toList.drop p:=by
 unfold insertAt
 simp[Array.toList_extract,List.extract_eq_drop_take,List.take_of_length_le]
theorem insertAt_size {α:Type}(xs:Array α)(p:Nat)(x:α)(h:p<=xs.size):(insertAt xs p x).size=xs.size+1:=by
 rw[<- Array.length_toList,insertAt_toList xs p x h]
 simp;omega
theorem oj {t:SetTable}(h:Tb t)(j:Nat):(t.put j).1={ t with place:=insertAt t.place (below t.place j) j }:=by
 unfold put
 dsimp only
 rw[h.dum]
 have:has #[] j=false:=m5 j
 rw[if_neg (by rw[this];simp),<- h.dum]
theorem vK (t:SetTable)(j:Nat):(t.put j).2=below t.place j:=rfl
theorem tp {α β:Type}(xs:List α)(ys:List β)(p:Nat)(x:α)(y:β)(h:xs.length=ys.length):(xs.take p++x::xs.drop p).zip (ys.take p++y::ys.drop p)=(xs.zip ys).take p++(x,y)::(xs.zip ys).drop p:=by
 rw[List.zip_append (by simp[h]),List.zip_cons_cons]
 simp[List.zip,List.take_zipWith,List.drop_zipWith]
theorem D8 {V:Type}{t:SetTable}{es:Array (Int×V)}(h:Tbl t es){j:Nat}(hj:j∉t.place.toList)(hjm:j<=t.mask){hh:Int}{v:V}(r:Rea t.mask (·∈ t.place.toList) hh j) :
 Tbl (t.put j).1 (insertAt es (t.put j).2 (hh,v))/\(t.put j).1.mask=t.mask/\(t.put j).1.place.size=t.place.size+1:=by
 obtain⟨a,b,c⟩:=dk j h.tb.ris
 rw[oj h.tb,vK]
 have ae:below t.place j<=es.size:=by rw[<- h.len];exact a
 have el:=insertAt_toList t.place _ j a
 have ee:=insertAt_toList es (below t.place j) (hh,v) ae
 have mem:∀ k,k∈(insertAt t.place (below t.place j) j).toList↔k=j\/k∈t.place.toList:=by
  intro k
  rw[el,List.mem_append,List.mem_cons]
  constructor
  ·rintro (z|rfl|z)
   ·exact .inr (List.mem_of_mem_take z)
   ·exact .inl rfl
   ·exact .inr (List.mem_of_mem_drop z)
  ·rintro (rfl|z)
   ·exact .inr (.inl rfl)
   ·rw[<- List.take_append_drop (below t.place j) t.place.toList,List.mem_append]at z
    exact z.elim .inl fun z=>.inr (.inr z)
 refine⟨⟨⟨h.tb.msk,h.tb.dum,?_,fun k hk=>?_⟩,?_,fun q hq=>?_⟩,rfl,insertAt_size _ _ _ a⟩
 ·show Ris (insertAt t.place (below t.place j) j).toList
  rw[el]
  unfold Ris
  rw[List.pairwise_append]
  refine⟨h.tb.ris.sublist (List.take_sublist _ _),?_,?_⟩
  ·rw[List.pairwise_cons]
   refine⟨fun k hk=>?_,h.tb.ris.sublist (List.drop_sublist _ _)⟩
   obtain⟨i,hi,e⟩:=List.mem_iff_getElem.mp hk
   rw[List.length_drop]at hi
   have hi2:below t.place j+i<t.place.size:=by simp at hi;omega
   have e2:t.place[below t.place j+i]=k:=by rw[<- e];simp
   have:=c _ hi2 (by omega)
   rw[e2]at this
   have:k≠j:=fun z=>hj (by rw[<- z,<- e2];simp)
   omega
  ·intro k hk l hl
   obtain⟨i,hi,e⟩:=List.mem_iff_getElem.mp hk
   rw[List.length_take]at hi
   have hi2:i<t.place.size:=by simp at hi;omega
   have e2:t.place[i]=k:=by rw[<- e];simp
   have l1:=b i hi2 (by omega)
   rw[e2]at l1
   rw[List.mem_cons]at hl
   rcases hl with rfl|hl
   ·exact l1
   ·obtain⟨i',hi',e'⟩:=List.mem_iff_getElem.mp hl
    rw[List.length_drop]at hi'
    have hi3:below t.place j+i'<t.place.size:=by simp at hi';omega
    have e3:t.place[below t.place j+i']=l:=by rw[<- e'];simp
    have:=c _ hi3 (by omega)
    rw[e3]at this
    omega
 ·rcases (mem k).mp hk with rfl|z
  ·exact hjm
  ·exact h.tb.le k z
 ·show(insertAt t.place (below t.place j) j).size=_
  rw[insertAt_size _ _ _ a,insertAt_size _ _ _ ae,h.len]
 ·have hq:q∈(insertAt t.place (below t.place j) j).toList.zip (insertAt es (below t.place j) (hh,v)).toList:=hq
  rw[el,ee,tp _ _ _ _ _ (by simpa using h.len)]at hq
  have sub:∀ k,k∈t.place.toList->k∈(insertAt t.place (below t.place j) j).toList:=fun k hk=>(mem k).mpr (.inr hk)
  rw[List.mem_append,List.mem_cons]at hq
  rcases hq with z|rfl|z
  ·exact(h.rea q (List.mem_of_mem_take z)).mono sub
  ·exact r.mono sub
  ·exact(h.rea q (List.mem_of_mem_drop z)).mono sub
def ow (owner:Array (Option Nat))(j:Nat):Prop:=∃ k,owner[j]?=some (some k)
theorem ol {m:Nat}(i q:Nat):∀ k,k<=runEnd m i-i->it m k (rs m (i,q))={ j:=i+k,more:=runEnd m i-i-k,i:=i,perturb:=q,dummy:=none }
 |0,_=>rfl
 |k+1,h=>by
  rw[Bz,ol i q k (by omega)]
  unfold adv
  rw[if_pos (by dsimp only;omega)]
  dsimp only
  congr 1
theorem m8 {m:Nat}{owner:Array (Option Nat)}(hs:owner.size=m+1):∀(fuel i q:Nat),i<=m->q<2 ^ 64->(∃ L,L<fuel/\¬ ow owner (lp m L (i,q)).1)->
 ∃ j,layClean.free m owner fuel i q=some j/\j<=m/\¬ ow owner j/\∃ n,(it m n (rs m (i,q))).j=j/\∀ k,k<n->ow owner (it m k (rs m (i,q))).j
 |0,i,q,_,_,⟨L,h,_⟩=>by omega
 |f+1,i,q,hi,hq,⟨L,hL,hn⟩=>by
  obtain⟨r1,r2⟩:=g7 m i hi
  have hre:runEnd m i+1-i=(runEnd m i-i)+1:=by
   have:i<=runEnd m i:=by unfold runEnd;split<;>omega
   omega
  have isn:∀ k,k<=runEnd m i-i->((owner.getD (i+k) (some 0)).isNone=true↔¬ ow owner (i+k)):=by
   intro k hk
   have hb:i+k<owner.size:=by omega
   have e:owner[i+k]?=some owner[i+k]:=by simp[hb]
   have e2:owner.getD (i+k) (some 0)=owner[i+k]:=by simp[Array.getD,hb]
   unfold ow
   rw[e2,e]
   cases owner[i+k]<;>simp
  unfold layClean.free
  cases hf:(List.range (runEnd m i+1-i)).find? fun k=>(owner.getD (i+k) (some 0)).isNone with
  |some k=>
   dsimp only
   rw[List.find?_range_eq_some]at hf
   obtain⟨h1,h2,h3⟩:=hf
   have h2:=List.mem_range.mp h2
   have hk:k<=runEnd m i-i:=by omega
   refine⟨i+k,rfl,by omega,(isn k hk).mp h1,k,by rw[ol i q k hk],fun k' hk'=>?_⟩
   rw[ol i q k' (by omega)]
   have:=h3 k' hk'
   refine Classical.byContradiction fun z=>?_
   rw[(isn k' (by omega)).mpr z]at this
   simp at this
  |none=>
   dsimp only
   rw[List.find?_range_eq_none]at hf
   have hrun:∀ k,k<=runEnd m i-i->ow owner (i+k):=by
    intro k hk
    refine Classical.byContradiction fun z=>?_
    have:=hf k (by omega)
    rw[(isn k hk).mpr z]at this
    simp at this
   have hL0:L≠0:=by
    rintro rfl
    exact hn (hrun 0 (Nat.zero_le _))
   have ih:=m8 hs f (leap m i q).1 (leap m i q).2 (og m i q) (by rw[s_];have:=Nat.div_le_self q 32;omega) ⟨L-1,by omega,by
    have:lp m L (i,q)=lp m (L-1) (leap m i q):=by rw[show L=(L-1)+1 by omega];rfl
    rw[this]at hn;exact hn⟩
   obtain⟨j,e,hj,hnj,n,en,hb⟩:=ih
   refine⟨j,e,hj,hnj,runEnd m i-i+1+n,?_,fun k hk=>?_⟩
   ·rw[cQ,ie (runEnd m i-i) (rs m (i,q)) rfl (Va.rs hi hq)]
    exact en
   ·by_cases hk2:k<=runEnd m i-i
    ·rw[ol i q k hk2];exact hrun k hk2
    ·have:it m k (rs m (i,q))=it m (k-(runEnd m i-i+1)) (rs m (leap m i q)):=by
      rw[show k=(runEnd m i-i+1)+(k-(runEnd m i-i+1)) by omega,cQ,ie (runEnd m i-i) (rs m (i,q)) rfl (Va.rs hi hq)]
      congr 1;omega
     rw[this]
     exact hb _ (by omega)
structure Own (m:Nat) (hs:List Int) (owner:Array (Option Nat)):Prop where
 size:owner.size=m+1
 all:∀ k:Nat,k<hs.length->∃ j:Nat,owner[j]?=some (some k)
 lt:∀ j k:Nat,owner[j]?=some (some k)->k<hs.length
 rea:∀(j k:Nat)(h:Int),owner[j]?=some (some k)->hs[k]?=some h->Rea m (ow owner) h j
 inj:∀ j j' k:Nat,owner[j]?=some (some k)->owner[j']?=some (some k)->j=j'
theorem Own.spare {m:Nat}{hs:List Int}{owner:Array (Option Nat)}(o:Own m hs owner)(hl:hs.length<=m):∃ j,j<=m/\¬ ow owner j:=by
 refine Classical.byContradiction fun hn=>?_
 have hall:∀ j,j<=m->ow owner j:=fun j hj=>Classical.byContradiction fun z=>hn ⟨j,hj,z⟩
 let g:Nat->Nat:=fun j=>((owner[j]?).getD none).getD 0
 have hg:∀ j,j<=m->owner[j]?=some (some (g j)):=fun j hj=>by
  obtain⟨k,hk⟩:=hall j hj
  show owner[j]?=some (some (((owner[j]?).getD none).getD 0))
  rw[hk];rfl
 have nd:((List.range (m+1)).map g).Nodup:=by
  unfold List.Nodup
  rw[List.pairwise_map]
  have:=List.nodup_range (n:=m+1)
  refine List.Pairwise.imp_of_mem (fun{a b} ha hb hab e=>hab ?_) this
  have ha:=List.mem_range.mp ha
  have hb:=List.mem_range.mp hb
  exact o.inj a b (g a) (hg a (by omega)) (by rw[e];exact hg b (by omega))
 have:=kN _ (List.range hs.length) nd fun x hx=>by
  obtain⟨j,hj,rfl⟩:=List.mem_map.mp hx
  have hj:=List.mem_range.mp hj
  exact List.mem_range.mpr (o.lt j _ (hg j (by omega)))
 simp at this
 omega
theorem yu {m:Nat}(hm:Msk m){hs:List Int}{owner:Array (Option Nat)}(o:Own m hs owner)(hl:hs.length<=m)(h:Int) :
 ∃ j,layClean.free m owner (turns m) (bits h % (m+1)) (bits h)=some j/\Own m (hs++[h]) (owner.setIfInBounds j (some hs.length)):=by
 obtain⟨j0,hj0,hn0⟩:=o.spare hl
 have hi:bits h % (m+1)<=m:=Nat.le_of_lt_succ (Nat.mod_lt _ (Nat.succ_pos m))
 obtain⟨L,l1,l2,el⟩:=qV hm hj0 (bits h % (m+1),bits h) hi (oe h)
 obtain⟨j,e,hj,hnj,n,en,hb⟩:=m8 o.size (turns m) _ _ hi (oe h) ⟨L,by unfold turns;omega,by rw[el];exact hn0⟩
 refine⟨j,e,?_⟩
 have hjb:j<owner.size:=by rw[o.size];omega
 have get:∀ i,(owner.setIfInBounds j (some hs.length))[i]?=if i=j then some (some hs.length) else owner[i]?:=by
  intro i
  rw[Array.getElem?_setIfInBounds]
  by_cases hij:j=i
  ·subst hij;rw[if_pos rfl,if_pos hjb,if_pos rfl]
  ·rw[if_neg hij,if_neg (fun z=>hij z.symm)]
 have sub:∀ i,ow owner i->ow (owner.setIfInBounds j (some hs.length)) i:=by
  rintro i ⟨k,hk⟩
  by_cases hij:i=j
  ·exact⟨_,by rw[get,if_pos hij]⟩
  ·exact⟨k,by rw[get,if_neg hij];exact hk⟩
 have inv:∀ i k,(owner.setIfInBounds j (some hs.length))[i]?=some (some k)->(i=j/\k=hs.length)\/(i≠j/\owner[i]?=some (some k)):=by
  intro i k hk
  rw[get]at hk
  by_cases hij:i=j
  ·rw[if_pos hij]at hk
   exact .inl ⟨hij,by simpa using hk.symm⟩
  ·rw[if_neg hij]at hk;exact .inr ⟨hij,hk⟩
 refine⟨by rw[Array.size_setIfInBounds,o.size],fun k hk=>?_,fun i k hk=>?_,fun i k h' hk hh=>?_,fun i i' k h1 h2=>?_⟩
 ·rw[List.length_append,List.length_singleton]at hk
  by_cases hkl:k=hs.length
  ·exact⟨j,by rw[get,if_pos rfl,hkl]⟩
  ·obtain⟨i,hi⟩:=o.all k (by omega)
   refine⟨i,?_⟩
   rw[get,if_neg]
   ·exact hi
   ·rintro rfl;exact hnj ⟨k,hi⟩
 ·rw[List.length_append,List.length_singleton]
  rcases inv i k hk with⟨_,rfl⟩|⟨_,z⟩
  ·omega
  ·have:=o.lt i k z;omega
 ·rcases inv i k hk with⟨rfl,rfl⟩|⟨hij,z⟩
  ·rw[List.getElem?_append_right (Nat.le_refl _),Nat.sub_self]at hh
   cases hh
   exact⟨n,en,fun k hk=>sub _ (hb k hk)⟩
  ·have hkl:=o.lt i k z
   rw[List.getElem?_append_left hkl]at hh
   exact(o.rea i k h' z hh).mono sub
 ·rcases inv i k h1 with⟨rfl,rfl⟩|⟨hij,z⟩<;>rcases inv i' _ h2 with⟨rfl,e'⟩|⟨hij',z'⟩
  ·rfl
  ·have:=o.lt _ _ z';omega
  ·have:=o.lt _ _ z;omega
  ·exact o.inj i i' k z z'
theorem yw {m:Nat}(hm:Msk m):∀(suf pre:List Int)(owner:Array (Option Nat)),Own m pre owner->pre.length+suf.length<=m->
 ∃ owner',suf.foldl (fun acc h=>do
  let (owner,k) <- acc
  let j <- layClean.free m owner (turns m) (bits h % (m+1)) (bits h)
  pure (owner.setIfInBounds j (some k),k+1)) (some (owner,pre.length))=some (owner',pre.length+suf.length)/\Own m (pre++suf) owner'
 | [],pre,owner,o,_=>⟨owner,rfl,by rw[List.append_nil];exact o⟩
 |h::suf,pre,owner,o,hl=>by
  simp only[List.length_cons]at hl
  obtain⟨j,e,o'⟩:=yu hm o (by omega) h
  obtain⟨owner',e2,o2⟩:=yw hm suf (pre++[h]) _ o' (by simp;omega)
  refine⟨owner',?_,by rw[List.append_assoc]at o2;exact o2⟩
  rw[List.foldl_cons]
  show List.foldl _ ((layClean.free m owner (turns m) (bits h % (m+1)) (bits h)).bind fun j=>some (owner.setIfInBounds j (some pre.length),pre.length+1)) suf=_
  rw[e]
  show List.foldl _ (some (owner.setIfInBounds j (some pre.length),pre.length+1)) suf=_
  rw[List.length_append,List.length_singleton]at e2
  rw[e2]
  simp only[List.length_cons]
  congr 2;omega
theorem D9 {m:Nat}(hm:Msk m)(hs:Array Int)(hl:hs.size<=m):∃ owner,layClean m hs=some owner/\Own m hs.toList owner:=by
 have o0:Own m [] (Array.replicate (m+1) none):=by
  have no:∀ j k:Nat,(Array.replicate (m+1) (none:Option Nat))[j]?=some (some k)->False:=by
   intro j k h
   rw[Array.getElem?_replicate]at h
   split at h<;>simp at h
  exact⟨by simp,fun k hk=>by simp at hk,fun j k h=>(no j k h).elim,fun j k _ h=>(no j k h).elim,fun j _ k h=>(no j k h).elim⟩
 obtain⟨owner,e,o⟩:=yw hm hs.toList [] _ o0 (by simpa using hl)
 refine⟨owner,?_,by simpa using o⟩
 unfold layClean
 rw[<- Array.foldl_toList]
 rw[List.length_nil]at e
 rw[e];rfl
end ST
namespace ST
open PySem PySem.SetTable
theorem yx {α:Type}(es:Array α):∀(l:List Nat),(∀ k∈l,k<es.size)->(l.filterMap (es[·]?)).length=l.length/\∀ i:Nat,(l.filterMap (es[·]?))[i]?=(l[i]?).bind (es[·]?)
 | [],_=>⟨rfl,fun i=>by simp⟩
 |k::l,h=>by
  have hk:k<es.size:=h k (List.mem_cons_self ..)
  have e:es[k]?=some es[k]:=by simp[hk]
  obtain⟨a,b⟩:=yx es l fun k hk=>h k (List.mem_cons_of_mem _ hk)
  rw[List.filterMap_cons_some e]
  refine⟨by simp[a],fun i=>?_⟩
  cases i with
  |zero=>simp[e]
  |succ i=>simpa using b i
theorem kQ (o:Nat->Option Nat):∀ l:List Nat,(l.filterMap fun j=>(o j).map (j,·)).map Prod.fst=l.filter fun j=>(o j).isSome
 | []=>rfl
 |j::l=>by
  rw[List.filterMap_cons,List.filter_cons]
  cases e:o j with
  |none=>simpa using kQ o l
  |some k=>simpa using kQ o l
theorem yy (owner:Array (Option Nat))(m:Nat)(hs:owner.size=m+1)(j k:Nat):(j,k)∈((List.range (m+1)).filterMap fun j=>(owner.getD j none).map (j,·))↔owner[j]?=some (some k):=by
 rw[List.mem_filterMap]
 constructor
 ·rintro⟨a,h1,h2⟩
  have h1:=List.mem_range.mp h1
  have hb:a<owner.size:=by omega
  have e:owner.getD a none=owner[a]:=by simp[Array.getD,hb]
  rw[e]at h2
  obtain⟨k',e1,e2⟩:=Option.map_eq_some_iff.mp h2
  cases e2
  rw[show owner[j]?=some owner[j] by simp[hb],e1]
 ·intro h
  obtain⟨hb,e⟩:=Array.getElem?_eq_some_iff.mp h
  refine⟨j,List.mem_range.mpr (by omega),?_⟩
  have e2:owner.getD j none=owner[j]:=by simp[Array.getD,hb]
  rw[e2,e];rfl
structure Laid {V:Type} (m:Nat) (es es':Array (Int×V)) (t':SetTable):Prop where
 tbl:Tbl t' es'
 mask:t'.mask=m
 size:es'.size=es.size
 mem:∀ x,x∈es'.toList↔x∈es.toList
 pw:∀ R:Int×V->Int×V->Prop,(∀ x y,R x y->R y x)->es.toList.Pairwise R->es'.toList.Pairwise R
theorem BA {V:Type}{m:Nat}(hm:Msk m)(es:Array (Int×V))(hl:es.size<=m)(finger moves:Nat)(led plain:Bool) :
 ∃ t' order,laid m finger moves led plain (es.map (·.1))=some (t',order)/\Laid m es (order.filterMap (es[·]?)) t'/\t'.led=led/\t'.plain=plain:=by
 obtain⟨owner,eo,o⟩:=D9 hm (es.map (·.1)) (by simpa using hl)
 have len:(es.map (·.1)).toList.length=es.size:=by simp
 let live:=(List.range (m+1)).filterMap fun j=>(owner.getD j none).map (j,·)
 have lm:∀ j k,(j,k)∈live↔owner[j]?=some (some k):=yy owner m o.size
 have ris:Ris (live.map Prod.fst):=by
  show Ris (((List.range (m+1)).filterMap fun j=>(owner.getD j none).map (j,·)).map Prod.fst)
  rw[kQ]
  exact List.pairwise_lt_range.sublist (List.filter_sublist)
 have ndS:(live.map Prod.snd).Nodup:=by
  unfold List.Nodup
  unfold Ris at ris
  rw[List.pairwise_map]at ris ⊢
  refine List.Pairwise.imp_of_mem (fun{a b} ha hb hab e=>?_) ris
  have h1:=(lm a.1 a.2).mp ha
  have h2:=(lm b.1 b.2).mp hb
  rw[<- e]at h2
  have:=o.inj _ _ _ h1 h2
  omega
 have lt:∀ k∈live.map Prod.snd,k<es.size:=by
  intro k hk
  obtain⟨p,hp,rfl⟩:=List.mem_map.mp hk
  have:=o.lt p.1 p.2 ((lm p.1 p.2).mp hp)
  rwa [len]at this
 have all:∀ k,k<es.size->k∈live.map Prod.snd:=by
  intro k hk
  obtain⟨j,hj⟩:=o.all k (by rw[len];exact hk)
  exact List.mem_map.mpr ⟨(j,k),(lm j k).mpr hj,rfl⟩
 have ll:live.length=es.size:=by
  have a:=kN _ (List.range es.size) ndS fun k hk=>List.mem_range.mpr (lt k hk)
  have b:=kN (List.range es.size) (live.map Prod.snd) List.nodup_range fun k hk=>all k (List.mem_range.mp hk)
  simp at a b
  omega
 obtain⟨f1,f2⟩:=yx es (live.map Prod.snd) lt
 refine⟨{ mask:=m,place:=(live.map (·.1)).toArray,dummies:=#[],finger,led,moves,plain },(live.map (·.2)).toArray,?_,?_,rfl,rfl⟩
 ·unfold laid
  rw[eo]
  rfl
 ·have el:((live.map (·.2)).toArray.filterMap (es[·]?)).toList=(live.map Prod.snd).filterMap (es[·]?):=by simp
  have es':((live.map (·.2)).toArray.filterMap (es[·]?)).size=es.size:=by
   rw[<- Array.length_toList,el,f1,List.length_map,ll]
  refine⟨⟨⟨hm,rfl,by simpa using ris,fun j hj=>?_⟩,?_,fun q hq=>?_⟩,rfl,es',fun x=>?_,fun R sy pw=>?_⟩
  ·have hj:j∈live.map Prod.fst:=by simpa using hj
   obtain⟨p,hp,rfl⟩:=List.mem_map.mp hj
   obtain⟨hb,_⟩:=Array.getElem?_eq_some_iff.mp ((lm p.1 p.2).mp hp)
   show p.1<=m
   have:=o.size
   omega
  ·rw[es'];simpa using ll
  ·have hq:q∈(live.map Prod.fst).zip ((live.map Prod.snd).filterMap (es[·]?)):=by rw[el]at hq;simpa using hq
   obtain⟨i,hi⟩:=List.mem_iff_getElem?.mp hq
   rw[List.getElem?_zip_eq_some,f2]at hi
   obtain⟨h1,h2⟩:=hi
   rw[List.getElem?_map]at h1 h2
   obtain⟨p,hp,e1⟩:=Option.map_eq_some_iff.mp h1
   rw[hp]at h2
   have h2:es[p.2]?=some q.2:=h2
   have ho:=(lm p.1 p.2).mp (List.mem_iff_getElem?.mpr ⟨i,hp⟩)
   have hh:(es.map (·.1)).toList[p.2]?=some q.2.1:=by
    rw[Array.getElem?_toList,Array.getElem?_map,h2];rfl
   rw[<- e1]
   refine(o.rea p.1 p.2 q.2.1 ho hh).mono fun j ⟨k,hk⟩=>?_
   show j∈(live.map (·.1)).toArray.toList
   simpa using ⟨k,(lm j k).mpr hk⟩
  ·rw[el]
   constructor
   ·intro hx
    obtain⟨k,_,h2⟩:=List.mem_filterMap.mp hx
    exact List.mem_iff_getElem?.mpr ⟨k,by rw[Array.getElem?_toList];exact h2⟩
   ·intro hx
    obtain⟨k,hk⟩:=List.mem_iff_getElem?.mp hx
    have hb:k<es.size:=by have:=(List.getElem?_eq_some_iff.mp hk).1;simpa using this
    exact List.mem_filterMap.mpr ⟨k,all k hb,by rw[Array.getElem?_toList]at hk;exact hk⟩
  ·rw[el]
   rw[List.pairwise_iff_getElem]
   intro a b ha hb hab
   have ea:=f2 a
   have eb:=f2 b
   rw[List.getElem?_eq_getElem ha]at ea
   rw[List.getElem?_eq_getElem hb]at eb
   rw[f1]at ha hb
   rw[List.getElem?_eq_getElem ha]at ea
   rw[List.getElem?_eq_getElem hb]at eb
   have hne:(live.map Prod.snd)[a]≠(live.map Prod.snd)[b]:=List.pairwise_iff_getElem.mp ndS a b ha hb hab
   have ea:es[(live.map Prod.snd)[a]]?=some _:=ea.symm
   have eb:es[(live.map Prod.snd)[b]]?=some _:=eb.symm
   obtain⟨ka,va⟩:=Array.getElem?_eq_some_iff.mp ea
   obtain⟨kb,vb⟩:=Array.getElem?_eq_some_iff.mp eb
   have P:=List.pairwise_iff_getElem.mp pw
   rw[<- va,<- vb]
   rcases Nat.lt_or_gt_of_ne hne with z|z
   ·simpa using P _ _ (by simpa using ka) (by simpa using kb) z
   ·refine sy _ _ ?_
    simpa using P _ _ (by simpa using kb) (by simpa using ka) z
end ST
namespace ST
open PySem PySem.W PyProof.Rows
structure Lt (N:Nat) (lt:Nat->Nat->Bool):Prop where
 irr:∀ i,lt i i=false
 tr:∀ i j k,lt i j=true->lt j k=true->lt i k=true
 tot:∀ i j,i<N->j<N->i≠j->lt i j=true\/lt j i=true
abbrev HG:=Nat->Nat->(Bool->Shared->Prop)->Shared->Prop
def CV (N:Nat)(lt:Nat->Nat->Bool)(cmp:HG)(s:Shared):Prop:=∀ i j C,i<N->j<N->C (lt i j) s->cmp i j C s
def Pm (N:Nat)(p:Array Nat):Prop:=p.toList.Perm (List.range N)
def bK (p:Array Nat)(i:Nat):Nat:=p.getD i 0
section
variable {N:Nat}{lt:Nat->Nat->Bool}{cmp:HG}{s:Shared}{p:Array Nat}
theorem Pm.size (h:Pm N p):p.size=N:=by have:=h.length_eq;simpa using this
theorem Pm.perm {p':Array Nat}(h:Pm N p)(q:p'.Perm p):Pm N p':=(Array.perm_iff_toList_perm.mp q).trans h
theorem D_ {i:Nat}(hi:i<p.size):p[i]?=some (bK p i):=by unfold bK;simp[Array.getD,hi]
theorem qX {p':Array Nat}{i k:Nat}(h:p'[i]?=p[k]?):bK p' i=bK p k:=by
 unfold bK
 rw[Array.getD_eq_getD_getElem?,Array.getD_eq_getD_getElem?,h]
theorem Pm.bd (h:Pm N p){i:Nat}(hi:i<N):bK p i<N:=by
 have hi':i<p.size:=by rw[h.size];exact hi
 have:bK p i∈p.toList:=List.mem_iff_getElem?.mpr ⟨i,by rw[Array.getElem?_toList];exact D_ hi'⟩
 exact List.mem_range.mp (h.mem_iff.mp this)
theorem Pm.ne (h:Pm N p){i j:Nat}(hi:i<N)(hj:j<N)(e:i≠j):bK p i≠bK p j:=by
 have nd:p.toList.Nodup:=h.nodup_iff.mpr List.nodup_range
 have hi':i<p.size:=by rw[h.size];exact hi
 have hj':j<p.size:=by rw[h.size];exact hj
 have gi:p.toList[i]'(by simpa using hi')=bK p i:=by simp[bK,Array.getD,hi']
 have gj:p.toList[j]'(by simpa using hj')=bK p j:=by simp[bK,Array.getD,hj']
 intro z
 rcases Nat.lt_or_gt_of_ne e with q|q
 ·exact List.pairwise_iff_getElem.mp nd i j (by simpa using hi') (by simpa using hj') q (by rw[gi,gj];exact z)
 ·exact List.pairwise_iff_getElem.mp nd j i (by simpa using hj') (by simpa using hi') q (by rw[gi,gj];exact z.symm)
def So (lt:Nat->Nat->Bool)(p:Array Nat)(k:Nat):Prop:=∀ a b,a<b->b<k->lt (bK p a) (bK p b)=true
def De (lt:Nat->Nat->Bool)(p:Array Nat)(k:Nat):Prop:=∀ a b,a<b->b<k->lt (bK p b) (bK p a)=true
theorem Lt.of_not (o:Lt N lt){i j:Nat}(hi:i<N)(hj:j<N)(e:i≠j)(h:lt i j=false):lt j i=true:=by
 rcases o.tot i j hi hj e with z|z
 ·rw[h]at z;cases z
 ·exact z
theorem So.snoc (o:Lt N lt){k:Nat}(h:So lt p k)(hk:1<=k)(l:lt (bK p (k-1)) (bK p k)=true):So lt p (k+1):=by
 intro a b hab hb
 by_cases e:b=k
 ·subst e
  by_cases e2:a=b-1
  ·rw[e2];exact l
  ·exact o.tr _ _ _ (h a (b-1) (by omega) (by omega)) l
 ·exact h a b hab (by omega)
theorem De.snoc (o:Lt N lt){k:Nat}(h:De lt p k)(hk:1<=k)(l:lt (bK p k) (bK p (k-1))=true):De lt p (k+1):=by
 intro a b hab hb
 by_cases e:b=k
 ·subst e
  by_cases e2:a=b-1
  ·rw[e2];exact l
  ·exact o.tr _ _ _ l (h a (b-1) (by omega) (by omega))
 ·exact h a b hab (by omega)
theorem tq (o:Lt N lt)(an:CV N lt cmp s)(pm:Pm N p):∀(f n:Nat){Q:Nat->Shared->Prop},1<=n->n+f=N->So lt p n->
 (∀ m,n<=m->m<=N->So lt p m->(m<N->lt (bK p m) (bK p (m-1))=true)->Q m s)->(kas_asc p f n).kasWp cmp Q s
 |0,n,Q,h1,h2,h3,k=>k n (Nat.le_refl _) (by omega) h3 fun z=>by omega
 |f+1,n,Q,h1,h2,h3,k=>by
  refine an _ _ _ (pm.bd (by omega)) (pm.bd (by omega)) ?_
  show KasT.kasWp cmp (if lt (bK p n) (bK p (n-1))=true then .ret n else kas_asc p f (n+1)) Q s
  by_cases c:lt (bK p n) (bK p (n-1))=true
  ·rw[if_pos c]
   exact k n (Nat.le_refl _) (by omega) h3 fun _=>c
  ·rw[if_neg c]
   have c:lt (bK p n) (bK p (n-1))=false:=by simpa using c
   exact tq o an pm f (n+1) (by omega) (by omega) (h3.snoc o h1 (o.of_not (pm.bd (by omega)) (pm.bd (by omega)) (pm.ne (by omega) (by omega) (by omega)) c)) fun m a b c d=>k m (by omega) b c d
theorem vL (o:Lt N lt)(an:CV N lt cmp s)(pm:Pm N p):∀(f n:Nat){Q:Array Nat×Nat×Nat->Shared->Prop},1<=n->n+f=N->De lt p n->
 (∀ m,n<=m->m<=N->De lt p m->Q (p,m,0) s)->(kas_desc f p n 0).kasWp cmp Q s
 |0,n,Q,h1,h2,h3,k=>k n (Nat.le_refl _) (by omega) h3
 |f+1,n,Q,h1,h2,h3,k=>by
  refine an _ _ _ (pm.bd (by omega)) (pm.bd (by omega)) ?_
  show KasT.kasWp cmp (if lt (bK p n) (bK p (n-1))=true then (if 0>0 then kas_desc f (kas_rev p (n-(0+1)) n) (n+1) 0 else kas_desc f p (n+1) 0)
   else .ask (bK p (n-1)) (bK p n) fun d=>if d=true then .ret (p,n,0) else kas_desc f p (n+1) (0+1)) Q s
  by_cases c:lt (bK p n) (bK p (n-1))=true
  ·rw[if_pos c,if_neg (by omega)]
   exact vL o an pm f (n+1) (by omega) (by omega) (h3.snoc o h1 c) fun m a b c=>k m (by omega) b c
  ·rw[if_neg c]
   have c:lt (bK p n) (bK p (n-1))=false:=by simpa using c
   refine an _ _ _ (pm.bd (by omega)) (pm.bd (by omega)) ?_
   rw[o.of_not (pm.bd (by omega)) (pm.bd (by omega)) (pm.ne (by omega) (by omega) (by omega)) c]
   show KasT.kasWp cmp (if true=true then _ else _) Q s
   rw[if_pos rfl]
   exact k n (Nat.le_refl _) (by omega) h3
theorem yz (n:Nat)(hn:n<=p.size)(k:Nat):bK (kas_rev p 0 n) k=if k<n then bK p (n-1-k) else bK p k:=by
 have e:=getElem?_mirror_all (xs:=p) (i:=0) hn k
 unfold kas_rev
 by_cases h:k<n
 ·rw[if_pos h]
  rw[if_pos ⟨Nat.zero_le _,h⟩,Nat.zero_add]at e
  exact qX e
 ·rw[if_neg h]
  rw[if_neg (by omega)]at e
  exact qX e
theorem yA (o:Lt N lt)(an:CV N lt cmp s)(pm:Pm N p){n:Nat}{Q:Nat×Array Nat->Shared->Prop}(h1:1<=n)(hn:n<=N)(hd:De lt p n)
 (k:∀ m p',1<=m->m<=N->Pm N p'->So lt p' m->Q (m,p') s):(kas_tail3 n N p).kasWp cmp Q s:=by
 unfold kas_tail3
 rw[KasT.kasWp_bind]
 have pm':Pm N (kas_rev p 0 n):=pm.perm (mirror_perm _ _ _ _)
 refine tq o an pm' (N-n) n h1 (by omega) ?_ fun m a b c _=>k m _ (by omega) b pm' c
 intro a b hab hb
 rw[yz n (by rw[pm.size];exact hn),yz n (by rw[pm.size];exact hn),if_pos (by omega),if_pos hb]
 exact hd _ _ (by omega) (by omega)
theorem yB (o:Lt N lt)(an:CV N lt cmp s)(pm:Pm N p){Q:Nat×Array Nat->Shared->Prop}(h2:2<=N)
 (k:∀ m p',1<=m->m<=N->Pm N p'->So lt p' m->Q (m,p') s):(kas_count N p).kasWp cmp Q s:=by
 unfold kas_count
 rw[KasT.kasWp_bind]
 refine tq o an pm (N-1) 1 (Nat.le_refl _) (by omega) (fun a b hab hb=>by omega) fun m a b c d=>?_
 by_cases e:m=N
 ·rw[if_pos (by simpa using e)]
  exact k m p a b pm c
 ·rw[if_neg (by simpa using e)]
  by_cases hm:m>1
  ·rw[if_pos hm]
   refine an _ _ _ (pm.bd (by omega)) (pm.bd (by omega)) ?_
   have:lt (bK p 0) (bK p (m-1))=true:=c 0 (m-1) (by omega) (by omega)
   show KasT.kasWp cmp (if lt (bK p 0) (bK p (m-1))=true then _ else _) Q s
   rw[if_pos this]
   exact k m p a b pm c
  ·rw[if_neg hm]
   have hm1:m=1:=by omega
   subst hm1
   unfold kas_descPart
   rw[KasT.kasWp_bind]
   have l:=d (by omega)
   refine vL o an pm (N-(1+1)) (1+1) (by omega) (by omega) (fun a b hab hb=>?_) fun m' a' b' c'=>?_
   ·have:a=0:=by omega
    have:b=1:=by omega
    subst_vars
    exact l
   ·show KasT.kasWp cmp (if 0>0 then _ else kas_tail3 m' N p) Q s
    rw[if_neg (by omega)]
    exact yA o an pm (by omega) b' c' k
theorem kT (o:Lt N lt)(an:CV N lt cmp s)(pm:Pm N p){i:Nat}(hi:i<N)(so:So lt p i):∀(f l r:Nat){Q:Nat->Shared->Prop},l<=r->r<=i->r-l<=f->
 (∀ a,a<l->lt (bK p a) (bK p i)=true)->(∀ a,r<=a->a<i->lt (bK p i) (bK p a)=true)->
 (∀ m,m<=i->(∀ a,a<m->lt (bK p a) (bK p i)=true)->(∀ a,m<=a->a<i->lt (bK p i) (bK p a)=true)->Q m s)->(kas_place p i f l r).kasWp cmp Q s
 |0,l,r,Q,h1,h2,h3,h4,h5,k=>k l (by omega) h4 fun a x y=>h5 a (by omega) y
 |f+1,l,r,Q,h1,h2,h3,h4,h5,k=>by
  unfold kas_place
  by_cases c:l>=r
  ·rw[if_pos c]
   exact k l (by omega) h4 fun a x y=>h5 a (by omega) y
  ·rw[if_neg c]
   refine an _ _ _ (pm.bd hi) (pm.bd (by omega)) ?_
   show KasT.kasWp cmp (if lt (bK p i) (bK p ((l+r) / 2))=true then _ else _) Q s
   by_cases q:lt (bK p i) (bK p ((l+r) / 2))=true
   ·rw[if_pos q]
    refine kT o an pm hi so f l ((l+r) / 2) (by omega) (by omega) (by omega) h4 (fun a x y=>?_) k
    by_cases e:a=(l+r) / 2
    ·rw[e];exact q
    ·exact o.tr _ _ _ q (so _ _ (by omega) y)
   ·rw[if_neg q]
    have q:lt (bK p i) (bK p ((l+r) / 2))=false:=by simpa using q
    have q:=o.of_not (pm.bd hi) (pm.bd (by omega)) (pm.ne hi (by omega) (by omega)) q
    refine kT o an pm hi so f _ r (by omega) h2 (by omega) (fun a x=>?_) h5 k
    by_cases e:a=(l+r) / 2
    ·rw[e];exact q
    ·exact o.tr _ _ _ (so _ _ (by omega) (by omega)) q
theorem yC {i l:Nat}(hi:i<p.size)(hl:l<=i)(k:Nat):bK (bubble p i (i-l)) k=if k=l then bK p i else if l<k/\k<=i then bK p (k-1) else bK p k:=by
 have e:=getElem?_bubble hi (i-l) (by omega) k
 rw[show i-(i-l)=l by omega]at e
 by_cases h1:k=l
 ·rw[if_pos h1]at e ⊢;exact qX e
 ·rw[if_neg h1]at e ⊢
  by_cases h2:l<k/\k<=i
  ·rw[if_pos h2]at e ⊢;exact qX e
  ·rw[if_neg h2]at e ⊢;exact qX e
theorem yD (o:Lt N lt)(an:CV N lt cmp s):∀(f i:Nat)(p:Array Nat){Q:Array Nat->Shared->Prop},Pm N p->i+f=N->So lt p i->
 (∀ p',Pm N p'->So lt p' N->Q p' s)->(kas_bin f p i).kasWp cmp Q s
 |0,i,p,Q,pm,h,so,k=>k p pm (by rw[<- h];exact so)
 |f+1,i,p,Q,pm,h,so,k=>by
  unfold kas_bin
  rw[KasT.kasWp_bind]
  refine kT o an pm (by omega) so i 0 i (by omega) (Nat.le_refl _) (by omega) (fun a x=>by omega) (fun a x y=>by omega) fun m hm lo hi=>?_
  refine yD o an f (i+1) _ (pm.perm (bubble_perm _ _ _)) (by omega) (fun a b hab hb=>?_) k
  have hs:i<p.size:=by rw[pm.size];omega
  rw[yC hs hm,yC hs hm]
  repeat' split
  all_goals first|omega|(exact hi _ (by omega) (by omega))|(exact lo _ (by omega))|(exact so _ _ (by omega) (by omega))
theorem BB (o:Lt N lt)(an:CV N lt cmp s)(h2:2<=N){Q:Array Nat->Shared->Prop}(k:∀ p,Pm N p->So lt p N->Q p s):(kas_sort N).kasWp cmp Q s:=by
 unfold kas_sort
 rw[KasT.kasWp_bind]
 have pm:Pm N (List.toArray (List.range N)):=by unfold Pm;simp
 refine yB o an pm h2 fun m p' a b c d=>?_
 show KasT.kasWp cmp (if m<N then kas_bin (N-max m 1) p' (max m 1) else .ret p') Q s
 by_cases e:m<N
 ·rw[if_pos e]
  have:max m 1=m:=by omega
  rw[this]
  exact yD o an (N-m) m p' c (by omega) d k
 ·rw[if_neg e]
  have:m=N:=by omega
  subst this
  exact k p' c d
end
end ST
namespace L2
open PySem PySem.Spec PySem.Calls PyProof.Rows ST
abbrev iK (ns:List Int):List Key:=ns.map Sum.inl
section
variable {prog:Program}{w:World}{A:Around}{E:Value->Shared->Prop}{s:Shared}
theorem j7 {i:Int}{v:Value}(h:(ao prog w).is (.inl i) v=true):∃ t,v=.int i t:=by
 rcases aT (show jB (.inl i) v=true from h) with⟨j,t,e,rfl⟩|⟨x,t,e,_⟩
 ·cases e;exact⟨t,rfl⟩
 ·cases e
theorem items_int:∀{ns:List Int}{vs:List Value},ItemsAre (ao prog w) (iK ns) vs->∀ v∈vs,∃ i t,v=.int i t
 | [],_,h,v,hv=>by cases h;simp at hv
 |n::ns,_,h,v,hv=>by
  cases h with
  |cons h1 h2=>
   rcases List.mem_cons.mp hv with rfl|hv
   ·obtain⟨t,rfl⟩:=j7 h1;exact⟨n,t,rfl⟩
   ·exact items_int h2 v hv
theorem Ea {ns:List Int}{b:Addr}{Q:Bool->Shared->Prop}(hk:(tK prog w).is s.heap (iK ns) b)(h:Q true s):wpAny (model prog w) A (hashByValue 8 (.ref b)) Q E s:=by
 have hT:=IsTupleKey.typeIs hk
 obtain⟨o,items,n,ho,_,hd,hi⟩:=hk
 unfold hashByValue
 refine wpAny_bind (wpAny_specialOf hT PySem.F.slot_tuple_hash.lookup ?_)
 dsimp only
 refine wpAny_bind (wpAny_seqItems ho hd ?_)
 refine wpAny_bind ?_
 show wpAny _ _ (forIn items _ _) _ _ s
 rw[<- Array.forIn_toList]
 refine wpAny_forIn_list _ (fun aQ r s'=>r.1=none/\s'=s/\∀ v∈aQ,∃ i t,v=Value.int i t) _ ?_ ?_ _ _ ⟨rfl,rfl,items_int hi⟩
 ·rintro v aQ r s' ⟨hr,rfl,hall⟩
  obtain⟨i,t,rfl⟩:=hall v List.mem_cons_self
  refine wpAny_bind (wpAny_pure ?_)
  simp only[Bool.not_true,Bool.false_eq_true,if_false]
  exact wpAny_pure ⟨rfl,rfl,fun u hu'=>hall u (List.mem_cons_of_mem _ hu')⟩
 ·rintro⟨r1,r2⟩ s' ⟨hr,rfl,_⟩
  simp only at hr
  subst hr
  exact wpAny_pure h
theorem qY {ns:List Int}{b:Addr}{Q:Bool->Shared->Prop}(hk:(tK prog w).is s.heap (iK ns) b)(h:Q false s):wpAny (model prog w) A (ofAClassStatement 8 (.ref b)) Q E s:=by
 have hT:=IsTupleKey.typeIs hk
 obtain⟨o,items,n,ho,_,hd,hi⟩:=hk
 unfold ofAClassStatement
 refine wpAny_bind (wpAny_typeOf hT ?_)
 dsimp only
 rw[if_pos (by decide)]
 refine wpAny_bind (wpAny_pure ?_)
 simp only[Bool.not_true,Bool.false_eq_true,if_false]
 refine wpAny_bind (wpAny_seqItems ho hd ?_)
 refine wpAny_bind ?_
 show wpAny _ _ (forIn items _ _) _ _ s
 rw[<- Array.forIn_toList]
 refine wpAny_forIn_list _ (fun aQ r s'=>r.1=none/\s'=s/\∀ v∈aQ,∃ i t,v=Value.int i t) _ ?_ ?_ _ _ ⟨rfl,rfl,items_int hi⟩
 ·rintro v aQ r s' ⟨hr,rfl,hall⟩
  obtain⟨i,t,rfl⟩:=hall v List.mem_cons_self
  refine wpAny_bind (wpAny_pure ?_)
  simp only[Bool.false_eq_true,if_false]
  exact wpAny_pure ⟨rfl,rfl,fun u hu'=>hall u (List.mem_cons_of_mem _ hu')⟩
 ·rintro⟨r1,r2⟩ s' ⟨hr,rfl,_⟩
  simp only at hr
  subst hr
  exact wpAny_pure h
theorem Eb {ns:List Int}{b:Addr}{ys:List Value}{Q:Bool->Shared->Prop}(hk:(tK prog w).is s.heap (iK ns) b)(hy:∀ y∈ys,∃ ms c,y=.ref c/\(tK prog w).is s.heap (iK ms) c)(h:Q false s):wpAny (model prog w) A (searchCouldBeSeen (.ref b) ys) Q E s:=by
 unfold searchCouldBeSeen
 refine wpAny_bind ?_
 refine wpAny_forIn_list _ (fun aQ r s'=>r.1=none/\s'=s/\∀ y∈aQ,∃ ms c,y=.ref c/\(tK prog w).is s.heap (iK ms) c) _ ?_ ?_ _ _ ⟨rfl,rfl,hy⟩
 ·rintro v aQ r s' ⟨hr,rfl,hall⟩
  obtain⟨ms,c,rfl,hc⟩:=hall v List.mem_cons_self
  have fin:∀ u∈aQ,∃ ms c,u=Value.ref c/\(tK prog w).is s'.heap (iK ms) c:=fun u hu'=>hall u (List.mem_cons_of_mem _ hu')
  dsimp only
  split
  ·exact wpAny_pure ⟨rfl,rfl,fin⟩
  ·refine wpAny_bind ((tK prog w).quiet hk ?_)
   simp only[Bool.not_true,Bool.false_eq_true,if_false]
   refine wpAny_bind ((tK prog w).quiet hc ?_)
   simp only[Bool.not_true,Bool.false_eq_true,if_false]
   refine wpAny_bind (qY hk ?_)
   simp only[Bool.false_eq_true,if_false]
   refine wpAny_bind (qY hc ?_)
   simp only[Bool.false_eq_true,if_false]
   exact wpAny_pure ⟨rfl,rfl,fin⟩
 ·rintro⟨r1,r2⟩ s' ⟨hr,rfl,_⟩
  simp only at hr
  subst hr
  exact wpAny_pure h
end
end L2
namespace L2
open PySem PySem.Spec PySem.Calls PyProof.Rows ST
section
variable {prog:Program}{w:World}{A:Around}{E:Value->Shared->Prop}{s:Shared}
def Hg (prog:Program)(w:World)(h:Heap)(es:Array (Int×Value)):Prop:=∀ e∈es.toList,∃ ms c,e=((tK prog w).hash (iK ms),Value.ref c)/\(tK prog w).is h (iK ms) c
theorem BC {m:Nat}(h:Msk m):(m % 2==0)=false:=by rcases h with rfl|rfl|rfl<;>rfl
theorem Tbl.fits {t:SetTable}{es:Array (Int×Value)}(T:Tbl t es)(hs:t.place.size<=t.mask):t.fits es.size=true:=by
 unfold SetTable.fits SetTable.fill
 rw[T.tb.dum]
 simp[T.len]at hs ⊢
 exact hs
theorem tu {α:Type}{es:Array α}{i:Nat}{e:α}(h:es[i]?=some e):e∈es.toList:=List.mem_iff_getElem?.mpr ⟨i,by rw[Array.getElem?_toList];exact h⟩
theorem m9 {a b:Addr}{o:Obj}{es:Array (Int×Value)}{ep:Nat}{t:SetTable}{ns:List Int}{Q:SetFound->Shared->Prop}(ho:s.heap.get? a=some o)(hd:o.data=.set es ep t)(T:Tbl t es)(hs:t.place.size<=t.mask)
 (hu:A.units<cLine) (hk:(tK prog w).is s.heap (iK ns) b) (el:Hg prog w s.heap es)
 (h1:(∃ e∈es.toList,∃ c,e.2=.ref c/\(tK prog w).is s.heap (iK ns) c)->Q (.there none) s)
 (h2:(∀ e∈es.toList,∀ c,e.2=.ref c->¬ (tK prog w).is s.heap (iK ns) c)->∀ j,j∉t.place.toList->j<=t.mask->Rea t.mask (·∈ t.place.toList) ((tK prog w).hash (iK ns)) j->Q (.free j false) s) :
 ∀(fuel n:Nat)(stand:Option SetTable.Probe),stand.getD (t.probeStart ((tK prog w).hash (iK ns)))=it t.mask n (st t.mask ((tK prog w).hash (iK ns)))->
  (∀ k,k<n->∃ i e,∃ hi:i<t.place.size,t.place[i]=(it t.mask k (st t.mask ((tK prog w).hash (iK ns)))).j/\es[i]?=some e/\∀ c,e.2=.ref c->¬ (tK prog w).is s.heap (iK ns) c)->
  (∃ N,n<=N/\N<n+fuel/\(it t.mask N (st t.mask ((tK prog w).hash (iK ns)))).j∉t.place.toList)->
  wpAny (model prog w) A (setSearchFrom a (.ref b) ((tK prog w).hash (iK ns)) true fuel stand) Q E s
 |0,n,stand,_,_,⟨N,x1,x2,_⟩=>by omega
 |fuel+1,n,stand,e1,e2,⟨N,x1,x2,x3⟩=>by
  have v0:Va t.mask (it t.mask n (st t.mask ((tK prog w).hash (iK ns)))):=(Va.st _ _).it
  have sp:=tm T.tb hs (fun i=>(es[i]?.map (·.1)).getD 0) ((tK prog w).hash (iK ns)) v0
  have at_:∀ i,i<t.place.size->∃ e,es[i]?=some e:=fun i hi=>⟨es[i]'(by rw[<- T.len];exact hi),by simp[T.len▸hi]⟩
  unfold setSearchFrom
  refine wpAny_bind (wpAny_setState_of ho hd (Tbl.fits T hs) ?_)
  dsimp only
  have hg:t.gaveWay=false:=BC T.tb.msk
  rw[hg]
  simp only[Bool.false_eq_true,if_false]
  rw[e1]
  have pre:∀{nn:Nat},(∀ k,k<nn->∃ i,∃ hi:i<t.place.size,t.place[i]=(it t.mask k (it t.mask n (st t.mask ((tK prog w).hash (iK ns))))).j/\(es[i]?.map (·.1)).getD 0≠(tK prog w).hash (iK ns))->
   ∀ k,k<n+nn->∃ i e,∃ hi:i<t.place.size,t.place[i]=(it t.mask k (st t.mask ((tK prog w).hash (iK ns)))).j/\es[i]?=some e/\∀ c,e.2=.ref c->¬ (tK prog w).is s.heap (iK ns) c:=by
   intro nn hb k hk'
   by_cases hkn:k<n
   ·exact e2 k hkn
   ·obtain⟨i,hi,q1,q2⟩:=hb (k-n) (by omega)
    obtain⟨e,he⟩:=at_ i hi
    refine⟨i,e,hi,?_,he,fun c hc his=>q2 ?_⟩
    ·rw[q1,<- cQ,show n+(k-n)=k by omega]
    ·obtain⟨ms,c',rfl,his'⟩:=el e (tu he)
     have hc':c'=c:=by injection hc
     subst hc'
     rw[he]
     show(tK prog w).hash (iK ms)=_
     rw[(tK prog w).inj his' his]
  generalize hq0:t.probe _ _ (it t.mask n (st t.mask ((tK prog w).hash (iK ns))))=pr
  have hpr:t.probe (fun i=>(es[i]?.map (·.1)).getD 0) ((tK prog w).hash (iK ns)) (it t.mask n (st t.mask ((tK prog w).hash (iK ns))))=pr:=hq0
  rw[hpr]at sp
  clear hpr hq0
  cases sp with
  |em nn hem hb=>
   dsimp only
   refine wpAny_pure (h2 ?_ _ hem (v0.it).jle ?_)
   ·intro e he c hc his
    obtain⟨i,hi⟩:=List.mem_iff_getElem?.mp he
    rw[Array.getElem?_toList]at hi
    have hil:i<t.place.size:=by rw[T.len];exact(Array.getElem?_eq_some_iff.mp hi).1
    obtain⟨ms,c',rfl,his'⟩:=el e he
    have hc':c'=c:=by injection hc
    subst hc'
    have ek:=(tK prog w).inj his' his
    have hz:(t.place[i],((tK prog w).hash (iK ms),Value.ref c'))∈t.place.toList.zip es.toList:=List.mem_iff_getElem?.mpr ⟨i,by rw[List.getElem?_zip_eq_some];exact⟨by simp[hil],by rw[Array.getElem?_toList];exact hi⟩⟩
    obtain⟨m,em,eb⟩:=T.rea _ hz
    have em:(it t.mask m (st t.mask ((tK prog w).hash (iK ms)))).j=t.place[i]:=em
    rw[ek]at em eb
    have hm:m<n+nn:=by
     rcases Nat.lt_trichotomy m (n+nn) with q|q|q
     ·exact q
     ·exfalso
      refine hem ?_
      show(it t.mask nn (it t.mask n _)).j∈t.place.toList
      rw[<- cQ,<- q,em];simp
     ·exfalso
      refine hem ?_
      show(it t.mask nn (it t.mask n _)).j∈t.place.toList
      rw[<- cQ];exact eb _ q
    obtain⟨i',e',hi',q1,q2,q3⟩:=pre hb m hm
    have hii:i'=i:=by
     have:t.place[i']=t.place[i]:=q1.trans em
     rcases Nat.lt_trichotomy i' i with q|q|q
     ·have:=List.pairwise_iff_getElem.mp T.tb.ris i' i (by simpa using hi') (by simpa using hil) q
      simp at this;omega
     ·exact q
     ·have:=List.pairwise_iff_getElem.mp T.tb.ris i i' (by simpa using hil) (by simpa using hi') q
      simp at this;omega
    subst hii
    rw[hi]at q2;cases q2
    exact q3 c' rfl his
   ·refine⟨n+nn,by rw[cQ],fun k hk'=>?_⟩
    obtain⟨i,e,hi,q1,_⟩:=pre hb k hk'
    show _∈t.place.toList
    rw[<- q1];simp
  |ca nn i hi hij hq hb=>
   dsimp only
   obtain⟨e,he⟩:=at_ i hi
   obtain⟨ms,c,rfl,his⟩:=el e (tu he)
   have aQ:wpAny (model prog w) A (do
    let some (_,y):=es[i]?|unsupported "internal:set-entry"
    let equal <- holding [y] (eqBool y (.ref b))
    let (es',_,t') <- setState a
    if true&&equal then return SetFound.there none
    let some same:=t'.sameMemory t.moves t.mask|unsupported "set.changed-during-lookup:is-the-new-block-at-the-old-address"
    let still <- match (if same then t'.slot (it t.mask nn (it t.mask n (st t.mask ((tK prog w).hash (iK ns))))).j else .empty) with
     | .live i'=>match es'[i']? with
      |some (_,y')=>do pure (if <- isSame y' y then some i' else none)
      |none=>pure none
     |_=>pure none
    match still with
    |none=>rule "set.search.anew";setSearchFrom a (.ref b) ((tK prog w).hash (iK ns)) true fuel none
    |some i'=>if equal then return .there (some i') else setSearchFrom a (.ref b) ((tK prog w).hash (iK ns)) true fuel (some (it t.mask (nn+1) (it t.mask n (st t.mask ((tK prog w).hash (iK ns))))))) Q E s:=by
    rw[he]
    dsimp only
    refine wpAny_bind (wpAny_holding ((tK prog w).eqBool hu his hk ?_))
    refine wpAny_bind (wpAny_setState_of ho hd (Tbl.fits T hs) ?_)
    dsimp only
    by_cases hkk:iK ms=iK ns
    ·rw[decide_eq_true hkk]
     simp only[Bool.and_self,if_true]
     exact wpAny_pure (h1 ⟨_,tu he,c,rfl,by rw[<- hkk];exact his⟩)
    ·rw[decide_eq_false hkk]
     simp only[Bool.and_false,Bool.false_eq_true,if_false]
     have hsm:t.sameMemory t.moves t.mask=some true:=by unfold SetTable.sameMemory;simp
     rw[hsm]
     dsimp only
     rw[if_pos rfl,<- hij,m6 T.tb hi]
     dsimp only
     rw[he]
     dsimp only
     refine wpAny_bind (wpAny_isSame_ref_self ?_)
     refine wpAny_bind (wpAny_pure ?_)
     rw[if_pos rfl]
     try dsimp only
     refine m9 ho hd T hs hu hk el h1 h2 fuel (n+(nn+1)) _ ?_ ?_ ⟨N,?_,?_,x3⟩
     ·exact(cQ t.mask n (nn+1) _).symm
     ·intro k hk'
      by_cases hkn:k<n+nn
      ·exact pre hb k hkn
      ·have:k=n+nn:=by omega
       subst this
       refine⟨i,_,hi,by rw[hij,cQ],he,fun c' hc' hh=>hkk ?_⟩
       have:c=c':=by injection hc'
       subst this
       exact(tK prog w).inj his hh
     ·refine Classical.byContradiction fun hc=>?_
      have hN:N<n+(nn+1):=by omega
      by_cases hNn:N<n+nn
      ·obtain⟨i',e',hi',q1,_⟩:=pre hb N hNn
       exact x3 (by rw[<- q1];simp)
      ·have:N=n+nn:=by omega
       subst this
       exact x3 (by rw[cQ,<- hij];simp)
     ·omega
   split
   ·refine wpAny_bind (Eb hk ?_ ?_)
    ·intro y hy
     obtain⟨e',he',rfl⟩:=List.mem_map.mp hy
     have he2:e'∈es.toList:=by
      have:=(Array.mem_toList_iff).mp he'
      rw[Array.mem_filter]at this
      exact Array.mem_toList_iff.mpr this.1
     obtain⟨ms',c',rfl,his'⟩:=el e' he2
     exact⟨ms',c',rfl,his'⟩
    ·simp only[Bool.false_eq_true,if_false]
     exact aQ
   ·exact aQ
end
end L2
namespace L2
open PySem PySem.Spec PySem.Calls PyProof.Rows ST
def byT (w:World):Bool:=w.params.followText "set-order"
def SetAt (w:World)(h:Heap)(a:Addr)(es:Array (Int×Value)):Prop:=∃ o ep t,h.get? a=some o/\o.ExactSet/\o.data=.set es ep t/\Tbl t es/\m7 t/\t.plain=true/\t.led=!byT w
theorem SetAt.keep {w:World}{h h':Heap}{a:Addr}{es:Array (Int×Value)}(x:SetAt w h a es)(k:∀ o,h.get? a=some o->h'.get? a=some o):SetAt w h' a es:=let ⟨o,ep,t,e,r⟩:=x;⟨o,ep,t,k o e,r⟩
theorem ig {t:SetTable}(h:m7 t):t.place.size<=t.mask:=by unfold m7 at h;omega
section
variable {prog:Program}{w:World}{A:Around}{E:Value->Shared->Prop}{s:Shared}
structure Grown (es es':Array (Int×Value)) (x:Int×Value):Prop where
 mem:∀ y,y∈es'.toList↔y=x\/y∈es.toList
 pw:∀ R:Int×Value->Int×Value->Prop,(∀ x y,R x y->R y x)->es.toList.Pairwise R->(∀ e∈es.toList,R e x)->es'.toList.Pairwise R
 size:es'.size=es.size+1
theorem wY (es:Array (Int×Value))(p:Nat)(x:Int×Value)(hp:p<=es.size):Grown es (SetTable.insertAt es p x) x:=by
 have e:=ST.insertAt_toList es p x hp
 refine⟨fun y=>?_,fun R sy pw hx=>?_,ST.insertAt_size es p x hp⟩
 ·rw[e,List.mem_append,List.mem_cons]
  constructor
  ·rintro (z|rfl|z)
   ·exact .inr (List.mem_of_mem_take z)
   ·exact .inl rfl
   ·exact .inr (List.mem_of_mem_drop z)
  ·rintro (rfl|z)
   ·exact .inr (.inl rfl)
   ·rw[<- List.take_append_drop p es.toList,List.mem_append]at z
    exact z.elim .inl fun z=>.inr (.inr z)
 ·rw[e,List.pairwise_append]
  rw[<- List.take_append_drop p es.toList,List.pairwise_append]at pw
  obtain⟨p1,p2,p3⟩:=pw
  refine⟨p1,?_,?_⟩
  ·rw[List.pairwise_cons]
   exact⟨fun y hy=>sy _ _ (hx y (List.mem_of_mem_drop hy)),p2⟩
  ·intro y hy z hz
   rcases List.mem_cons.mp hz with rfl|hz
   ·exact hx y (List.mem_of_mem_take hy)
   ·exact p3 y hy z hz
theorem Grown.laid {es es1 es2:Array (Int×Value)}{x:Int×Value}{m:Nat}{t:SetTable}(g:Grown es es1 x)(l:Laid m es1 es2 t):Grown es es2 x:=
 ⟨fun y=>(l.mem y).trans (g.mem y),fun R sy pw hx=>l.pw R sy (g.pw R sy pw hx),by rw[l.size,g.size]⟩
theorem m_ {a:Addr}{o:Obj}{es:Array (Int×Value)}{ep:Nat}{t:SetTable}(es':Array (Int×Value))(t':SetTable){h:Heap}(ho:h.get? a=some o)(hex:o.ExactSet)(hd:o.data=.set es ep t) :
 ∃ o',(h.update a (Obj.putSet es' t')).get? a=some o'/\o'.ExactSet/\o'.data=.set es' (ep+1) t':=by
 have:=Heap.get?_update_self (Obj.putSet es' t') ho (by rw[putSet_of es' t' hd];rfl)
 rw[putSet_of es' t' hd]at this
 exact⟨_,this,hex,rfl⟩
theorem tw {t:SetTable}{n:Nat}(h:Msk t.mask)(h1:n*5<t.mask*3)(h2:(n+1)*5>=t.mask*3)(h3:n+1<=63):∃ m,SetTable.sizeAbove (SetTable.grown (n+1))=m+1/\Msk m/\(n+1)*5<m*3:=by
 rcases h with e|e|e<;>rw[e]at h1 h2
 ·have:n=4:=by omega
  subst this
  exact⟨31,by decide,.inr (.inl rfl),by omega⟩
 ·have:n=18:=by omega
  subst this
  exact⟨127,by decide,.inr (.inr rfl),by omega⟩
 ·omega
theorem yE {a:Addr}{o:Obj}{es:Array (Int×Value)}{ep:Nat}{t:SetTable}{n m:Nat}{Q:Unit->Shared->Prop}(ho:s.heap.get? a=some o)(hex:o.ExactSet)(hd:o.data=.set es ep t)(hf:t.fits es.size=true)(hm:Msk m)(hn:SetTable.sizeAbove n=m+1)(hl:es.size*5<m*3)(hpl:t.plain=true)(hle:t.led=!byT w)
 (h:∀ es' t',Laid m es es' t'->SetAt w (s.heap.update a (Obj.putSet es' t')) a es'->Q () { s with heap:=s.heap.update a (Obj.putSet es' t') }):wpAny (model prog w) A (setRelay a n) Q E s:=by
 have hmb:m<=127:=by rcases hm with rfl|rfl|rfl<;>omega
 unfold setRelay
 refine wpAny_bind (wpAny_setState_of ho hd hf ?_)
 dsimp only
 rw[if_neg (by rw[hn,sizeLine_eq];omega)]
 obtain⟨t',order,e,L,hlp,hp⟩:=BA hm es (by omega) t.finger (t.movedTo m) t.led t.plain
 have er:t.relaid (es.map (·.1)) n=some (t',order):=by
  unfold SetTable.relaid
  rw[hn]
  exact e
 rw[er]
 show wpAny _ _ (do
  let r <- (do
   if (order.filterMap (es[·]?)).size != es.size then unsupported "internal:set-table-lost-an-element"
   pure (order.filterMap (es[·]?),t'):Sem (Array (Int×Value)×SetTable))
  storeSet a r.1 r.2) _ _ _
 refine wpAny_bind ?_
 rw[if_neg (by rw[L.size];simp)]
 refine wpAny_pure ?_
 refine wpAny_storeSet_of ho hd ?_ (by show(order.filterMap (es[·]?)).size<=_;rw[L.size,sizeLine_eq];omega)
 obtain⟨o',g1,g2,g3⟩:=m_ (order.filterMap (es[·]?)) t' ho hex hd
 refine h _ t' L ⟨o',_,t',g1,g2,g3,L.tbl,?_,by rw[hp];exact hpl,by rw[hlp];exact hle⟩
 unfold m7
 rw[L.tbl.len,L.size,L.mask]
 exact hl
end
end L2
namespace L2
open PySem PySem.Spec PySem.Calls PyProof.Rows ST
section
variable {prog:Program}{w:World}{A:Around}{E:Value->Shared->Prop}{s:Shared}
theorem yF {t:SetTable}{es:Array (Int×Value)}(T:Tbl t es)(hs:t.place.size<=t.mask)(h:Int):∃ N,N<100000/\(it t.mask N (st t.mask h)).j∉t.place.toList:=by
 obtain⟨j,hj,hn⟩:=kP T.tb hs
 obtain⟨N,h1,h2⟩:=CU T.tb.msk hj (Va.st t.mask h)
 refine⟨N,?_,by rw[h2];exact hn⟩
 have:t.mask<=127:=by rcases T.tb.msk with e|e|e<;>rw[e]<;>omega
 unfold SetTable.turns at h1
 omega
theorem Ec {a b:Addr}{es:Array (Int×Value)}{ns:List Int}{Q:Bool->Shared->Prop}(hu:A.units<cLine)(hk:(tK prog w).is s.heap (iK ns) b)(hS:SetAt w s.heap a es)(el:Hg prog w s.heap es)(hz:es.size+1<=63)
 (h1:∀ tk,s.toks<=tk->(∃ e∈es.toList,∃ c,e.2=.ref c/\(tK prog w).is s.heap (iK ns) c)->Q false { s with toks:=tk })
 (h2:∀ tk h' es',s.toks<=tk->(∀ e∈es.toList,∀ c,e.2=.ref c->¬ (tK prog w).is s.heap (iK ns) c)->Heap.SameBut a s.heap h'->SetAt w h' a es'->Grown es es' ((tK prog w).hash (iK ns),.ref b)->Q true { s with heap:=h',toks:=tk }) :
 wpAny (model prog w) A (setAdd a (.ref b)) Q E s:=by
 obtain⟨o,ep,t,ho,hex,hd,T,sp,hpl,hle⟩:=hS
 have hf:=Tbl.fits T (ig sp)
 unfold setAdd
 refine wpAny_holding ?_
 refine wpAny_bind ((tK prog w).pyHash hu hk ?_)
 have htk:s.toks<=s.toks+(tK prog w).draws (iK ns):=Nat.le_add_right _ _
 generalize s.toks+(tK prog w).draws (iK ns)=tk at htk
 unfold setAddHashed setAddHashedIn
 refine wpAny_holding ?_
 refine wpAny_bind (wpAny_setState_of (s:={ s with toks:=tk }) ho hd hf ?_)
 dsimp only
 have hbs:byScan (.ref b) es=false:=by simp[byScan,Value.scannable]
 rw[hbs]
 simp only[Bool.false_eq_true,if_false]
 unfold setSearch
 obtain⟨N,n1,n2⟩:=yF T (ig sp) ((tK prog w).hash (iK ns))
 refine wpAny_bind (m9 (s:={ s with toks:=tk }) ho hd T (ig sp) hu hk el (fun hin=>?_) (fun hout j hj hjm hr=>?_) 100000 0 none rfl (fun k hk'=>by omega) ⟨N,Nat.zero_le _,by omega,n2⟩)
 ·exact wpAny_pure (h1 tk htk hin)
 ·dsimp only
  refine wpAny_bind (wpAny_setState_of (s:={ s with toks:=tk }) ho hd hf ?_)
  dsimp only
  obtain⟨T',em,ez⟩:=D8 T hj hjm (v:=Value.ref b) hr
  have hpl':(t.put j).1.plain=true:=by rw[oj T.tb];exact hpl
  have hle':(t.put j).1.led=!byT w:=by rw[oj T.tb];exact hle
  rw[hpl']
  simp only[if_true]
  refine wpAny_bind (Ea (s:={ s with toks:=tk }) hk ?_)
  simp only[if_true]
  have hp:(t.put j).2<=es.size:=by rw[vK,<- T.len];exact(dk j T.tb.ris).1
  have g:=wY es (t.put j).2 ((tK prog w).hash (iK ns),Value.ref b) hp
  refine wpAny_bind (wpAny_storeSet_of (s:={ s with toks:=tk }) ho hd ?_ (by rw[g.size,sizeLine_eq];omega))
  obtain⟨o1,q1,q2,q3⟩:=m_ (SetTable.insertAt es (t.put j).2 ((tK prog w).hash (iK ns),Value.ref b)) (t.put j).1 ho hex hd
  have sb:=Heap.SameBut.update s.heap a (Obj.putSet (SetTable.insertAt es (t.put j).2 ((tK prog w).hash (iK ns),Value.ref b)) (t.put j).1)
  have fill:(t.put j).1.fill=es.size+1:=by
   unfold SetTable.fill
   rw[T'.tb.dum,ez,T.len];rfl
  by_cases hfull:(t.put j).1.tooFull=true
  ·rw[hfull]
   simp only[Bool.not_false,Bool.and_self,if_true]
   unfold SetTable.tooFull at hfull
   rw[fill,em]at hfull
   have hfull:(es.size+1)*5>=t.mask*3:=by simpa using hfull
   have sp':es.size*5<t.mask*3:=by rw[<- T.len];exact sp
   obtain⟨m,m1,m2,m3⟩:=tw T.tb.msk sp' hfull hz
   have le':(t.put j).1.place.size<=(t.put j).1.mask:=by
    rw[ez,em];unfold m7 at sp
    have:t.mask>=7:=by rcases T.tb.msk with e|e|e<;>rw[e]<;>omega
    omega
   refine wpAny_bind (yE (s:={ s with heap:=s.heap.update a (Obj.putSet (SetTable.insertAt es (t.put j).2 ((tK prog w).hash (iK ns),Value.ref b)) (t.put j).1),toks:=tk }) q1 q2 q3 (Tbl.fits T' le') m2 m1 (by rw[g.size];exact m3) hpl' hle' fun es' t' L sa=>?_)
   exact wpAny_pure (h2 tk _ es' htk hout (sb.trans (Heap.SameBut.update _ a _)) sa (g.laid L))
  ·have hfull:(t.put j).1.tooFull=false:=by simpa using hfull
   rw[hfull]
   simp only[Bool.and_false,Bool.false_eq_true,if_false]
   refine wpAny_pure (h2 tk _ _ htk hout sb ⟨o1,_,_,q1,q2,q3,T',?_,hpl',hle'⟩ g)
   unfold SetTable.tooFull at hfull
   unfold m7
   rw[fill]at hfull
   rw[ez,T.len]
   simpa using hfull
end
end L2
namespace L2
open PySem PySem.Spec PySem.Calls PyProof.Rows ST
abbrev TItem:=List Int×Addr
theorem tz {a b:List Int}(h:iK a=iK b):a=b:=by
 induction a generalizing b with
 |nil=>cases b with
  |nil=>rfl
  |cons _ _=>cases h
 |cons x a ih=>cases b with
  |nil=>cases h
  |cons y b=>
   simp only[iK,List.map_cons,List.cons.injEq]at h
   rw[Sum.inl.inj h.1,ih h.2]
section
variable {prog:Program}{w:World}
structure SInv (prog:Program) (w:World) (es:Array (Int×Value)) (xs:List TItem):Prop where
 el:∀ e∈es.toList,∃ x∈xs,e=((tK prog w).hash (iK x.1),Value.ref x.2)
 sz:es.size<=xs.length
 pw:es.toList.Pairwise fun e e'=>∀ x x':TItem,e=((tK prog w).hash (iK x.1),Value.ref x.2)->e'=((tK prog w).hash (iK x'.1),Value.ref x'.2)->x∈xs->x'∈xs->x.1≠x'.1
 all:∀ x∈xs,∃ y∈xs,y.1=x.1/\((tK prog w).hash (iK y.1),Value.ref y.2)∈es.toList
variable {A:Around}{R:Result->Shared->Prop}{I:Addr}{fp wr:List Addr}{G:Array GenState->Array GenState->Prop}{n:Nat}{P:Nat->Value->Prop}{St:Nat->Shared->Prop}
theorem SInv.els {hb h:Heap}{es:Array (Int×Value)}{xs:List TItem}(v:SInv prog w es xs)(hx:∀ x∈xs,(tK prog w).is hb (iK x.1) x.2)(K:∀ b o,hb.get? b=some o->h.get? b=some o):Hg prog w h es:=fun e he=>by
 obtain⟨x,h1,rfl⟩:=v.el e he
 exact⟨x.1,x.2,rfl,fw (hx x h1) K⟩
def GL (xs:List TItem):Prop:=∀ x∈xs,∀ y∈xs,x.2=y.2->x.1=y.1
theorem SInv.seen {es:Array (Int×Value)}{xs:List TItem}{x:TItem}(v:SInv prog w es xs)(hin:∃ y∈xs,y.1=x.1)(un:GL (xs++[x])):SInv prog w es (xs++[x]):=by
 refine⟨fun e he=>?_,?_,?_,fun y hy=>?_⟩
 ·obtain⟨z,h1,h2⟩:=v.el e he
  exact⟨z,List.mem_append_left _ h1,h2⟩
 ·have:=v.sz;simp;omega
 ·refine List.Pairwise.imp_of_mem (fun{a b} ha hb hab z z' e1 e2 m1 m2=>?_) v.pw
  obtain⟨y,y1,y2⟩:=v.el a ha
  obtain⟨y',y1',y2'⟩:=v.el b hb
  have q1:z.2=y.2:=by rw[e1]at y2;simp only[Prod.mk.injEq,Value.ref.injEq]at y2;exact y2.2
  have q2:z'.2=y'.2:=by rw[e2]at y2';simp only[Prod.mk.injEq,Value.ref.injEq]at y2';exact y2'.2
  rw[un z m1 y (List.mem_append_left _ y1) q1,un z' m2 y' (List.mem_append_left _ y1') q2]
  exact hab y y' y2 y2' y1 y1'
 ·rcases List.mem_append.mp hy with hy|hy
  ·obtain⟨z,h1,h2⟩:=v.all y hy
   exact⟨z,List.mem_append_left _ h1,h2⟩
  ·rw[List.mem_singleton]at hy;subst hy
   obtain⟨y',h1,h2⟩:=hin
   obtain⟨z,g1,g2,g3⟩:=v.all y' h1
   exact⟨z,List.mem_append_left _ g1,g2.trans h2,g3⟩
theorem SInv.new {es es':Array (Int×Value)}{xs:List TItem}{x:TItem}(v:SInv prog w es xs)(hin:¬ ∃ y∈xs,y.1=x.1)(un:GL (xs++[x]))(g:Grown es es' ((tK prog w).hash (iK x.1),.ref x.2)):SInv prog w es' (xs++[x]):=by
 have hx:x∈xs++[x]:=List.mem_append_right _ (List.mem_singleton.mpr rfl)
 refine⟨fun e he=>?_,?_,?_,fun y hy=>?_⟩
 ·rcases (g.mem e).mp he with rfl|he
  ·exact⟨x,hx,rfl⟩
  ·obtain⟨z,h1,h2⟩:=v.el e he
   exact⟨z,List.mem_append_left _ h1,h2⟩
 ·have:=v.sz;rw[g.size];simp;omega
 ·refine g.pw _ (fun a b hab z z' e1 e2 m1 m2 h=>hab z' z e2 e1 m2 m1 h.symm) ?_ ?_
  ·refine List.Pairwise.imp_of_mem (fun{a b} ha hb hab z z' e1 e2 m1 m2=>?_) v.pw
   obtain⟨y,y1,y2⟩:=v.el a ha
   obtain⟨y',y1',y2'⟩:=v.el b hb
   have q1:z.2=y.2:=by rw[e1]at y2;simp only[Prod.mk.injEq,Value.ref.injEq]at y2;exact y2.2
   have q2:z'.2=y'.2:=by rw[e2]at y2';simp only[Prod.mk.injEq,Value.ref.injEq]at y2';exact y2'.2
   rw[un z m1 y (List.mem_append_left _ y1) q1,un z' m2 y' (List.mem_append_left _ y1') q2]
   exact hab y y' y2 y2' y1 y1'
  ·intro e he z z' e1 e2 m1 m2 h
   obtain⟨y,y1,y2⟩:=v.el e he
   have q1:z.2=y.2:=by rw[e1]at y2;simp only[Prod.mk.injEq,Value.ref.injEq]at y2;exact y2.2
   have q2:z'.2=x.2:=by simp only[Prod.mk.injEq,Value.ref.injEq]at e2;exact e2.2.symm
   have a1:=un z m1 y (List.mem_append_left _ y1) q1
   have a2:=un z' m2 x hx q2
   exact hin ⟨y,y1,by rw[<- a1,<- a2];exact h⟩
 ·rcases List.mem_append.mp hy with hy|hy
  ·obtain⟨z,h1,h2,h3⟩:=v.all y hy
   exact⟨z,List.mem_append_left _ h1,h2,(g.mem _).mpr (.inr h3)⟩
  ·rw[List.mem_singleton]at hy;subst hy
   exact⟨y,hx,rfl,(g.mem _).mpr (.inl rfl)⟩
theorem ii (W:WalksS prog w A.in1 I fp wr G n P St)(S:Addr)(hSf:S∉fp)(hu:A.in1.units<cLine)(hb:Heap)(hbS:hb.get? S=none)(hbw:∀ b∈wr,hb.get? b=none)(its:List TItem)(hn:its.length=n)
 (hval:∀ i v,P i v->∃ x,its[i]?=some x/\v=.ref x.2) (his:∀ x∈its,(tK prog w).is hb (iK x.1) x.2) (hz:n<=63) :
 ∀(k i:Nat)(s:Shared)(es:Array (Int×Value)),n-i=k->i<=n->St i s->(∀ b o,hb.get? b=some o->s.heap.get? b=some o)->SetAt w s.heap S es->SInv prog w es (its.take i)->
  (∀ s' es',Moved (S::wr) G s s'->SetAt w s'.heap S es'->SInv prog w es' its->R (.ok (.ret .none)) s')->
  codeAny (model prog w) A (.builtin "set.update.loop" ⟨[.ref S,.ref I],[]⟩) R s:=by
 have hSw:S∉wr:=fun h=>hSf (W.sub _ h)
 have hsub:∀ b∈wr,b∈S::wr:=fun b hb=>List.mem_cons_of_mem _ hb
 have uni:GL its:=fun x hx y hy e=>tz ((tK prog w).inj (his x hx) (by rw[e];exact his y hy))
 intro k
 induction k with
 |zero=>
  intro i s es hk hi hst K hS v hR
  have hin:i=n:=by omega
  subst hin
  refine codeAny_builtin PyProof.Rows.F.entry_set_update_loop ?_
  rw[Around.under_plainId PyProof.Rows.F.plain_set_update_loop _]
  show wpAny _ A.in1 (pyNext (.ref I) >>= _) _ _ s
  refine wpAny_bind (W.done s _ _ hst fun s' hm=>?_)
  have v':SInv prog w es its:=by rw[List.take_of_length_le (by omega)]at v;exact v
  have hR':=hR s' es (hm.mono hsub) (hS.keep fun o e=>hm.heap S o hSw e) v'
  show wpAny _ A.in1 (ret Value.none) _ _ s'
  exact wpAny_pure hR'
 |succ k ih=>
  intro i s es hk hi hst K hS v hR
  have hlt:i<n:=by omega
  have htk:its.take (i+1)=its.take i++[its[i]'(by omega)]:=by rw[List.take_append_getElem]
  refine codeAny_builtin PyProof.Rows.F.entry_set_update_loop ?_
  rw[Around.under_plainId PyProof.Rows.F.plain_set_update_loop _]
  show wpAny _ A.in1 (pyNext (.ref I) >>= _) _ _ s
  refine wpAny_bind (W.item i s _ _ hlt hst fun u s' hP hst' hm=>?_)
  obtain⟨x,hx,rfl⟩:=hval i u hP
  have hxe:its[i]'(by omega)=x:=by rw[List.getElem?_eq_getElem (by omega)]at hx;exact Option.some.inj hx
  have hxm:x∈its:=List.mem_of_getElem? hx
  rw[hxe]at htk
  have sub:∀ y∈its.take i++[x],y∈its:=by rw[<- htk];exact fun y hy=>List.mem_of_mem_take hy
  have un:GL (its.take i++[x]):=fun y hy z hz=>uni y (sub y hy) z (sub z hz)
  have K':∀ b o,hb.get? b=some o->s'.heap.get? b=some o:=fun b o e=>hm.heap b o (fun z=>by rw[hbw b z]at e;cases e) (K b o e)
  have hS':=hS.keep fun o e=>hm.heap S o hSw e
  have hx':∀ y∈its.take i,(tK prog w).is hb (iK y.1) y.2:=fun y hy=>his y (List.mem_of_mem_take hy)
  have el:=v.els hx' K'
  have hes:es.size+1<=63:=by have:=v.sz;rw[List.length_take]at this;omega
  show wpAny _ A.in1 (holding [Value.ref x.2] (setAdd S (.ref x.2)) >>= _) _ _ s'
  refine wpAny_bind (wpAny_holding ?_)
  have keyed:∀ e∈es.toList,∀ c,e.2=.ref c->(tK prog w).is s'.heap (iK x.1) c->∃ y∈its.take i,y.1=x.1:=fun e he c hc hh=>by
   obtain⟨y,y1,y2⟩:=v.el e he
   have:c=y.2:=by rw[y2]at hc;injection hc with hc;exact hc.symm
   subst this
   exact⟨y,y1,tz ((tK prog w).inj (fw (hx' y y1) K') hh)⟩
  refine Ec hu (fw (his x hxm) K') hS' el hes (fun tk htk' hin=>?_) fun tk h' es' htk' hout hsb hSn g=>?_
  ·obtain⟨e,he,c,hc,hh⟩:=hin
   refine wpAny_pure ⟨plainId_quiet PyProof.Rows.F.plain_set_update_loop _,ih (i+1) _ es (by omega) hlt (W.frame _ s' _ _ hst' htk' fun b hb o e=>e) K' hS' (by rw[htk];exact v.seen (keyed e he c hc hh) un) fun s'' es'' hm'' hS'' v''=>?_⟩
   exact hR s'' es'' (Moved.trans W.gtrans ((hm.mono hsub).then_heap htk' fun b o hb e=>e) hm'') hS'' v''
  ·have hnin:¬ ∃ y∈its.take i,y.1=x.1:=by
    rintro⟨y,y1,y2⟩
    obtain⟨z,z1,z2,z3⟩:=v.all y y1
    exact hout _ z3 z.2 rfl (by rw[<- y2,<- z2];exact fw (hx' z z1) K')
   have K2:∀ b o,hb.get? b=some o->h'.get? b=some o:=fun b o e=>(hsb.2 b (fun z=>by subst z;rw[hbS]at e;cases e)).trans (K' b o e)
   refine wpAny_pure ⟨plainId_quiet PyProof.Rows.F.plain_set_update_loop _,ih (i+1) _ es' (by omega) hlt (W.frame _ s' _ _ hst' htk' fun b hb o e=>?_) K2 hSn (by rw[htk];exact v.new hnin un g) fun s'' es'' hm'' hS'' v''=>?_⟩
   ·rw[hsb.2 b (fun h:b=S=>hSf (by rw[<- h];exact hb))];exact e
   ·refine hR s'' es'' (Moved.trans W.gtrans ((hm.mono hsub).then_heap htk' fun b o hb e=>?_) hm'') hS'' v''
    rw[hsb.2 b (fun h:b=S=>hb (by rw[h];exact List.mem_cons_self))];exact e
end
end L2
namespace L2
open PySem PySem.Spec PySem.Calls PyProof.Rows ST
abbrev setNew (led:Bool):Obj:={ cls:=.type "set",dict:=none,data:=.set #[] 0 (.fresh 0 0 led) }
theorem wZ {w:World}{h:Heap}{a:Addr}(e:h.get? a=some (setNew (!byT w))):SetAt w h a #[]:=by
 refine⟨_,0,_,e,⟨rfl,rfl,rfl⟩,rfl,⟨⟨.inl rfl,rfl,List.Pairwise.nil,fun j hj=>nomatch hj⟩,rfl,fun q hq=>nomatch hq⟩,?_,rfl,rfl⟩
 show 0*5<7*3
 decide
section
variable {prog:Program}{w:World}{A:Around}{E:Value->Shared->Prop}{s:Shared}
theorem mF (a:Value){Q₁:Value->Shared->Prop}(h:Q₁ (.ref s.heap.objs.size) { s with heap:=s.heap.push (setNew (!byT w)) }) :
 codeAny (model prog w) A (.call (.builtin "set.__new__") ⟨[.type "set",a],[]⟩) (wants Q₁ E) s:=by
 refine codeAny_of_tree (show wpAny _ A.in1 (do checkBuiltinCall "set.__new__" ⟨[.type "set",a],[]⟩;again (.builtin "set.__new__" ⟨[.type "set",a],[]⟩)) _ _ s from ?_)
 refine wpAny_bind (wpAny_of_eq (PySem.F.newCall_set_1 a) (wpAny_pure ⟨plainId_quiet PySem.F.plain_set_new _,codeAny_builtin PySem.F.entry_set_new ?_⟩))
 rw[Around.under_plainId PySem.F.plain_set_new _];unfold Builtin.«set.__new__» Builtin.Frozenset.newClass
 have hsub:=sub_set_self
 obtain⟨hp,g,d,tk,os⟩:=s
 dsimp only;wp_walk
 refine wpAny_askSetting (wpAny_pure ?_);dsimp only;simp only[newObj]
 refine wpAny_bind (wpAny_alloc (wpAny_pure ?_));exact wpAny_pure h
theorem w4 {l:Addr} {items:Array Value} {nl:Nat} {its:List TItem} {Q:Value->Shared->Prop} (hh:A.handled=none) (hu:A.units+64<cLine) (hl:s.heap.get? l=some { cls:=.type "list",data:=.seq items nl }) (hn:its.length=items.size) (hz:items.size<=63)
 (hval:∀(i:Nat)(v:Value),items[i]?=some v->∃ x:TItem,its[i]?=some x/\v=.ref x.2) (his:∀ x∈its,(tK prog w).is s.heap (iK x.1) x.2)
 (h:∀(h':Heap)(tk:Nat)(es:Array (Int×Value)),SetAt w h' s.heap.objs.size es->SInv prog w es its->(∀ b o,b<s.heap.objs.size->s.heap.get? b=some o->h'.get? b=some o)->Q (.ref s.heap.objs.size) { s with heap:=h',toks:=tk }) :
 wpAny (model prog w) A (call (.type "set") [.ref l]) Q E s:=by
 obtain⟨c,tl,hmro⟩:=PySem.F.called_set.mro
 have hmade:=PySem.F.called_set.made;have hsub:=PySem.F.called_set.sub
 refine wpAny_call (codeAny_of_tree ?_);show wpAny _ _ (callAny (.type "set") _) _ _ _
 refine wpAny_pure ⟨Code.quiet_builtin _ (by decide +kernel),codeAny_builtin PySem.F.entry_type_call ?_⟩
 rw[Around.under_plain (weight_type_call_type "set" [.ref l] []) rfl]
 have h1:=PySem.F.called_set.notType;have h2:=PySem.F.called_set.canCreate;have hct:=PySem.F.typeCall_set_1 (.ref l)
 repeat (any_goals (first|assumption|wp_step))
 refine codeAny_mono (mF (.ref l) (E:=E) (Q₁:=fun obj s₁=>obj=.ref s.heap.objs.size/\s₁={ s with heap:=s.heap.push (setNew (!byT w)) }) ⟨rfl,rfl⟩) fun r s₁ hr=>?_
 rcases r with e|fl
 ·exact hr
 cases fl with
 |ret obj=>
  obtain⟨rfl,rfl⟩:=hr
  have hS:(s.heap.push (setNew (!byT w))).get? s.heap.objs.size=some (setNew (!byT w)):=Heap.get?_push_size _ rfl
  have hT:Shared.TypeIs { s with heap:=s.heap.push (setNew (!byT w)) } (.ref s.heap.objs.size) "set":=⟨_,hS,rfl⟩
  have hli:=PySem.F.called_set.init.lookup;have hbi:=PySem.F.called_set.init.bind (.ref s.heap.objs.size)
  repeat (any_goals (first|assumption|wp_step))
  refine codeAny_mono (codeAny_call_builtin (R:=wants (fun r s₂=>r=.none/\∃ h' tk es,s₂={ s with heap:=h',toks:=tk }/\SetAt w h' s.heap.objs.size es/\SInv prog w es its/\
   (∀ b o,b<s.heap.objs.size->s.heap.get? b=some o->h'.get? b=some o)) E) PySem.F.called_set.init.plain PySem.F.entry_set_init (check_set_init_1 hT ?_)) fun r₂ s₂ hr₂=>?_
  ·have hol':(s.heap.push (setNew (!byT w))).get? l=some { cls:=.type "list",data:=.seq items nl }:=Heap.get?_push_of_some _ hl
   have hsls:=PySem.F.sub_list_set;have hslf:=PySem.F.sub_list_frozenset;have hne:(Value.type "list"==Value.type "dict")=false:=by decide
   have hl1:(s.heap.push (setNew (!byT w))).IsList l items:=⟨_,hol',rfl,nl,rfl⟩
   unfold Builtin.«set.__init__» noKeywords Builtin.Frozenset.updateFrom
   generalize hPI:pyIter=PI
   wp_walk
   subst hPI
   refine wpAny_pyIter_list hl1 (wpAny_bind (wpAny_runValue ?_))
   have hlS:l<s.heap.objs.size:=Heap.lt_size hl
   have hh3:A.in1.in1.in1.handled=none:=by simp[hh]
   have hneI:l≠(s.heap.push (setNew (!byT w))).objs.size:=by rw[Heap.size_push];exact Nat.ne_of_lt (Nat.lt_succ_of_lt hlS)
   have hno:∀ b,s.heap.objs.size<=b->s.heap.get? b=none:=fun b hb=>by
    cases q:s.heap.get? b with
    |none=>rfl
    |some o=>exact absurd (Heap.lt_size q) (Nat.not_lt.mpr hb)
   refine ii ((Walks.list hh3 _ l hneI items).toS) s.heap.objs.size ?hSf (by show A.units+1+1+1<cLine;omega) s.heap (hno _ (Nat.le_refl _)) ?hbw its hn hval his hz (items.size-0) 0 _ #[] rfl (Nat.zero_le _) ⟨⟨_,Heap.get?_push_size _ rfl,rfl,rfl⟩,(hl1.push _)⟩
    (fun b o e=>Heap.get?_push_of_some _ (Heap.get?_push_of_some _ e)) (wZ (Heap.get?_push_of_some _ hS)) ⟨fun e he=>(nomatch he),Nat.zero_le _,List.Pairwise.nil,fun x hx=>(nomatch hx)⟩ ?hR
   case hSf=>
    rw[Heap.size_push];simp only[List.mem_cons,List.not_mem_nil,or_false,not_or]
    exact⟨Nat.ne_of_lt (Nat.lt_succ_self _),Nat.ne_of_gt hlS⟩
   case hbw=>
    intro b hb
    simp only[List.mem_cons,List.not_mem_nil,or_false]at hb
    subst hb
    exact hno _ (by rw[Heap.size_push];omega)
   case hR=>
    intro s' es hm hS' v
    obtain⟨h',g',d',tk',os'⟩:=s'
    have eg:g'=s.gens:=hm.gens
    have ed:d'=s.drawn:=hm.drawn
    have eo:os'=s.os:=hm.os
    subst eg ed eo
    refine wpAny_pure (wpAny_pure ⟨rfl,h',tk',es,rfl,hS',v,fun b o hb e=>hm.heap b o ?_ (Heap.get?_push_of_some _ (Heap.get?_push_of_some _ e))⟩)
    simp only[List.mem_cons,List.not_mem_nil,or_false,not_or]
    exact⟨Nat.ne_of_lt hb,by rw[Heap.size_push];exact Nat.ne_of_lt (Nat.lt_succ_of_lt hb)⟩
  ·rcases r₂ with e|fl₂
   ·exact hr₂
   cases fl₂ with
   |ret r=>
    obtain⟨rfl,h',tk,es,rfl,hS',v,hk'⟩:=hr₂
    repeat (any_goals (first|assumption|wp_step))
    exact h _ _ _ hS' v hk'
   |_=>exact hr₂.elim
 |_=>exact hr.elim
end
end L2
namespace L2
open PySem PySem.Spec PySem.Calls PyProof.Rows ST
theorem kU {α:Type}:∀(l:List α)(i:Nat)(h:i<l.length),(l[i]::l.eraseIdx i).Perm l
 | [],i,h=>by simp at h
 |x::l,0,h=>List.Perm.refl _
 |x::l,i+1,h=>by
  have ih:=kU l i (by simpa using h)
  have e:(x::l).eraseIdx (i+1)=x::l.eraseIdx i:=rfl
  rw[e,List.getElem_cons_succ]
  exact(List.Perm.swap _ _ _).trans (List.Perm.cons x ih)
theorem vM {α:Type}(next:Nat->Nat):∀(fuel k:Nat)(left:List α)(out:Array α),left.length=fuel->(pickOrder.go next fuel k left out).toList.Perm (out.toList++left)
 |0,k,left,out,h=>by
  have:left=[]:=List.length_eq_zero_iff.mp h
  subst this
  unfold pickOrder.go
  simp
 |f+1,k,left,out,h=>by
  have hi:next k % left.length<left.length:=Nat.mod_lt _ (by omega)
  unfold pickOrder.go
  rw[List.getElem?_eq_getElem hi]
  dsimp only
  have ih:=vM next f (k+1) (left.eraseIdx (next k % left.length)) (out.push left[next k % left.length]) (by rw[List.length_eraseIdx,if_pos hi];omega)
  refine ih.trans ?_
  rw[Array.toList_push,List.append_assoc]
  exact List.Perm.append_left _ (kU left _ hi)
theorem w6 {α:Type}(next:Nat->Nat)(xs:Array α):(pickOrder next xs).toList.Perm xs.toList:=by
 have:=vM next xs.size 0 xs.toList #[] (by simp)
 unfold pickOrder
 simpa using this
def f9 (w:World)(S:Addr)(ep:Nat)(es:Array (Int×Value)):Array (Int×Value):=if byT w then pickOrder (w.params.setOrder S ep) es else es
theorem qZ (w:World)(S:Addr)(ep:Nat)(es:Array (Int×Value)):(f9 w S ep es).toList.Perm es.toList:=by
 unfold f9
 split
 ·exact w6 _ _
 ·exact List.Perm.refl _
theorem ij (w:World)(S:Addr)(ep:Nat)(es:Array (Int×Value)):(f9 w S ep es).size=es.size:=by
 have:=(qZ w S ep es).length_eq
 simpa using this
def b_ (w:World)(t:SetTable):Nat->Nat
 |0=>0
 |i+1=>if byT w then 0 else t.place.getD i 0+1
theorem tE {t:SetTable}(T:Tb t):∀(i:Nat),i<=t.place.size->SetTable.below t.place (match i with|0=>0|i+1=>t.place.getD i 0+1)=i
 |0,_=>by
  obtain⟨a,b,c⟩:=dk 0 T.ris
  dsimp only
  rcases Nat.eq_zero_or_pos (SetTable.below t.place 0) with h|h
  ·exact h
  ·have:=b 0 (by omega) h;omega
 |i+1,hi=>by
  dsimp only
  have e:t.place.getD i 0=t.place[i]:=by simp[Array.getD,show i<t.place.size by omega]
  rw[e]
  obtain⟨a,b,c⟩:=dk (t.place[i]+1) T.ris
  rcases Nat.lt_trichotomy (SetTable.below t.place (t.place[i]+1)) (i+1) with q|q|q
  ·have h1:=c i (by omega) (by omega)
   omega
  ·exact q
  ·have h1:=b (i+1) (by omega) q
   have h2:=List.pairwise_iff_getElem.mp T.ris i (i+1) (by simp;omega) (by simp;omega) (by omega)
   simp at h2
   omega
theorem slot_setiter_next:Slot "set_iterator" "__next__" "set_iterator.__next__":=.of (owner:="set_iterator") (n:="__next__") (by rw[typeLookup_type,builtinLookup_eq_fast];kernel_rfl) (by decide +kernel) (by decide +kernel) (by decide +kernel) (by first|exact .inl (by decide +kernel)|exact .inr (by decide +kernel)) (by rw[isSubtype_type];kernel_rfl)
theorem dl:entryFor table "set_iterator.__next__"=some Builtin.«set_iterator.__next__»:=entryFor_of_fast (by kernel_rfl)
theorem dP (a:Value):argsOk "set_iterator.__next__" ⟨[a],[]⟩:=by (unfold argsOk;kernel_rfl)
theorem mG:entryFor table "set.__iter__"=some Builtin.«frozenset.__iter__»:=entryFor_alias (id':="frozenset.__iter__") (by kernel_rfl) rfl (by decide +kernel) (by kernel_rfl)
def SetIt (h:Heap) (it S:Addr) (slot i n ep:Nat):Prop:=∃ o,h.get? it=some o/\o.cls=.type "set_iterator"/\o.data=.fields #[.int slot 0,.int i 0,.ref S,.int n 0,.int ep 0]
theorem SetIt.typeIs {s:Shared} {it S:Addr} {slot i n ep:Nat} (x:SetIt s.heap it S slot i n ep):s.TypeIs (.ref it) "set_iterator":=let ⟨o,ho,hc,_⟩:=x;⟨o,ho,hc⟩
def ja (h:Heap)(S:Addr)(es:Array (Int×Value))(ep:Nat)(t:SetTable):Prop:=∃ o,h.get? S=some o/\o.ExactSet/\o.data=.set es ep t
section
variable {prog:Program}{w:World}{A:Around}{E:Value->Shared->Prop}{s:Shared}
theorem tF {Q:Bool->Shared->Prop}(h:Q (byT w) s):wpAny (model prog w) A setsByText Q E s:=by
 unfold setsByText
 exact wpAny_bind (wpAny_askSetting (wpAny_pure h))
theorem kW {S:Addr}{es:Array (Int×Value)}{ep i:Nat}{t:SetTable}{Q:Option (Value×Nat)->Shared->Prop}(r:ja s.heap S es ep t)(T:Tbl t es)(hs:t.place.size<=t.mask)(hpl:t.plain=true)(hle:t.led=!byT w)(hi:i<=es.size)
 (h:Q (((f9 w S ep es)[i]?).map fun e=>(e.2,b_ w t (i+1))) s):wpAny (model prog w) A (setNext S (b_ w t i) i ep) Q E s:=by
 obtain⟨o,ho,hex,hd⟩:=r
 have hf:=Tbl.fits T hs
 unfold setNext
 refine wpAny_bind (wpAny_setState_of ho hd hf ?_)
 dsimp only
 refine wpAny_bind (tF ?_)
 cases hb:byT w with
 |true=>
  simp only[if_true]
  rw[if_neg (by simp)]
  refine wpAny_bind ?_
  unfold setWalk
  refine wpAny_bind (wpAny_setState_of ho hd hf ?_)
  dsimp only
  refine wpAny_bind (tF ?_)
  rw[hb]
  simp only[if_true]
  refine wpAny_bind (wpAny_askSetting (wpAny_pure ?_))
  have e1:b_ w t (i+1)=0:=by unfold b_;rw[hb];rfl
  have e2:b_ w t i=0:=by cases i with|zero=>rfl|succ i=>(unfold b_;rw[hb];rfl)
  rw[e2]
  rw[e1]at h
  unfold f9 at h
  rw[hb]at h
  exact wpAny_pure h
 |false=>
  simp only[Bool.false_eq_true,if_false]
  rw[hb]at hle
  have hle:t.led=true:=hle
  show wpAny _ _ (if (!t.plain&&decide (es.size>1))=true then _ else _) _ _ _
  rw[hpl]
  simp only[Bool.not_true,Bool.false_and,Bool.false_eq_true,if_false]
  show wpAny _ _ ((if (!t.led&&!es.isEmpty)=true then unsupported "set:maker-not-led" else pure ()) >>= fun _=>_) _ _ _
  rw[hle]
  simp only[Bool.not_true,Bool.false_and,Bool.false_eq_true,if_false]
  refine wpAny_bind (wpAny_pure ?_)
  have e1:SetTable.below t.place (b_ w t i)=i:=by
   have:=tE T.tb i (by rw[T.len];exact hi)
   cases i with
   |zero=>exact this
   |succ i=>unfold b_;rw[hb];exact this
  have eo:f9 w S ep es=es:=by unfold f9;rw[hb];rfl
  rw[eo]at h
  rw[e1]
  by_cases hlt:i<es.size
  ·have g1:es[i]?=some es[i]:=by simp[hlt]
   have hp:i<t.place.size:=by rw[T.len];exact hlt
   have g2:t.place[i]?=some t.place[i]:=by simp[hp]
   rw[g1]at h
   rw[g1,g2]
   have e2:b_ w t (i+1)=t.place[i]+1:=by unfold b_;rw[hb];simp[Array.getD,hp]
   rw[e2]at h
   exact wpAny_pure h
  ·have g1:es[i]?=none:=by simp;omega
   rw[g1]at h
   rw[g1]
   exact wpAny_pure h
end
end L2
namespace L2
open PySem PySem.Spec PySem.Calls PyProof.Rows ST
theorem dQ:Slot "set_iterator" "__iter__" "set_iterator.__iter__":=.of (owner:="set_iterator") (n:="__iter__") (by rw[typeLookup_type,builtinLookup_eq_fast];kernel_rfl) (by decide +kernel) (by decide +kernel) (by decide +kernel) (by first|exact .inl (by decide +kernel)|exact .inr (by decide +kernel)) (by rw[isSubtype_type];kernel_rfl)
theorem g8:entryFor table "set_iterator.__iter__"=some Builtin.«dict_keyiterator.__iter__»:=entryFor_alias (id':="dict_keyiterator.__iter__") (by kernel_rfl) rfl (by decide +kernel) (by kernel_rfl)
theorem il (a:Value):argsOk "set_iterator.__iter__" ⟨[a],[]⟩:=by (unfold argsOk;kernel_rfl)
section
variable {prog:Program}{w:World}{A:Around}{E:Value->Shared->Prop}{s:Shared}
theorem nc {it S:Addr}{slot i n ep:Nat}{es:Array (Int×Value)}{t:SetTable}{P:PySem.Fin->Shared->Prop}{F:Value->Shared->Prop}{o:Obj}(ho:s.heap.get? it=some o)(hd:o.data=.fields #[.int slot 0,.int i 0,.ref S,.int n 0,.int ep 0])
 (r:ja s.heap S es ep t) (hf:t.fits es.size=true) (hn:n=es.size)
 (h:wpAny (model prog w) A (setNext S slot i ep) (fun m s'=>match m with
   |some (x,next)=>wpAny (model prog w) A (do setField (.ref it) 0 (rawInt next);setField (.ref it) 1 (rawInt (i+1));ret x) P F s'
   |none=>wpAny (model prog w) A (do setField (.ref it) 2 .none;raiseNew (<- newExc (.type "StopIteration") [])) P F s') F s) :
 wpAny (model prog w) A (Builtin.«set_iterator.__next__» ⟨[.ref it],[]⟩) P F s:=by
 obtain⟨os,hos,hex,hds⟩:=r
 unfold Builtin.«set_iterator.__next__» slotArgs
 simp only[List.isEmpty_nil,Bool.not_true,Bool.false_eq_true,if_false,List.length_nil,bne_self_eq_false]
 refine wpAny_bind (wpAny_pure ?_)
 refine wpAny_bind (wpAny_fieldsOf ho hd ?_)
 dsimp only
 refine wpAny_bind ?_
 unfold setEntries
 refine wpAny_bind (wpAny_setState_of hos hds hf (wpAny_pure ?_))
 dsimp only
 rw[if_neg (by rw[hn];simp)]
 simp only[Int.toNat_natCast]
 refine wpAny_bind (wpAny_mono h (fun m s' hm=>?_) fun _ _ e=>e)
 cases m with
 |none=>exact hm
 |some p=>obtain⟨x,next⟩:=p;exact hm
theorem mH {it S:Addr}(hne:S≠it)(hh:A.handled=none){es:Array (Int×Value)}{ep:Nat}{t:SetTable}(T:Tbl t es)(hs:t.place.size<=t.mask)(hpl:t.plain=true)(hle:t.led=!byT w) :
 Walks prog w A it [it,S] [it] es.size (fun i v=>((f9 w S ep es)[i]?).map (·.2)=some v) (fun i h=>SetIt h it S (b_ w t i) i es.size ep/\ja h S es ep t) where
 sub:=fun b hb=>by simp at hb;simp[hb]
 frame:=fun i h h' st hk=>by
  obtain⟨⟨o,h1,r1⟩,⟨o2,h2,r2⟩⟩:=st
  exact⟨⟨o,hk it (by simp) o h1,r1⟩,⟨o2,hk S (by simp) o2 h2,r2⟩⟩
 item:=fun i s Q E hi st hQ=>by
  obtain⟨x1,x2⟩:=st
  have hT:=x1.typeIs
  obtain⟨o,ho,hc,hd⟩:=x1
  have x2':=x2
  obtain⟨o2,ho2,hex2,hd2⟩:=x2
  unfold pyNext
  refine wpAny_bind (wpAny_attempt (wpAny_callSpecial?_slot (name:=Str.ofString "__next__") hT slot_setiter_next (wpAny_call_entry slot_setiter_next hT dl ?_ (dP _))))
  refine nc ho hd x2' (Tbl.fits T hs) rfl (kW x2' T hs hpl hle (by omega) ?_)
  have hio:i<(f9 w S ep es).size:=by rw[ij];exact hi
  have e1:(f9 w S ep es)[i]?=some (f9 w S ep es)[i]:=by simp[hio]
  rw[e1]
  show wpAny _ _ _ _ _ _
  refine wpAny_bind (wpAny_setField ho hd (by simp) ?_)
  have d1:=Obj.data_mapFields hd (·.setIfInBounds 0 (rawInt ((b_ w t (i+1):Nat):Int)))
  have ho1:=Heap.get?_update_self (Obj.mapFields (·.setIfInBounds 0 (rawInt ((b_ w t (i+1):Nat):Int)))) ho (Obj.isFreed_of_fields d1)
  refine wpAny_bind (wpAny_setField (s:={ s with heap:=_ }) ho1 d1 (by simp) ?_)
  have d2:=Obj.data_mapFields d1 (·.setIfInBounds 1 (rawInt ((i:Int)+1)))
  have ho3:=Heap.get?_update_self (Obj.mapFields (·.setIfInBounds 1 (rawInt ((i:Int)+1)))) ho1 (Obj.isFreed_of_fields d2)
  have sb:=(Heap.SameBut.update s.heap it (Obj.mapFields (·.setIfInBounds 0 (rawInt ((b_ w t (i+1):Nat):Int))))).trans (Heap.SameBut.update _ it (Obj.mapFields (·.setIfInBounds 1 (rawInt ((i:Int)+1)))))
  refine wpAny_pure ⟨_,rfl,wpAny_pure ?_⟩
  refine hQ _ _ s.toks (by rw[e1];rfl) ⟨⟨_,ho3,?_,?_⟩,o2,(sb.2 S hne).trans ho2,hex2,hd2⟩ (fun b o hb e=>(sb.2 b (fun z=>hb (by simp[z]))).trans e)
  ·exact(Obj.cls_mapFields ..).trans ((Obj.cls_mapFields ..).trans hc)
  ·rw[d2];simp[rawInt]
 done:=fun s Q E st hQ=>by
  obtain⟨x1,x2⟩:=st
  have hT:=x1.typeIs
  obtain⟨o,ho,hc,hd⟩:=x1
  unfold pyNext
  refine wpAny_bind (wpAny_attempt (wpAny_callSpecial?_slot (name:=Str.ofString "__next__") hT slot_setiter_next (wpAny_call_entry slot_setiter_next hT dl ?_ (dP _))))
  refine nc ho hd x2 (Tbl.fits T hs) rfl (kW x2 T hs hpl hle (Nat.le_refl _) ?_)
  have e1:(f9 w S ep es)[es.size]?=none:=by simp[ij]
  rw[e1]
  show wpAny _ _ _ _ _ _
  refine wpAny_bind (wpAny_setField ho hd (by simp) ?_)
  refine wpAny_bind ?_
  simp only[newExc,newTuple]
  refine wpAny_bind (wpAny_newObj_type ?_ (by size_fits))
  refine wpAny_bind (m:=firstArgMember _ _) (wpAny_of_eq (a:=Value.none) (by first|rfl|(simp only[firstArgMember];rfl)) ?_)
  refine wpAny_newObj_type ?_ (by size_fits)
  simp only[raiseNew]
  refine wpAny_bind (wpAny_handled ?_)
  rw[show A.in1.handled=none from hh]
  refine wpAny_bind (wpAny_pure (wpAny_throw ?_))
  refine wpAny_bind (wpAny_isInstance (T:="StopIteration") (b:=true) ⟨_,Heap.get?_push_size _ rfl,rfl⟩ isSubtype_stop ?_)
  refine wpAny_pure (hQ _ s.toks fun b o hb e=>?_)
  exact Heap.get?_push_of_some _ (Heap.get?_push_of_some _ (((Heap.SameBut.update ..).2 b (fun z=>hb (by simp[z]))).trans e))
 self:=fun _ _ _ _ st hQ=>by
  refine wpAny_pyIter_slot st.1.typeIs dQ (wpAny_call_entry dQ st.1.typeIs g8 ?_ (il _))
  exact wpAny_pure ⟨_,rfl, "set_iterator",_,st.1.typeIs,slot_setiter_next.lookup,hQ⟩
end
end L2
namespace L2
open PySem PySem.Spec PySem.Calls PyProof.Rows ST
section
variable {prog:Program}{w:World}{A:Around}{E:Value->Shared->Prop}{s:Shared}
theorem tG {S:Addr}{es:Array (Int×Value)}{ep:Nat}{t:SetTable}{Q:Value->Shared->Prop}(r:ja s.heap S es ep t)(hf:t.fits es.size=true)(hpl:t.plain=true)
 (h:Q (.ref s.heap.objs.size) { s with heap:=s.heap.push { cls:=.type "set_iterator",data:=.fields #[.int 0 0,.int 0 0,.ref S,.int es.size 0,.int ep 0] } }):wpAny (model prog w) A (pyIter (.ref S)) Q E s:=by
 obtain⟨o,ho,hex,hd⟩:=r
 have hT:s.TypeIs (.ref S) "set":=⟨o,ho,hex.1⟩
 refine wpAny_pyIter_slot hT PySem.F.slot_set_iter (wpAny_call_entry PySem.F.slot_set_iter hT mG ?_ (PySem.F.args_set_iter_1 _))
 unfold Builtin.«frozenset.__iter__» Builtin.Frozenset.slot0 slotArgs
 simp only[List.isEmpty_nil,Bool.not_true,Bool.false_eq_true,↓reduceIte,bind_assoc,List.length_nil,bne_self_eq_false]
 unfold Builtin.Frozenset.addrOf Builtin.Frozenset.sizeOf setEntries
 refine wpAny_bind (wpAny_pure (wpAny_bind (wpAny_pure ?_)))
 simp only[bind_assoc]
 refine wpAny_bind (wpAny_setState_of ho hd hf (wpAny_bind (wpAny_pure (wpAny_bind (wpAny_pure ?_)))))
 refine wpAny_bind ?_
 unfold setDrawn
 refine wpAny_bind (wpAny_setState_of ho hd hf ?_)
 dsimp only
 refine wpAny_bind (tF (wpAny_pure ?_))
 show wpAny _ _ (if (!byT w&&(!t.plain&&decide (es.size>1)))=true then _ else _) _ _ _
 rw[hpl]
 simp only[Bool.not_true,Bool.false_and,Bool.and_false,Bool.false_eq_true,if_false]
 refine wpAny_bind (wpAny_pure ?_)
 refine wpAny_bind (wpAny_setEpoch_of ho hd hf ?_)
 exact wpAny_bind (wpAny_newObj_type (wpAny_pure ⟨_,rfl, "set_iterator",_,⟨_,Heap.get?_push_size _ rfl,rfl⟩,slot_setiter_next.lookup,h⟩))
theorem yG {S:Addr} {Q:Bool->Shared->Prop} (hT:s.TypeIs (.ref S) "set") (h:Q false s):wpAny (model prog w) A (Builtin.List.listLengthHint (.ref S)) Q E s:=by
 unfold Builtin.List.listLengthHint
 refine wpAny_bind (wpAny_specialOf hT PySem.F.slot_set_len.lookup ?_)
 dsimp only
 have hsp:splitId "set.__len__"=some ("set", "__len__"):=by decide +kernel
 rw[hsp]
 dsimp only
 refine wpAny_bind (wpAny_isInstance hT sub_set_self ?_)
 simp only[Bool.not_true,Bool.false_eq_true,if_false]
 rw[if_pos (by decide +kernel)]
 refine wpAny_bind (wpAny_typeOf hT ?_)
 exact wpAny_pure h
theorem q4 {S:Addr}{es:Array (Int×Value)}{ep:Nat}{t:SetTable}{Q:List Value->Shared->Prop}(r:ja s.heap S es ep t)(T:Tbl t es)(hs:t.place.size<=t.mask)(hpl:t.plain=true)(hle:t.led=!byT w)(hh:A.handled=none)(hz:es.size<=63)
 (h:∀ h' tk,s.heap.objs.size<h'.objs.size->(∀ b o,s.heap.get? b=some o->h'.get? b=some o)->Q ((f9 w S ep es).toList.map (·.2)) { s with heap:=h',toks:=tk }):wpAny (model prog w) A (collect (.ref S)) Q E s:=by
 have hf:=Tbl.fits T hs
 obtain⟨o,ho,hex,hd⟩:=r
 have hlt:S<s.heap.objs.size:=Heap.lt_size ho
 unfold collect
 refine wpAny_bind (wpAny_runValue (codeAny_builtin entry_proto_collect' (show wpAny _ _ (do again (.builtin "list.__iadd__" ⟨[<- newList [],.ref S],[]⟩)) _ _ s from ?_)))
 refine wpAny_bind (wpAny_newList (wpAny_pure ⟨Code.quiet_builtin _ (by decide +kernel),codeAny_builtin entry_list_iadd' ?_⟩))
 show wpAny _ _ (Builtin.List.listExtendWith (.ref s.heap.objs.size) (.ref S) (.ref s.heap.objs.size)) _ _ { s with heap:=s.heap.push (seqObj "list" #[] 0) }
 have ho1:(s.heap.push (seqObj "list" #[] 0)).get? S=some o:=Heap.get?_push_of_some _ ho
 have hT1:Shared.TypeIs { s with heap:=s.heap.push (seqObj "list" #[] 0) } (.ref S) "set":=⟨o,ho1,hex.1⟩
 unfold Builtin.List.listExtendWith
 refine wpAny_bind (wpAny_typeOf hT1 ?_)
 have q1:Builtin.List.listSameRef (.ref s.heap.objs.size) (.ref S)=false:=by simp[Builtin.List.listSameRef,Nat.ne_of_gt hlt]
 have q2:(Value.type "set"==Value.type "list")=false:=by decide
 have q3:(Value.type "set"==Value.type "tuple")=false:=by decide
 simp only[q1,q2,q3,Bool.or_false,Bool.false_eq_true,if_false]
 refine wpAny_bind (tG ⟨o,ho1,hex,hd⟩ hf hpl ?_)
 have hT2:Shared.TypeIs { s with heap:=(s.heap.push (seqObj "list" #[] 0)).push { cls:=.type "set_iterator",data:=.fields #[.int 0 0,.int 0 0,.ref S,.int es.size 0,.int ep 0] } } (.ref S) "set":=⟨o,Heap.get?_push_of_some _ ho1,hex.1⟩
 refine wpAny_bind (wpAny_holding (yG hT2 ?_))
 rw[if_pos (by decide +kernel)]
 refine wpAny_bind (wpAny_rule ?_)
 have hS0:((s.heap.push (seqObj "list" #[] 0)).push { cls:=.type "set_iterator",data:=.fields #[.int 0 0,.int 0 0,.ref S,.int es.size 0,.int ep 0] }).get? s.heap.objs.size=some (seqObj "list" #[] 0):=Heap.get?_push_of_some _ (Heap.get?_push_size _ rfl)
 refine wpAny_bind (show wpAny _ _ (updateSeq s.heap.objs.size (·.push .none) >>= fun _=>updateSeq s.heap.objs.size (·.pop)) _ _ _ from ?_)
 refine wpAny_bind (wpAny_updateSeq hS0 rfl ?_)
 have hS1:=Heap.get?_update_self (Obj.mapSeq (·.push Value.none)) hS0 rfl
 refine wpAny_updateSeq (hz:=by seq_fits) hS1 rfl ?_
 have hS2:=Heap.get?_update_self (Obj.mapSeq (·.pop)) hS1 rfl
 generalize hH:(((s.heap.push (seqObj "list" #[] 0)).push { cls:=.type "set_iterator",data:=.fields #[.int 0 0,.int 0 0,.ref S,.int es.size 0,.int ep 0] }).update s.heap.objs.size (Obj.mapSeq (·.push Value.none))).update s.heap.objs.size (Obj.mapSeq (·.pop))=H2 at *
 have oth:∀ b o,b≠s.heap.objs.size->((s.heap.push (seqObj "list" #[] 0)).push { cls:=.type "set_iterator",data:=.fields #[.int 0 0,.int 0 0,.ref S,.int es.size 0,.int ep 0] }).get? b=some o->H2.get? b=some o:=fun b o hb e=>by
  rw[<- hH];exact(Heap.get?_update_other _ _ (Ne.symm hb)).trans ((Heap.get?_update_other _ _ (Ne.symm hb)).trans e)
 have old:∀ b o,s.heap.get? b=some o->H2.get? b=some o:=fun b o e=>oth b o (Nat.ne_of_lt (Heap.lt_size e)) (Heap.get?_push_of_some _ (Heap.get?_push_of_some _ e))
 have hsz1:(s.heap.push (seqObj "list" #[] 0)).objs.size=s.heap.objs.size+1:=size_push' _ _
 have hit:H2.get? (s.heap.objs.size+1)=some { cls:=.type "set_iterator",data:=.fields #[.int 0 0,.int 0 0,.ref S,.int es.size 0,.int ep 0] }:=oth _ _ (by omega) (by rw[<- hsz1];exact Heap.get?_push_size _ rfl)
 refine wpAny_pure ⟨plainId_quiet PySem.F.plain_extend_loop _,?_⟩
 show codeAny _ _ (.builtin "list.extend.loop" ⟨[.ref s.heap.objs.size,.ref (s.heap.push (seqObj "list" #[] 0)).objs.size,.ref s.heap.objs.size],[]⟩) _ _
 rw[hsz1]
 have W:Walks prog w A.in1 (s.heap.objs.size+1) [s.heap.objs.size+1,S] [s.heap.objs.size+1] es.size (fun i v=>((f9 w S ep es)[i]?).map (·.2)=some v) (fun i h=>SetIt h (s.heap.objs.size+1) S (b_ w t i) i es.size ep/\ja h S es ep t):=mH (Nat.ne_of_lt (Nat.lt_succ_of_lt hlt)) (by simp[hh]) T hs hpl hle
 refine codeAny_extend_loopS W.toS (by rw[sizeLine_eq];omega) s.heap.objs.size (by simp only[List.mem_cons,List.not_mem_nil,or_false,not_or];exact⟨Nat.ne_of_lt (Nat.lt_succ_self _),Nat.ne_of_gt hlt⟩) _ es.size 0 _ #[] _ rfl (Nat.zero_le _) ⟨⟨_,hit,rfl,rfl⟩,o,old S o ho,hex,hd⟩ (by rw[hS2];rfl) (ItemsOf.nil _) fun s' acc c hm hS' hacc=>?_
 obtain⟨h',g',d',tk',os'⟩:=s'
 have eg:g'=s.gens:=hm.gens
 have ed:d'=s.drawn:=hm.drawn
 have eo:os'=s.os:=hm.os
 subst eg ed eo
 refine wpAny_bind (wpAny_load hS' ?_)
 have ea:acc.toList=(f9 w S ep es).toList.map (·.2):=by
  apply List.ext_getElem?
  intro i
  by_cases hi:i<acc.size
  ·have e1:acc.toList[i]?=some acc[i]:=by rw[Array.getElem?_toList];simp[hi]
   have e2:=hacc.2 i acc[i] (by simp[hi])
   rw[e1,List.getElem?_map,Array.getElem?_toList];exact e2.symm
  ·rw[List.getElem?_eq_none (by simpa using Nat.le_of_not_lt hi),List.getElem?_eq_none]
   rw[List.length_map,Array.length_toList,ij,<- hacc.1];exact Nat.le_of_not_lt hi
 show wpAny _ _ (pure acc.toList) _ _ _
 rw[ea]
 refine wpAny_pure (h h' tk' (Heap.lt_size hS') fun b o e=>hm.heap b o ?_ (old b o e))
 have:=Heap.lt_size e
 simp only[List.mem_cons,List.not_mem_nil,or_false,not_or]
 exact⟨Nat.ne_of_lt this,Nat.ne_of_lt (Nat.lt_succ_of_lt this)⟩
end
end L2
namespace L2
open PySem PySem.Spec PySem.Calls PyProof.Rows ST
def lexB:List Int->List Int->Bool
 | [],[]=>false
 | [],_::_=>true
 |_::_,[]=>false
 |a::x,b::y=>if a=b then lexB x y else decide (a<b)
theorem gx:∀ a:List Int,lexB a a=false
 | []=>rfl
 |a::x=>by unfold lexB;rw[if_pos rfl];exact gx x
theorem om:∀ a b c:List Int,lexB a b=true->lexB b c=true->lexB a c=true
 | [],[],_,h,_=>by cases h
 | [],_::_,[],_,h=>by cases h
 | [],_::_,_::_,_,_=>rfl
 |_::_,[],_,h,_=>by cases h
 |_::_,_::_,[],_,h=>by cases h
 |a::x,b::y,c::z,h1,h2=>by
  unfold lexB at h1 h2 ⊢
  by_cases e1:a=b
  ·subst e1
   rw[if_pos rfl]at h1
   by_cases e2:a=c
   ·subst e2;rw[if_pos rfl]at h2 ⊢;exact om x y z h1 h2
   ·rw[if_neg e2]at h2 ⊢;exact h2
  ·rw[if_neg e1]at h1
   have h1:a<b:=by simpa using h1
   by_cases e2:b=c
   ·subst e2;rw[if_neg e1];simpa using h1
   ·rw[if_neg e2]at h2
    have h2:b<c:=by simpa using h2
    rw[if_neg (by omega)]
    simp;omega
theorem oo:∀ a b:List Int,a≠b->lexB a b=true\/lexB b a=true
 | [],[],h=>(h rfl).elim
 | [],_::_,_=>.inl rfl
 |_::_,[],_=>.inr rfl
 |a::x,b::y,h=>by
  unfold lexB
  by_cases e:a=b
  ·subst e
   rw[if_pos rfl,if_pos rfl]
   exact oo x y fun z=>h (by rw[z])
  ·rw[if_neg e,if_neg (Ne.symm e)]
   rcases Int.lt_or_gt_of_ne e with z|z
   ·exact .inl (by simpa using z)
   ·exact .inr (by simpa using z)
section
variable {prog:Program}{w:World}{A:Around}{E:Value->Shared->Prop}{s:Shared}
theorem vN {Q:Bool->Shared->Prop}:∀{a b:List Int}{xs ys:List Value}(i:Nat),ItemsAre (ao prog w) (iK a) xs->ItemsAre (ao prog w) (iK b) ys->Q (lexB a b) s->PySem.W.KatLex prog w A true (decide (xs.length<ys.length)) Q (xs.zip ys) i s
 | [],[],_,_,i,hx,hy,h=>by cases hx;cases hy;exact h
 | [],_::_,_,_,i,hx,hy,h=>by
  cases hx
  cases hy with
  |cons h1 h2=>exact PySem.W.kat_nil h
 |_::_,[],_,_,i,hx,hy,h=>by
  cases hy
  cases hx with
  |cons h1 h2=>exact PySem.W.kat_nil h
 |a::x,b::y,_,_,i,hx,hy,h=>by
  cases hx with
  | @cons _ v1 _ vs1 h1 hx'=>
   cases hy with
   | @cons _ v2 _ vs2 h2 hy'=>
    obtain⟨t1,rfl⟩:=j7 h1
    obtain⟨t2,rfl⟩:=j7 h2
    rw[List.zip_cons_cons]
    refine PySem.W.kat_cons (wpAny_eqBool_int ?_)
    unfold lexB at h
    by_cases e:a=b
    ·subst e
     rw[if_pos rfl]at h
     rw[beq_self_eq_true]
     refine PySem.W.kat_yes ?_
     have:=vN (i+1) hx' hy' h
     simpa using this
    ·rw[if_neg e]at h
     have eb:(a==b)=false:=by simpa using e
     rw[eb]
     refine PySem.W.kat_no ?_
     cases i with
     |zero=>exact oneLt_int h
     |succ i=>exact PySem.W.kat_one _ _ (lt_int h)
structure Tups (prog:Program) (w:World) (h:Heap) (xs:List TItem):Prop where
 is:∀ x∈xs,(tK prog w).is h (iK x.1) x.2
 ne:∀ x∈xs,x.1≠[]
 nd:(xs.map (·.1)).Nodup
def valsT (xs:List TItem):List Value:=xs.map fun x=>Value.ref x.2
def ce (xs:List TItem)(i:Nat):List Int:=((xs[i]?).map (·.1)).getD []
theorem BD {xs:List TItem}(t:Tups prog w s.heap xs):Lt xs.length fun i j=>lexB (ce xs i) (ce xs j) where
 irr:=fun i=>gx _
 tr:=fun i j k=>om _ _ _
 tot:=fun i j hi hj e=>oo _ _ fun z=>by
  have gi:ce xs i=(xs.map (·.1))[i]'(by simpa using hi):=by simp[ce,hi]
  have gj:ce xs j=(xs.map (·.1))[j]'(by simpa using hj):=by simp[ce,hj]
  rw[gi,gj]at z
  rcases Nat.lt_or_gt_of_ne e with q|q
  ·exact List.pairwise_iff_getElem.mp t.nd i j (by simpa using hi) (by simpa using hj) q z
  ·exact List.pairwise_iff_getElem.mp t.nd j i (by simpa using hj) (by simpa using hi) q z.symm
theorem yH {xs:List TItem}(t:Tups prog w s.heap xs):CV xs.length (fun i j=>lexB (ce xs i) (ce xs j)) (PySem.W.kas_ask prog w A (tuples' true) (valsT xs)) s:=by
 intro i j C hi hj h
 have one:∀ k,k<xs.length->∃ x,(valsT xs).getD k Value.none=.ref x.2/\ce xs k=x.1/\x∈xs:=fun k hk=>⟨xs[k],by simp[valsT,hk],by simp[ce,hk],List.getElem_mem hk⟩
 obtain⟨x,ex,kx,mx⟩:=one i hi
 obtain⟨y,ey,ky,my⟩:=one j hj
 unfold PySem.W.kas_ask
 rw[ex,ey]
 obtain⟨ox,ix,nx,hx,cx,dx,lx⟩:=t.is x mx
 obtain⟨oy,iy,ny,hy,cy,dy,ly⟩:=t.is y my
 refine PySem.W.kat_lt hx dx hy dy ?_
 have h:C (lexB (ce xs i) (ce xs j)) s:=h
 rw[kx,ky]at h
 have:=vN (A:=A) 0 lx ly h
 simpa using this
theorem q5 {h:Heap}:∀{xs:List TItem},(∀ x∈xs,(tK prog w).is h (iK x.1) x.2)->(∀ x∈xs,x.1≠[])->∃ fs:List Value,PySem.W.KatTups h (valsT xs) fs/\fs.length=xs.length/\∀ v∈fs,∃ i t,v=Value.int i t
 | [],_,_=>⟨[],trivial,rfl,fun v hv=>nomatch hv⟩
 |x::xs,h1,h2=>by
  obtain⟨fs,a,b,c⟩:=q5 (fun y hy=>h1 y (List.mem_cons_of_mem _ hy)) fun y hy=>h2 y (List.mem_cons_of_mem _ hy)
  obtain⟨ox,ix,nx,hx,cx,dx,lx⟩:=h1 x List.mem_cons_self
  have hne:=h2 x List.mem_cons_self
  obtain⟨k,b'⟩:=x
  dsimp only at hne lx hx
  cases k with
  |nil=>exact(hne rfl).elim
  |cons n ns=>
   generalize hl:ix.toList=l at lx
   cases lx with
   | @cons _ v _ vs q1 q2=>
    obtain⟨t,rfl⟩:=j7 q1
    refine⟨.int n t::fs,⟨⟨b',ox,ix,nx,rfl,hx,cx,dx,?_⟩,a⟩,by simp[b],fun v hv=>?_⟩
    ·rw[<- Array.getElem?_toList,hl];rfl
    ·rcases List.mem_cons.mp hv with rfl|hv
     ·exact⟨n,t,rfl⟩
     ·exact c v hv
theorem w8 {xs:List TItem}{Q:SortKind->Shared->Prop}(t:Tups prog w s.heap xs)(hne:0<xs.length)(h:Q (tuples' true) s):wpAny (model prog w) A (keyKind' (valsT xs).toArray) Q E s:=by
 obtain⟨fs,a,b,c⟩:=q5 t.is t.ne
 refine PySem.W.kat_kind (T:=.type "int") a (by omega) (fun v hv=>?_) (by decide) ?_
 ·obtain⟨i,t,rfl⟩:=c v hv
  exact fun A Q E s k q=>wpAny_pure q
 ·have:(Value.type "int" != Value.type "tuple")=true:=by decide
  rw[this];exact h
end
end L2
namespace L2
open PySem PySem.Spec PySem.Calls PyProof.Rows ST
def dq (xs:List TItem)(i:Nat):TItem:=(xs[i]?).getD ([],0)
theorem q_:∀(xs:List TItem),(List.range xs.length).map (dq xs)=xs:=by
 intro xs
 apply List.ext_getElem?
 intro i
 rw[List.getElem?_map]
 by_cases h:i<xs.length
 ·rw[List.getElem?_range h,List.getElem?_eq_getElem h];simp[dq,h]
 ·rw[List.getElem?_eq_none (by simpa using h),List.getElem?_eq_none (by simpa using h)];rfl
theorem re (xs:List TItem)(i:Nat):ce xs i=(dq xs i).1:=by
 unfold ce dq
 cases xs[i]?<;>rfl
section
variable {prog:Program}{w:World}{A:Around}{E:Value->Shared->Prop}{s:Shared}
theorem Tups.off {h h':Heap} {xs:List TItem} {a:Addr} {o:Obj} (t:Tups prog w h xs) (ho:h.get? a=some o) (hc:o.cls=.type "list") (k:∀ b o,b≠a->h.get? b=some o->h'.get? b=some o):Tups prog w h' xs:=by
 refine⟨fun x hx=>?_,t.ne,t.nd⟩
 obtain⟨ox,ix,nx,h1,c1,r⟩:=t.is x hx
 refine⟨ox,ix,nx,k x.2 ox (fun e=>?_) h1,c1,r⟩
 rw[e,ho]at h1
 cases h1
 rw[hc]at c1
 exact absurd c1 (by decide)
theorem tH {N:Nat}{xs:List TItem}{p:Array Nat}(hN:N=xs.length)(pm:Pm N p):(p.toList.map (dq xs)).Perm xs:=by
 subst hN
 have:=List.Perm.map (dq xs) pm
 rw[q_]at this
 exact this
theorem yI {xs:List TItem}{p:Array Nat}(pm:Pm xs.length p)(so:So (fun i j=>lexB (ce xs i) (ce xs j)) p xs.length):(p.toList.map (dq xs)).Pairwise fun x y=>lexB x.1 y.1=true:=by
 rw[List.pairwise_map,List.pairwise_iff_getElem]
 intro i j hi hj hij
 have hi':i<p.size:=by simpa using hi
 have hj':j<p.size:=by simpa using hj
 have:=so i j hij (by rw[<- pm.size];exact hj')
 dsimp only at this
 rw[re,re]at this
 have ei:bK p i=p.toList[i]:=by simp[bK,Array.getD,hi']
 have ej:bK p j=p.toList[j]:=by simp[bK,Array.getD,hj']
 rw[ei,ej]at this
 exact this
theorem tI {xs:List TItem}{p:Array Nat}(pm:Pm xs.length p):(p.toList.map fun i=>(valsT xs).getD i Value.none)=valsT (p.toList.map (dq xs)):=by
 unfold valsT
 rw[List.map_map]
 refine List.map_congr_left fun i hi=>?_
 have hi:i<xs.length:=List.mem_range.mp (pm.mem_iff.mp hi)
 simp[dq,hi]
theorem w_ {a:Addr} {n:Nat} {xs:List TItem} {P:PySem.Fin->Shared->Prop} (ho:s.heap.get? a=some (seqObj "list" (valsT xs).toArray n)) (t:Tups prog w s.heap xs) (h64:xs.length<64)
 (h:∀ ys h' c,ys.Perm xs->ys.Pairwise (fun x y=>lexB x.1 y.1=true)->h'.get? a=some (seqObj "list" (valsT ys).toArray c)->(∀ b o,b≠a->s.heap.get? b=some o->h'.get? b=some o)->P (.done (.ret .none)) { s with heap:=h' }) :
 wpAny (model prog w) A (Builtin.«list.sort» ⟨[.ref a],[]⟩) P E s:=by
 have ha:a<s.heap.objs.size:=Heap.lt_size ho
 have hvl:(valsT xs).length=xs.length:=by simp[valsT]
 rw[list_sort_plain]
 refine wpAny_bind (listItems_at ho rfl (wpAny_bind (listUpdate_at ho rfl ?_ (by rw[List.size_toArray,hvl,sizeLine_eq];omega) (Nat.zero_le _))))
 obtain⟨e1,ho1⟩ : ∃ e1,(s.heap.update a (Obj.mapSeq fun _=>#[])).get? a=some (seqObj "list" #[] e1):=⟨_,get?_update_seq ho (fun _=>#[])⟩
 refine wpAny_bind (seqEpoch_at ho1 rfl (wpAny_bind (wpAny_newTuple (wpAny_bind (wpAny_newList (wpAny_holding ?_) (Nat.zero_le _))) (by show(valsT xs).length<=_;rw[hvl,sizeLine_eq];omega))))
 have lt1:a<(s.heap.update a (Obj.mapSeq fun _=>(#[]:Array Value))).objs.size:=Heap.lt_size ho1
 have oth:∀ b o,b≠a->s.heap.get? b=some o->(((s.heap.update a (Obj.mapSeq fun _=>(#[]:Array Value))).push (seqObj "tuple" (valsT xs).toArray 0)).push (seqObj "list" #[] 0)).get? b=some o:=fun b o hb e=>
  Heap.get?_push_of_some _ (Heap.get?_push_of_some _ ((Heap.get?_update_other _ _ (Ne.symm hb)).trans e))
 have ho6:(((s.heap.update a (Obj.mapSeq fun _=>(#[]:Array Value))).push (seqObj "tuple" (valsT xs).toArray 0)).push (seqObj "list" #[] 0)).get? a=some (seqObj "list" #[] e1):=Heap.get?_push_of_some _ (Heap.get?_push_of_some _ ho1)
 show wpAny (model prog w) A _ P E { s with heap:=((s.heap.update a (Obj.mapSeq fun _=>(#[]:Array Value))).push (seqObj "tuple" (valsT xs).toArray 0)).push (seqObj "list" #[] 0) }
 generalize (((s.heap.update a (Obj.mapSeq fun _=>(#[]:Array Value))).push (seqObj "tuple" (valsT xs).toArray 0)).push (seqObj "list" #[] 0))=H6 at ho6 oth
 dsimp only
 have fin:∀(ys:List TItem)(out:Array Value),ys.Perm xs->ys.Pairwise (fun x y=>lexB x.1 y.1=true)->out=(valsT ys).toArray->P (.done (.ret .none)) { s with heap:=H6.update a (Obj.mapSeq fun _=>out) }:=fun ys out hp hw ho=>by
  subst ho
  exact h ys _ _ hp hw (get?_update_seq ho6 fun _=>(valsT ys).toArray) fun b o hb e=>(Heap.get?_update_other _ _ (Ne.symm hb)).trans (oth b o hb e)
 by_cases h2:(valsT xs).toArray.size<2
 ·rw[if_pos h2,if_pos h2]
  refine wpAny_bind (wpAny_pure ?_)
  rw[StateT.run_pure]
  have hx2:xs.length<2:=by rw[List.size_toArray,hvl]at h2;exact h2
  have hout:Array.map (fun x:Keyed=>x.2) ((valsT xs).toArray.zip (valsT xs).toArray)=(valsT xs).toArray:=by
   apply Array.ext'
   simp[List.map_snd_zip]
  refine wpAny_bind (wpAny_pure ?_)
  dsimp only
  refine wpAny_bind (seqEpoch_at ho6 rfl (wpAny_bind (listUpdate_at ho6 rfl ?_ (Nat.zero_le _) ?_)))
  ·simp only[bne_self_eq_false,Bool.false_eq_true,if_false]
   refine wpAny_pure (fin xs _ (List.Perm.refl _) ?_ hout)
   match xs,hx2 with
   | [],_=>exact List.Pairwise.nil
   | [x],_=>exact List.pairwise_singleton _ _
  ·show(Array.map (fun x:Keyed=>x.2) ((valsT xs).toArray.zip (valsT xs).toArray)).size<=_
   rw[hout,List.size_toArray,hvl,sizeLine_eq];omega
 ·rw[if_neg h2,if_neg h2]
  have hx2:2<=xs.length:=by rw[List.size_toArray,hvl]at h2;omega
  have t6:Tups prog w H6 xs:=t.off ho rfl oth
  refine wpAny_bind (w8 (s:={ s with heap:=H6 }) t6 (by omega) ?_)
  refine wpAny_bind (wpAny_mono (PySem.W.kat_run (s:={ s with heap:=H6 }) (Q:=fun st' s'=>s'={ s with heap:=H6 }/\∃ p:Array Nat,Pm xs.length p/\So (fun i j=>lexB (ce xs i) (ce xs j)) p xs.length/\arrOf st'=p.map (PySem.W.kas_item ((valsT xs).toArray.zip (valsT xs).toArray))/\failedOf st'=none)
   (G:=fun p s'=>s'={ s with heap:=H6 }/\Pm xs.length p/\So (fun i j=>lexB (ce xs i) (ce xs j)) p xs.length) rfl (by omega) (by omega) (fun p st' s' _ a2 a3 g=>⟨g.1,p,g.2.1,g.2.2,a2,a3⟩) ?_) ?_ fun _ _ e=>e)
  ·rw[hvl]
   exact BB (BD (s:={ s with heap:=H6 }) t6) (yH (s:={ s with heap:=H6 }) t6) hx2 fun p pm so=>⟨rfl,pm,so⟩
  ·rintro⟨⟨⟩,st'⟩ s' ⟨rfl,p,pm,so,har,hf⟩
   dsimp only
   have hout:(arrOf st').map (·.2)=(valsT (p.toList.map (dq xs))).toArray:=by
    rw[PySem.W.kat_snds rfl har,tI pm]
   rw[hout]
   refine wpAny_bind (seqEpoch_at ho6 rfl (wpAny_bind (listUpdate_at ho6 rfl ?_ (Nat.zero_le _) ?_)))
   ·rw[hf]
    simp only[bne_self_eq_false,Bool.false_eq_true,if_false]
    exact wpAny_pure (fin _ _ (tH rfl pm) (yI pm so) rfl)
   ·show(valsT (p.toList.map (dq xs))).toArray.size<=_
    have:=pm.size
    simp[valsT,this]
    rw[sizeLine_eq];omega
end
end L2
namespace L2
open PySem PySem.Spec PySem.Calls PyProof.Rows ST
section
variable {prog:Program}{w:World}{A:Around}{E:Value->Shared->Prop}{s:Shared}
theorem rf {its:List TItem}:∀(l:List (Int×Value)),(∀ e∈l,∃ x∈its,e=((tK prog w).hash (iK x.1),Value.ref x.2))->∃ zs:List TItem,l=zs.map (fun x=>((tK prog w).hash (iK x.1),Value.ref x.2))/\∀ z∈zs,z∈its
 | [],_=>⟨[],rfl,fun z hz=>nomatch hz⟩
 |e::l,h=>by
  obtain⟨x,hx,rfl⟩:=h e List.mem_cons_self
  obtain⟨zs,h1,h2⟩:=rf l fun e he=>h e (List.mem_cons_of_mem _ he)
  exact⟨x::zs,by rw[h1];rfl,fun z hz=>by
   rcases List.mem_cons.mp hz with rfl|hz
   ·exact hx
   ·exact h2 z hz⟩
structure SortedOf (its ys:List TItem):Prop where
 sub:∀ y∈ys,y∈its
 all:∀ x∈its,∃ y∈ys,y.1=x.1
 pw:ys.Pairwise fun x y=>lexB x.1 y.1=true
theorem oq {S:Addr}{es:Array (Int×Value)}{its:List TItem}{Q:Value->Shared->Prop}(sa:SetAt w s.heap S es)(v:SInv prog w es its)(his:∀ x∈its,(tK prog w).is s.heap (iK x.1) x.2)(hne:∀ x∈its,x.1≠[])(hh:A.handled=none)(hz:es.size<=63)
 (h:∀ ys h' tk l c,SortedOf its ys->s.heap.objs.size<=l->h'.get? l=some (seqObj "list" (valsT ys).toArray c)->(∀ b o,s.heap.get? b=some o->h'.get? b=some o)->Q (.ref l) { s with heap:=h',toks:=tk }) :
 wpAny (model prog w) A (call (.builtin "sorted") [.ref S]) Q E s:=by
 obtain⟨o,ep,t,ho,hex,hd,T,sp,hpl,hle⟩:=sa
 have pe:=qZ w S ep es
 obtain⟨zs,ez,zm⟩:=rf (prog:=prog) (w:=w) (its:=its) (f9 w S ep es).toList fun e he=>v.el e (pe.mem_iff.mp he)
 have ev:(f9 w S ep es).toList.map (·.2)=valsT zs:=by rw[ez,List.map_map];rfl
 have hzl:zs.length=es.size:=by
  have:=congrArg List.length ez
  rw[List.length_map,Array.length_toList,ij]at this
  exact this.symm
 have nd:(zs.map (·.1)).Nodup:=by
  have pw:=(pe.pairwise_iff (fun{x y} hxy a b e1 e2 m1 m2 z=>hxy b a e2 e1 m2 m1 z.symm)).mpr v.pw
  rw[ez,List.pairwise_map]at pw
  unfold List.Nodup
  rw[List.pairwise_map]
  exact List.Pairwise.imp_of_mem (fun{a b} ha hb hab=>hab a b rfl rfl (zm a ha) (zm b hb)) pw
 refine Calls.call_function_entry kind_sorted plain_sorted entry_sorted (args_sorted1 _) ?_
 unfold Builtin.«sorted»
 refine wpAny_bind (m:=checkCount "sorted" 1 1 _) (wpAny_pure (wpAny_bind (q4 ⟨o,ho,hex,hd⟩ T (ig sp) hpl hle (by simp[hh]) hz fun h1 tk1 g1 k1=>?_)))
 rw[ev]
 refine wpAny_bind (wpAny_newList ?_ (by show(valsT zs).length<=_;simp only[valsT,List.length_map];rw[hzl,sizeLine_eq];omega))
 have hoL:(h1.push (seqObj "list" (valsT zs).toArray 0)).get? h1.objs.size=some (seqObj "list" (valsT zs).toArray 0):=Heap.get?_push_size _ rfl
 have kk:∀ b o,s.heap.get? b=some o->(h1.push (seqObj "list" (valsT zs).toArray 0)).get? b=some o:=fun b o e=>Heap.get?_push_of_some _ (k1 b o e)
 have ge:s.heap.objs.size<=h1.objs.size:=Nat.le_of_lt g1
 have t1:Tups prog w (h1.push (seqObj "list" (valsT zs).toArray 0)) zs:=⟨fun x hx=>fw (his x (zm x hx)) kk,fun x hx=>hne x (zm x hx),nd⟩
 refine wpAny_bind (wpAny_holding (wpAny_call_entry slot_list_sort ⟨_,hoL,rfl⟩ entry_list_sort ?body (args_list_sort _)))
 case body=>
  refine w_ (s:={ s with heap:=h1.push (seqObj "list" (valsT zs).toArray 0),toks:=tk1 }) hoL t1 (by omega) fun ys h2 c2 hp hw hl2 k2=>⟨_,rfl,?_⟩
  refine wpAny_pure ⟨_,rfl,h ys h2 tk1 _ c2 ⟨fun y hy=>zm y (hp.mem_iff.mp hy),fun x hx=>?_,hw⟩ ge hl2 fun b o e=>k2 b o (fun z=>?_) (kk b o e)⟩
  ·obtain⟨y,y1,y2,y3⟩:=v.all x hx
   have y4:((tK prog w).hash (iK y.1),Value.ref y.2)∈zs.map (fun x=>((tK prog w).hash (iK x.1),Value.ref x.2)):=by rw[<- ez];exact pe.mem_iff.mpr y3
   obtain⟨z,z1,z2⟩:=List.mem_map.mp y4
   have z3:z.2=y.2:=by simp only[Prod.mk.injEq,Value.ref.injEq]at z2;exact z2.2
   refine⟨z,hp.mem_iff.mpr z1,?_⟩
   have:=(tK prog w).inj (his z (zm z z1)) (by rw[z3];exact his y y1)
   rw[tz this,y2]
  ·subst z
   exact absurd (Heap.lt_size e) (Nat.not_lt.mpr ge)
end
end L2
namespace L2
open PySem PySem.Spec PySem.Calls PyProof.Rows ST
def TupsIn (H:Hp):List V->List TItem->Prop:=Paired fun v x=>v=.ref x.2/\H x.2=some (.tup ((iK x.1).map kV))
theorem TupsIn.get {H:Hp}:∀{vs:List V}{us:List Value}{its:List TItem},TupsIn H vs its->Vals vs us->its.length=us.length/\(∀(i:Nat)(v:Value),us[i]?=some v->∃ x:TItem,its[i]?=some x/\v=.ref x.2)/\∀ x∈its,H x.2=some (.tup ((iK x.1).map kV))
 |_,_,_,.nil,.nil=>⟨rfl,fun i v e=>by simp at e,fun x hx=>nomatch hx⟩
 |_,_,_,.cons (a:=v) (b:=y) q t,.cons (b:=u) r s=>by
  obtain⟨a,b,c⟩:=TupsIn.get t s
  obtain⟨rfl,q⟩:=q
  obtain rfl:u=Value.ref y.2:=r
  refine⟨by simp[a],fun i v e=>?_,fun x hx=>?_⟩
  ·cases i with
   |zero=>simp at e;exact⟨y,rfl,e.symm⟩
   |succ i=>exact b i v (by simpa using e)
  ·rcases List.mem_cons.mp hx with rfl|hx
   ·exact q
   ·exact c x hx
section
variable {X:Cx}
theorem xa (hc:X.calm=true) (hu:X.A.units+64<cLine):CallR X (.type "set") (fun xs H Q=>∃ l vs its,xs=[.ref l]/\Rd H l (.lst vs)/\TupsIn H vs its/\vs.length<=63/\
 ∀ p es,H p=none->SInv X.prog X.w es its->Q (.ref p) (az H p (.ext fun h=>SetAt X.w h p es))):=by
 intro pins s σ H xs us Q I r h
 obtain⟨l,vs,its,rfl,hl,hp,hz,q⟩:=h
 obtain⟨u,rfl,ru⟩:=fX r
 obtain rfl:u=Value.ref l:=ru
 obtain⟨_,us,n,rv,hg⟩:=(show ObjOk X.prog X.w H s.heap l (.lst vs) from hl.ok I.hok)
 obtain⟨g1,g2,g3⟩:=hp.get rv
 refine w4 (I.ok.hd hc) hu hg (its:=its) (by rw[g1,List.size_toArray]) (by rw[List.size_toArray,<- rv.length];exact hz) (fun i v e=>g2 i v (by simpa using e)) (fun x hx=>cP I.hok (g3 x hx)) fun h' tk es hS v hk=>?_
 have hf:H s.heap.objs.size=none:=I.hok.fresh (Nat.le_refl _)
 refine⟨.ref s.heap.objs.size,_,I.laid (a:=s.heap.objs.size) (o:=.ext fun h=>SetAt X.w h s.heap.objs.size es) (t':=tk) (fun b o e=>hk b o (Heap.lt_size e) e) (Nat.le_refl _) ?_,rfl,q _ es hf v⟩
 exact⟨hS,(let ⟨o,_,_,e,_⟩:=hS;⟨o,e⟩),fun h1 h2 hs k=>SetAt.keep hs k⟩
theorem ou (hc:X.calm=true):CallR X (.builtin "sorted") (fun xs H Q=>∃ p es its,xs=[.ref p]/\H p=some (.ext fun h=>SetAt X.w h p es)/\SInv X.prog X.w es its/\(∀ x∈its,H x.2=some (.tup ((iK x.1).map kV)))/\(∀ x∈its,x.1≠[])/\its.length<=63/\
 ∀ l ys,H l=none->SortedOf its ys->Q (.ref l) (az H l (.lst (ys.map fun y=>.ref y.2)))):=by
 intro pins s σ H xs us Q I r h
 obtain⟨p,es,its,rfl,hp,v,ht,hne,hz,q⟩:=h
 obtain⟨u,rfl,ru⟩:=fX r
 obtain rfl:u=Value.ref p:=ru
 obtain⟨hS,_,_⟩:=(show ObjOk X.prog X.w H s.heap p (.ext fun h=>SetAt X.w h p es) from I.hok p _ hp)
 have hes:es.size<=63:=Nat.le_trans v.sz hz
 refine oq hS v (fun x hx=>cP I.hok (ht x hx)) hne (I.ok.hd hc) hes fun ys h' tk l c so hle hl hk=>?_
 have hf:H l=none:=I.hok.fresh hle
 have hyl:ys.length<=63:=by
  have nd:(ys.map (·.1)).Nodup:=by
   unfold List.Nodup
   rw[List.pairwise_map]
   exact so.pw.imp fun{a b} hab e=>by rw[e,gx]at hab;cases hab
  refine Nat.le_trans ?_ hz
  have:∀(a b:List (List Int)),a.Nodup->(∀ x∈a,x∈b)->a.length<=b.length:=by
   intro a
   induction a with
   |nil=>intro b _ _;exact Nat.zero_le _
   |cons x a ih=>
    intro b nd hs
    have hx:x∈b:=hs x List.mem_cons_self
    have:=ih (b.erase x) (List.nodup_cons.mp nd).2 fun y hy=>(List.mem_erase_of_ne (show y≠x from fun e=>(List.nodup_cons.mp nd).1 (by rw[<- e];exact hy))).mpr (hs y (List.mem_cons_of_mem _ hy))
    rw[List.length_erase_of_mem hx]at this
    have:0<b.length:=List.length_pos_of_mem hx
    simp only[List.length_cons];omega
  have:=this _ (its.map (·.1)) nd fun k hk=>by
   obtain⟨y,hy,rfl⟩:=List.mem_map.mp hk
   exact List.mem_map.mpr ⟨y,so.sub y hy,rfl⟩
  simpa using this
 refine⟨.ref l,_,I.laid (a:=l) (o:=.lst (ys.map fun y=>.ref y.2)) (t':=tk) hk hle ?_,rfl,q l ys hf so⟩
 refine⟨by rw[List.length_map,sizeLine_eq];omega,valsT ys,c,?_,hl⟩
 clear so hl hyl
 induction ys with
 |nil=>exact .nil
 |cons y ys ih=>exact .cons rfl ih
end
end L2
namespace L2
open PySem PySem.Spec PySem.Calls PyProof.Rows
def F1 (d:Addr)(o:Obj)(u:HO)(kvs:List (Key×V)):It:=
 ⟨fun i H=>H d=some (.frz o u)/\i<kvs.length,fun i H x H'=>∃ p k v,H p=none/\x=.ref p/\H'=az H p (.tup [kV k,v])/\kvs[i]?=some (k,v),fun i H=>H d=some (.frz o u)/\kvs.length<=i⟩
theorem KV.at {a:List (Key×V)}{b:List (Key×Value)}(r:KV a b):∀(i:Nat) p q,a[i]?=some p->b[i]?=some q->p.1=q.1/\RelV p.2 q.2:=by
 induction r with
 |nil=>intro i p q e;simp at e
 |cons hq t ih=>
  intro i p q e1 e2
  cases i with
  |zero=>simp at e1 e2;subst e1 e2;exact hq
  |succ i=>exact ih i p q (by simpa using e1) (by simpa using e2)
theorem tJ {P:Program}{w:World}{K:PySem.W.Frag}{es:List Expr}{k0:Nat}{pos:Pos}{d it:Addr}{o:Obj}{u0:HO}{kvs:List (Key×V)}{vs:List (Key×Value)}{ep:Nat}{h0:Heap}(rel:KV kvs vs)(x0:h0.DictAt (ao P w) d vs ep)(e0:h0.get? d=some o) :
 Turn P w K (.Tuple es k0 pos) (F1 d o u0 kvs) [it] it (fun i h=>∃ ok ov,IsItemIter h it d i vs.length ep ok ov) where
 mem:=by simp
 obj:=fun i h st b hb=>by
  have e:b=it:=by simpa using hb
  subst e
  obtain⟨ok,ov,e⟩:=st
  exact⟨_,e,fun v z=>by cases z⟩
 keep:=fun i h h' st k=>by
  obtain⟨ok,ov,e⟩:=st
  exact⟨ok,ov,k it (by simp) _ e⟩
 item:=by
  intro X hP hw hK hc i pins s σ H E I hf st hg
  subst hP hw hK
  obtain⟨hd,hi⟩:=hg
  obtain⟨ok,ov,st⟩:=st
  obtain⟨eo,_⟩:=(show ObjOk X.prog X.w H s.heap d (.frz o u0) from I.hok d _ hd)
  have x1:=f8 x0 e0 eo
  have fi:=hf it (by simp)
  have hiv:i<vs.length:=by rw[<- rel.length];exact hi
  have hk:kvs[i]?=some kvs[i]:=by simp[hi]
  have hv:vs[i]?=some vs[i]:=by simp[hiv]
  obtain⟨ek,rv⟩:=rel.at i _ _ hk hv
  refine wpAny_pyNext_items_item (k:=vs[i].1) (v:=vs[i].2) st x1 hv fun key h' fV hout hT hsz kp=>?_
  refine⟨_,rfl,wpAny_letOwnedTupleGo_items hout fun h'' hit'' hs''=>?_⟩
  have keep2:∀ b o,b≠it->s.heap.get? b=some o->h''.get? b=some o:=fun b o n1 q=>(hs''.2 b n1).trans (kp b o n1 q)
  have hTe:s.heap.objs.size≠it:=Nat.ne_of_gt (Heap.lt_size st)
  have hT'':h''.get? s.heap.objs.size=some { cls:=.type "tuple",data:=.seq #[key,vs[i].2] }:=(hs''.2 _ hTe).trans hT
  have I1:Inv X pins σ (az H s.heap.objs.size (.tup [kV kvs[i].1,kvs[i].2])) { s with heap:=h'' }:=by
   refine I.step (g':=s.gens) (d':=s.drawn) (ch:=[it]) (fun b hb=>?_) (fun b o _ _ hn q _=>keep2 b o (fun z=>hn (by simp[z])) q)
    (fun b o _ _ hn q _=>⟨o.slots,keep2 b o (fun z=>hn (by simp[z])) q⟩) (fun b o _ q hH=>by rw[ag (Nat.ne_of_lt (Heap.lt_size q))];exact hH)
    (fun b o hn q=>⟨o,keep2 b o (fun z=>hn (by simp[z])) q⟩) (fun b ys q=>by rw[ag (ak q (I.hok.fresh (Nat.le_refl _)))];exact q)
    (fun b o' u' q=>by rw[ag (ak q (I.hok.fresh (Nat.le_refl _)))];exact q) (fun b ps q=>⟨#[],by rw[ag (ak q (I.hok.fresh (Nat.le_refl _)))];simp[q]⟩) (fun m hm=>?_) (fun b u' q=>?_) I.bare
   ·have:b=it:=by simpa using hb
    subst this
    exact⟨fi.2.2.2.1,fi.2.1,fi.2.2.2.2.1,fi.2.2.2.2.2⟩
   ·obtain⟨o,es',ep,ho',r⟩:=hm
    exact⟨o,es',ep,keep2 _ o (Ne.symm fi.2.1) ho',r⟩
   ·by_cases hb:b=s.heap.objs.size
    ·subst hb
     rw[ai]at q;cases q
     refine⟨by show 2<=sizeLine;decide,[key,vs[i].2],.cons ?_ (.cons rv .nil),⟨_,hT'',rfl,0,rfl⟩⟩
     rw[ek];exact n_ fV
    ·rw[ag hb]at q
     refine(I.hok b u' q).stay (fun c v hc' q'=>keep2 c v ?_ q') (fun c r=>by rw[ag (ak r (I.hok.fresh (Nat.le_refl _)))];exact r) fun c ys r=>by rw[ag (ak r (I.hok.fresh (Nat.le_refl _)))];exact r
     rcases hc' with z|z
     ·rw[z];exact ak q fi.1
     ·exact ak z fi.1
  refine⟨.ref s.heap.objs.size,_,I1,rfl,⟨_,kvs[i].1,kvs[i].2,I.hok.fresh (Nat.le_refl _),rfl,rfl,hk⟩,⟨_,_,hit''⟩,fun b hb=>?_⟩
  have:b=it:=by simpa using hb
  subst this
  rw[ag (Nat.ne_of_lt (Heap.lt_size st))];exact fi.1
 done:=by
  intro X hP hw hK hc i pins s σ H E I hf st hg
  subst hP hw hK
  obtain⟨hd,hi⟩:=hg
  obtain⟨ok,ov,st⟩:=st
  obtain⟨eo,_⟩:=(show ObjOk X.prog X.w H s.heap d (.frz o u0) from I.hok d _ hd)
  have x1:=f8 x0 e0 eo
  obtain⟨f0,f1,f2,f3,f4,f5⟩:=hf it (by simp)
  have hl:=rel.length
  exact wpAny_pyNext_items_end (I.ok.hd hc) st x1 (by simp;omega) fun h' eb=>⟨rfl,I.turned (t':=s.toks) (fun b o hb e=>eb b o hb e) f0 f1 f3 f4 f5⟩
 self:=fun A i s Q E st h=>by
  obtain⟨ok,ov,st⟩:=st
  have hT:s.TypeIs (.ref it) "dict_itemiterator":=⟨_,st,rfl⟩
  refine wpAny_pyIter_slot hT F.slot_dict_itemiterator_iter (wpAny_call_entry F.slot_dict_itemiterator_iter hT (entryFor_alias (id':="dict_keyiterator.__iter__") (by kernel_rfl) rfl (by decide +kernel) (by kernel_rfl):entryFor table "dict_itemiterator.__iter__"=some Builtin.«dict_keyiterator.__iter__») ?_ (F.args_dict_itemiterator_iter_1 _))
  show wpAny _ _ (ret (.ref it)) _ _ s
  exact wpAny_pure ⟨_,rfl, "dict_itemiterator",_,hT,F.slot_dict_itemiterator_next.lookup,h⟩
section
variable {X:Cx}{es:List Expr}{k0:Nat}{fJ:Pos}
def Hh (X:Cx)(tl:TE):TI:=fun σ H R=>tl σ H fun x H1=>∃ d kvs u,x=.ref d/\(u=.dK kvs\/(u=.dT []/\kvs=[]))/\((∃ o,H1 d=some (.frz o u)/\R (F1 d o u kvs) H1)\/(H1 d=some u/\∀ o,(∀ o' v,X.H₀ d≠some (.frz o' v))->R (F1 d o u kvs) (az H1 d (.frz o u))))
theorem yJ {l:Expr} {tl:TE} {apos cpos:Pos} (hl:PE X l tl) (hbase:attributeBase l "items" X.env (eval l X.env)=eval l X.env:=by rfl) (hline:(apos.endLine==cpos.line)=true:=by rfl):PI X (.Tuple es k0 fJ) (.Call (.Attribute l "items" apos) [] [] cpos) (Hh X tl):=by
 intro pins s σ H R I h
 refine wpAny_Call_method0_late hbase hline (bS (hl pins s σ H _ I h) fun v s1 ⟨x,H1,I1,r1,q1⟩=>?_)
 obtain⟨d,kvs,u,e,hu,q⟩:=q1
 subst e
 cases r1
 have dI:dj u:=by rcases hu with rfl|⟨rfl,_⟩<;>exact True.intro
 have fin:∀(o:Obj)(H2:Hp),Inv X pins σ H2 s1->H2 d=some (.frz o u)->R (F1 d o u kvs) H2->MethodOn X.prog X.w X.A "items" cpos (.ref d) [] (fun v s1=>wpAny (model X.prog X.w) X.A (pyIter v) (GH X pins σ (.Tuple es k0 fJ) R) X.xe s1) X.xe s1:=fun o H2 I2 e2 q2=>by
  obtain⟨eo,hx⟩:=(show ObjOk X.prog X.w H2 s1.heap d (.frz o u) from I2.hok d _ e2)
  have key:(d==sysModules)=false/\∃ vs,KV kvs vs/\s1.heap.DictOf (ao X.prog X.w) d vs:=by
   rcases hu with rfl|⟨rfl,rfl⟩
   ·obtain⟨z,hd,vs,rel,dd⟩:=hx
    exact⟨hd,vs,rel,dd⟩
   ·obtain⟨hd,dd⟩:=gZ hx
    exact⟨hd,[],.nil,dd⟩
  obtain⟨hd,vs,rel,dd⟩:=key
  obtain⟨ep,da⟩:=dd.dictAt
  have hnod:∀ a,Value.ref d=.ref a->∃ ob,s1.heap.get? a=some ob/\ob.dict=none:=fun a e=>by
   cases e
   obtain⟨o',_,_,e',ex,_⟩:=dd
   exact⟨o',e',ex.2.1⟩
  refine⟨"dict", "dict.items",PySem.F.plainAttrs_dict,PySem.F.slot_dict_items,PySem.F.type_dict_items,dd.typeIs,hnod,Calls.callWith_builtin rfl (PySem.evalArgs_none ?_)⟩
  refine call_meetsIn PySem.F.slot_dict_items dd.typeIs PySem.F.entry_dict_items (PySem.F.args_dict_items_1 _) (meets_dict_items (ao X.prog X.w) d hd) ⟨⟨vs,dd⟩,?_⟩
  have I3:Inv X pins σ H2 { s1 with heap:=s1.heap.push { cls:=.type "dict_items",data:=.fields #[.ref d] } }:=I2.kept (t':=s1.toks) fun b o e=>Heap.get?_push_of_some _ e
  have e3:({ s1 with heap:=s1.heap.push { cls:=.type "dict_items",data:=.fields #[.ref d] } }:Shared).heap.get? d=some o:=Heap.get?_push_of_some _ eo
  have da3:=f8 da eo e3
  generalize hs3:({ s1 with heap:=s1.heap.push { cls:=.type "dict_items",data:=.fields #[.ref d] } }:Shared)=s3 at I3 e3 da3
  have hv:s3.heap.IsItemsView s1.heap.objs.size d:=by rw[<- hs3];exact⟨_,Heap.get?_push_size _ rfl,rfl,rfl⟩
  show wpAny _ _ (pyIter (.ref s1.heap.objs.size)) _ _ _
  refine wpAny_pyIter_items hv da3 ?_
  refine⟨s3.heap.objs.size,[s3.heap.objs.size],_,_,H2,rfl,I3.kept (t':=s3.toks) fun b o e=>Heap.get?_push_of_some _ e,tJ rel da3 e3,⟨_,_,Heap.get?_push_size _ rfl⟩,fun b hb=>?_,q2⟩
  have e:b=s3.heap.objs.size:=by simpa using hb
  subst e
  exact I3.fpOk (Nat.le_refl _) (I3.hok.fresh (Nat.le_refl _))
 rcases q with⟨o,e1,q⟩|⟨e1,q⟩
 ·exact fin o H1 I1 e1 q
 ·have hob:∃ o,s1.heap.get? d=some o:=by
   rcases hu with rfl|⟨rfl,_⟩
   ·obtain⟨_,_,_,_,o,_,_,ho,_⟩:=(show ObjOk X.prog X.w H1 s1.heap d (.dK kvs) from I1.hok d _ e1)
    exact⟨o,ho⟩
   ·obtain⟨_,_,_,_,o,_,_,ho,_⟩:=(show ObjOk X.prog X.w H1 s1.heap d (.dT []) from I1.hok d _ e1)
    exact⟨o,ho⟩
  obtain⟨o,ho⟩:=hob
  exact fin o _ (I1.frz e1 dI ho) ai (q o (I1.nofrz e1 dI))
end
end L2
namespace L2
open PySem PySem.Spec PySem.Calls PyProof.Rows
section
variable {X:Cx}
def yK:List V->Hp->VK->Prop:=fun xs H Q=>∃ d kvs u,xs=[.ref d]/\(u=.dK kvs\/(u=.dT []/\kvs=[]))/\Rd H d u/\kvs.length<=sizeLine/\∀ l,H l=none->Q (.ref l) (az H l (.lst (kvs.map fun p=>kV p.1)))
theorem oz:∀{vs:List V}{its:List Value},vs.length=its.length->(∀(i:Nat) v u,vs[i]?=some v->its[i]?=some u->RelV v u)->Vals vs its
 | [],[],_,_=>.nil
 | [],_::_,e,_=>by cases e
 |_::_,[],e,_=>by cases e
 |v::vs,u::its,e,f=>.cons (f 0 v u rfl rfl) (oz (by simpa using e) fun i w z a b=>f (i+1) w z (by simpa using a) (by simpa using b))
theorem tL (hc:X.calm=true):CallR X (.type "list") yK:=by
 intro pins s σ H xs us Q I r h
 obtain⟨d,kvs,u,rfl,hu,hrd,hz,q⟩:=h
 obtain⟨w,rfl,rx⟩:=fX r
 cases rx
 have hx:=hrd.ok I.hok
 have key:(d==sysModules)=false/\∃ vs,KV kvs vs/\s.heap.DictOf (ao X.prog X.w) d vs:=by
  rcases hu with rfl|⟨rfl,rfl⟩
  ·obtain⟨z,hd,vs,rel,dd⟩:=hx
   exact⟨hd,vs,rel,dd⟩
  ·obtain⟨hd,dd⟩:=gZ hx
   exact⟨hd,[],.nil,dd⟩
 obtain⟨hd,vs,rel,dd⟩:=key
 obtain⟨ep,da⟩:=dd.dictAt
 have hl:=rel.length
 refine PySem.W.kdl_call (PySem.W.kdl_dict (knd:=ao X.prog X.w) (kvs:=vs) (ep:=ep) hd) (I.ok.hd hc) da (by rw[<- hl];exact hz) fun h' tk acc c' kp e it=>?_
 obtain⟨i1,i2⟩:=it
 have la:acc.toList.length=kvs.length:=by rw[Array.length_toList,i1,hl]
 have rv:Vals (kvs.map fun p=>kV p.1) acc.toList:=by
  refine oz (by rw[List.length_map,la]) fun i v w ev ew=>?_
  rw[List.getElem?_map]at ev
  cases ek:kvs[i]? with
  |none=>rw[ek]at ev;cases ev
  |some p=>
   rw[ek]at ev;cases ev
   obtain⟨k,x,e1,e2⟩:=i2 i w (by rw[<- Array.getElem?_toList];exact ew)
   obtain⟨ek',_⟩:=rel.at i _ _ ek e1
   show RelV (kV p.1) w
   rw[show p.1=k from ek']
   exact n_ e2
 have e:h'.get? s.heap.objs.size=some { cls:=.type "list",dict:=none,data:=.seq acc.toList.toArray c',slots:=#[] }:=by rw[Array.toArray_toList];exact e
 exact⟨.ref s.heap.objs.size,_,I.laid (t':=tk) kp (Nat.le_refl _) (show ObjOk X.prog X.w _ h' _ (.lst (kvs.map fun p=>kV p.1)) from⟨by rw[List.length_map];exact hz,acc.toList,c',rv,e⟩),rfl,q _ (I.hok.fresh (Nat.le_refl _))⟩
def BE (ta:TA):TE:=fun σ H Q=>ta σ H fun vs H1=>∃ j:Int,vs=[.int j]/\0<=j/\j<=1000/\∀ l,H1 l=none->Q (.ref l) (az H1 l (.lst ((List.range j.toNat).map fun k=>.int (k:Nat))))
theorem xb {a:Expr} {ta:TA} {p pos p2 pos2:Pos} (hc:X.calm=true) (hgl:Gl X "list") (hml:X.mg "list"=none) (hvl:bootBuiltins "list"=some (.type "list")) (hg:Gl X "range") (hm:X.mg "range"=none) (ha:PA X [a] ta) (hs:starEach [a] X.env=[(false,eval a X.env)]:=by rfl)
 (hs2:starEach [.Call (.Name "range" p2) [a] [] pos2] X.env=[(false,eval (.Call (.Name "range" p2) [a] [] pos2) X.env)]:=by rfl):PE X (.Call (.Name "list" p) [.Call (.Name "range" p2) [a] [] pos2] [] pos) (BE ta):=by
 intro pins s σ H Q I h
 refine Call_ (fW I hgl hml hvl (PyProof.Rows.callWith_type1 ?_ hs2 rfl))
 rw[hs2]
 show wpAny _ _ (spliced ((false,eval (.Call (.Name "range" p2) [a] [] pos2) X.env)::[])) _ _ s
 refine Calls.spliced_cons (Call_ (fW I hg hm boot_range (PyProof.Rows.callWith_type1 (bS (ha pos2 pins s σ H _ I h) fun us s1 ⟨vs,H1,I1,r1,q1⟩=>?_) hs rfl)))
 obtain⟨j,e,j0,j1,q⟩:=q1
 subst e
 cases r1 with
 |cons r rr=>
  cases rr
  obtain⟨t,rfl⟩:=r
  refine call_range_1 (Calls.spliced_nil ?_)
  have I2:Inv X pins σ H1 { s1 with heap:=s1.heap.push { cls:=.type "range",data:=.fields #[.int 0 s1.toks,.int j t,.int 1 (s1.toks+1)] },toks:=s1.toks+1+1 }:=I1.kept fun b o e=>Heap.get?_push_of_some _ e
  have hr:IsRange ({ s1 with heap:=s1.heap.push { cls:=.type "range",data:=.fields #[.int 0 s1.toks,.int j t,.int 1 (s1.toks+1)] },toks:=s1.toks+1+1 }:Shared).heap s1.heap.objs.size 0 j 1 s1.toks t (s1.toks+1):=Heap.get?_push_size _ rfl
  generalize ({ s1 with heap:=s1.heap.push { cls:=.type "range",data:=.fields #[.int 0 s1.toks,.int j t,.int 1 (s1.toks+1)] },toks:=s1.toks+1+1 }:Shared)=s2 at I2 hr
  have hn:Builtin.Range.rangeSize 0 j 1=(j.toNat:Nat):=by rw[rangeSize_one];split<;>omega
  refine call_list_range (I2.ok.hd hc) hr (small_one (by omega) (by omega) (by omega) (by omega)) hn (by omega) fun h' tk acc c' kp e it=>?_
  obtain⟨i1,i2⟩:=it
  have rv:Vals ((List.range j.toNat).map fun k=>.int (k:Nat)) acc.toList:=by
   refine oz (by rw[List.length_map,List.length_range,Array.length_toList,i1]) fun i v w ev ew=>?_
   obtain⟨t',rfl⟩:=i2 i w (by rw[<- Array.getElem?_toList];exact ew)
   rw[List.getElem?_map]at ev
   have hi:i<j.toNat:=by
    have:=(List.getElem?_eq_some_iff.mp ew).1
    rw[Array.length_toList,i1]at this;exact this
   rw[List.getElem?_range hi]at ev
   cases ev
   exact⟨t',by congr 1;omega⟩
  have e:h'.get? s2.heap.objs.size=some { cls:=.type "list",dict:=none,data:=.seq acc.toList.toArray c',slots:=#[] }:=by rw[Array.toArray_toList];exact e
  exact⟨.ref s2.heap.objs.size,_,I2.laid (t':=tk) kp (Nat.le_refl _) (show ObjOk X.prog X.w _ h' _ (.lst ((List.range j.toNat).map fun k=>.int (k:Nat))) from⟨by rw[List.length_map,List.length_range,sizeLine_eq];omega,acc.toList,c',rv,e⟩),rfl,q _ (I2.hok.fresh (Nat.le_refl _))⟩
end
section
open PySem.MeetsSeq PySem.SeqAt
open PySem.AutoSeq1 (wpAny_loadPart')
theorem rh (l:Addr)(xs:Array Value)(c:Nat)(x:Value)(f:Value->Bool)(j:Nat)(hj:j<xs.size)(fj:f xs[j]=true)(hz:xs.size<=sizeLine)(fm:∀ m (hm:m<xs.size),m<j->f xs[m]=false):∀(k i:Nat),i+k=j->
 Meets (Builtin.«list.remove.loop» ⟨[.ref l,x,rawInt i],[]⟩) (fun A R s=>s.heap.get? l=some { cls:=.type "list",dict:=none,data:=.seq xs c,slots:=#[] }/\(∀ y,y∈xs->EqAt A.in1 s y x (f y))/\
  R (.ok (.ret .none)) { s with heap:=s.heap.update l (Obj.mapSeq fun ys=>ys.eraseIdxIfInBounds j) })
 |0,i,hk=>by
  intro prog w A R s ⟨hl,hf,hR⟩
  have hij:i=j:=by omega
  subst hij
  cases s with
  |mk h0 g0 d0 t0 o0=>
   wp_walk using wpAny_loadPart' hl
   have bK:xs[((i:Nat):Int).toNat]?=some xs[i]:=by simp[hj]
   rw[bK]
   refine wpAny_bind (hf _ (Array.getElem_mem hj) prog w _ _ ?_)
   rw[fj]
   have hz2:(xs.eraseIdxIfInBounds i).size<=sizeLine+1:=Nat.le_trans (size_erased xs _) (Nat.le_succ_of_le hz)
   wp_walk using (wpAny_updateSeq hl rfl (hz:=hz) (_hz':=hz2)),wpAny_loadPart' hl
   simpa using hR
 |k+1,i,hk=>by
  intro prog w A R s ⟨hl,hf,hR⟩
  have hi:i<xs.size:=by omega
  cases s with
  |mk h0 g0 d0 t0 o0=>
   wp_walk using wpAny_loadPart' hl
   have bK:xs[((i:Nat):Int).toNat]?=some xs[i]:=by simp[hi]
   have nxt:((i:Int)+1)=((i+1:Nat):Int):=by omega
   rw[bK]
   refine wpAny_bind (hf _ (Array.getElem_mem hi) prog w _ _ ?_)
   rw[fm i hi (by omega)]
   wp_walk
   rw[nxt]
   exact⟨plainId_quiet plain_remove_loop _,codeAny_builtin entry_remove_loop (by
    rw[Around.under_plainId plain_remove_loop _]
    exact rh l xs c x f j hj fj hz fm k (i+1) (by omega) prog w A R _ ⟨hl,hf,hR⟩)⟩
theorem yL (l:Addr)(xs:Array Value)(c:Nat)(x:Value)(f:Value->Bool)(j:Nat)(hj:j<xs.size)(fj:f xs[j]=true)(hz:xs.size<=sizeLine)(fm:∀ m (hm:m<xs.size),m<j->f xs[m]=false) :
 Meets (Builtin.«list.remove» ⟨[.ref l,x],[]⟩) (fun A R s=>s.heap.get? l=some { cls:=.type "list",dict:=none,data:=.seq xs c,slots:=#[] }/\(∀ y,y∈xs->EqAt A.in1 s y x (f y))/\
  R (.ok (.ret .none)) { s with heap:=s.heap.update l (Obj.mapSeq fun ys=>ys.eraseIdxIfInBounds j) }):=by
 intro prog w A R s ⟨hl,hf,hR⟩
 cases s with
 |mk h0 g0 d0 t0 o0=>
  wp_walk using wpAny_loadPart' hl
  exact⟨plainId_quiet plain_remove_loop _,codeAny_builtin entry_remove_loop (by
   rw[Around.under_plainId plain_remove_loop _]
   exact rh l xs c x f j hj fj hz fm j 0 (by omega) prog w A R _ ⟨hl,hf,hR⟩)⟩
end
def jW:List Int->Int
 | []=>0
 |x::r=>r.foldl (fun a b=>if b<a then b else a) x
theorem xc {l:List Int}(h:l≠[])(z:Int):jW (l++[z])=if z<jW l then z else jW l:=by
 cases l with
 |nil=>exact(h rfl).elim
 |cons x r=>show(r++[z]).foldl _ x=_;rw[List.foldl_append];rfl
theorem rj (xs:Array (Int×Tok)):∀ k,k<xs.size->numAt xs (argBest (fun i j=>decide (numAt xs i<numAt xs j)) k)=jW ((xs.toList.map (·.1)).take (k+1))
 |0,h=>by
  have e:xs.toList.map (·.1)≠[]:=fun z=>by
   have:=congrArg List.length z
   simp at this;rw[this]at h;simp at h
  cases q:xs.toList.map (·.1) with
  |nil=>exact(e q).elim
  |cons y r=>
   have:(xs[0]?.map (·.1))=some y:=by rw[<- Array.getElem?_toList,<- List.getElem?_map,q];rfl
   show numAt xs 0=y
   unfold numAt;rw[this];rfl
 |k+1,h=>by
  have ih:=rj xs k (by omega)
  have ez:(xs.toList.map (·.1))[k+1]?=some (numAt xs (k+1)):=by
   rw[List.getElem?_map,Array.getElem?_toList]
   unfold numAt
   rw[Array.getElem?_eq_getElem h];rfl
  have et:(xs.toList.map (·.1)).take (k+1+1)=(xs.toList.map (·.1)).take (k+1)++[numAt xs (k+1)]:=by
   rw[List.take_succ,ez];rfl
  have ne:(xs.toList.map (·.1)).take (k+1)≠[]:=fun z=>by
   have h9:=congrArg List.length z
   rw[List.length_take,List.length_map,Array.length_toList,List.length_nil]at h9
   omega
  rw[et,xc ne,<- ih]
  show numAt xs (if (decide (numAt xs (k+1)<numAt xs (argBest _ k)))=true then k+1 else argBest _ k)=_
  by_cases hl:numAt xs (k+1)<numAt xs (argBest (fun i j=>decide (numAt xs i<numAt xs j)) k)
  ·rw[if_pos (decide_eq_true hl),if_pos hl]
  ·rw[if_neg (by simpa using hl),if_neg hl]
theorem kX:∀{ns:List Int}{its:List Value},Vals (ns.map V.int) its->∃ ps:List (Int×Tok),its=ps.map (fun p=>.int p.1 p.2)/\ps.map (·.1)=ns
 | [],_,h=>by cases h;exact⟨[],rfl,rfl⟩
 |n::ns,_,h=>by
  cases h with
  |cons r rr=>
   obtain⟨t,rfl⟩:=r
   obtain⟨ps,rfl,e⟩:=kX rr
   exact⟨(n,t)::ps,rfl,by rw[List.map_cons,e]⟩
theorem xf {X:Cx} (hc:X.calm=true):CallR X (.builtin "min") (fun xs H Q=>∃ p ns,xs=[.ref p]/\SqL X.K H p (ns.map V.int)/\ns≠[]/\Q (.int (jW ns)) H):=by
 intro pins s σ H xs us Q I r h
 obtain⟨p,ns,rfl,hq,hne,q⟩:=h
 obtain⟨u,rfl,rx⟩:=fX r
 cases rx
 obtain⟨its,rv,pl,hz⟩:=I.list hq
 obtain⟨ps,rfl,e⟩:=kX rv
 have hl:s.heap.IsList p (intItems ps.toArray):=by
  have:intItems ps.toArray=(ps.map (fun p=>Value.int p.1 p.2)).toArray:=by simp[intItems]
  rw[this];exact pl.isList
 have hpos:0<ps.toArray.size:=by
  cases ps with
  |nil=>exact(hne e.symm).elim
  |cons _ _=>simp
 refine min_intList (I.ok.hd hc) hl hpos fun v h' tk ev kp=>?_
 obtain⟨t,rfl⟩:=intItems_at ev
 rw[rj ps.toArray _ (by omega)]
 have ef:(ps.toArray.toList.map (·.1)).take (ps.toArray.size-1+1)=ns:=by
  rw[List.take_of_length_le (by simp;omega)]
  simpa using e
 rw[ef]
 exact⟨.int (jW ns),H,I.kept (t':=tk) kp,⟨t,rfl⟩,q⟩
end L2
set_option autoImplicit true
namespace L3
open PySem PySem.Spec PyProof.Rows L2
abbrev DK:=Sum Key (List Key)
inductive D where
 |non|bl (b:Bool)|int (i:Int)|str (x:Str)|tup (ds:List D)|lst (ds:List D)|dic (ks:List DK) (ds:List D)
mutual
def D.flat:D->Bool
 | .lst _=>false
 | .dic _ _=>false
 | .tup ds=>D.flats ds
 |_=>true
def D.flats:List D->Bool
 | []=>true
 |d::ds=>d.flat&&D.flats ds
end
mutual
def D.dep:D->Nat
 | .lst ds=>D.deps ds+1
 | .tup ds=>D.deps ds+1
 | .dic _ ds=>D.deps ds+1000
 |_=>0
def D.deps:List D->Nat
 | []=>0
 |d::ds=>max d.dep (D.deps ds)
end
mutual
def cB:D->D->Bool
 | .non,e=>match e with|.non=>true|_=>false
 | .bl a,e=>match e with|.bl b=>a==b|.int b=>(if a then 1 else 0)==b|_=>false
 | .int a,e=>match e with|.int b=>a==b|.bl b=>a==(if b then 1 else 0)|_=>false
 | .str a,e=>match e with|.str b=>a==b|_=>false
 | .tup as,e=>match e with|.tup bs=>eqDs as bs|_=>false
 | .lst as,e=>match e with|.lst bs=>eqDs as bs|_=>false
 | .dic ks as,e=>match e with|.dic ls bs=>decide (ks=ls)&&eqDs as bs|_=>false
def eqDs:List D->List D->Bool
 | [],bs=>match bs with|[]=>true|_=>false
 |a::as,bs=>match bs with|b::r=>cB a b&&eqDs as r|[]=>false
end
mutual
theorem cp:∀ d:D,cB d d=true
 | .non=>rfl
 | .bl a=>by simp[cB]
 | .int a=>by simp[cB]
 | .str a=>by simp[cB]
 | .tup as=>by simp only[cB];exact eqDs_refl as
 | .lst as=>by simp only[cB];exact eqDs_refl as
 | .dic ks as=>by simp only[cB,decide_true,Bool.true_and];exact eqDs_refl as
theorem eqDs_refl:∀ ds:List D,eqDs ds ds=true
 | []=>rfl
 |d::ds=>by simp only[eqDs,cp d,eqDs_refl ds,Bool.and_self]
end
def DAt (H:Hp)(a:Addr)(ks:List DK)(vs:List V):Prop:=
 (∃ kvs:List (Key×V),Rd H a (.dK kvs)/\ks=kvs.map (fun p=>.inl p.1)/\vs=kvs.map Prod.snd)\/∃ kvs:List (List Key×V),Rd H a (.dT kvs)/\ks=kvs.map (fun p=>.inr p.1)/\vs=kvs.map Prod.snd
def Ed:HO->Prop
 | .lst _=>True
 | .dK _=>True
 | .dT _=>True
 |_=>False
def Mu (H:Hp)(a:Addr):Prop:=∃ o,H a=some o/\Ed o
theorem Mu.lst {H:Hp}{a:Addr}{vs:List V}(h:H a=some (.lst vs)):Mu H a:=⟨_,h,True.intro⟩
theorem Mu.same {H H':Hp}{a:Addr}(h:Mu H a)(s:∀ o,H a=some o->H' a=some o):Mu H' a:=let ⟨o,e,m⟩:=h;⟨o,s o e,m⟩
theorem Mu.some {H:Hp}{a:Addr}(h:Mu H a):H a≠none:=by obtain⟨o,e,_⟩:=h;rw[e];simp
theorem CW {H:Hp}{a:Addr}{u:HO}(h:Rd H a u):∃ o,H a=some o:=h.elim (fun e=>⟨_,e⟩) fun⟨_,e⟩=>⟨_,e⟩
theorem g_ {H H':Hp}{a:Addr}{u:HO}(h:Rd H a u)(s:∀ o,H a=some o->H' a=some o):Rd H' a u:=h.imp (s _) fun⟨o,e⟩=>⟨o,s _ e⟩
theorem DAt.obj {H:Hp}{a:Addr}{ks:List DK}{vs:List V}(h:DAt H a ks vs):∃ o,H a=some o:=h.elim (fun⟨_,e,_⟩=>CW e) fun⟨_,e,_⟩=>CW e
theorem DAt.mu {H:Hp}{a:Addr}{ks:List DK}{vs:List V}(h:DAt H a ks vs)(n:∀ o u,H a≠some (.frz o u)):Mu H a:=by
 rcases h with⟨kvs,e|⟨o,e⟩,_⟩|⟨kvs,e|⟨o,e⟩,_⟩<;>first|exact⟨_,e,True.intro⟩|exact(n _ _ e).elim
theorem DAt.keep {H H':Hp}{a:Addr}{ks:List DK}{vs:List V}(h:DAt H a ks vs)(s:∀ o,H a=some o->H' a=some o):DAt H' a ks vs:=
 h.imp (fun⟨kvs,e,r⟩=>⟨kvs,g_ e s,r⟩) fun⟨kvs,e,r⟩=>⟨kvs,g_ e s,r⟩
theorem DAt.inj {H:Hp}{a:Addr}{ks ls:List DK}{vs ws:List V}(h:DAt H a ks vs)(g:DAt H a ls ws):ks=ls/\vs=ws:=by
 rcases h with⟨k1,e1|⟨o1,e1⟩,r1,r2⟩|⟨k1,e1|⟨o1,e1⟩,r1,r2⟩<;>rcases g with⟨k2,e2|⟨o2,e2⟩,q1,q2⟩|⟨k2,e2|⟨o2,e2⟩,q1,q2⟩<;>(rw[e1]at e2;cases e2;try exact⟨r1.trans q1.symm,r2.trans q2.symm⟩)
def Hi:HO->Prop
 | .dK _=>False
 | .dT _=>False
 | .frz _ (.dK _)=>False
 | .frz _ (.dT _)=>False
 |_=>True
theorem DAt.no {H:Hp}{a:Addr}{ks:List DK}{vs:List V}{o:HO}(h:DAt H a ks vs)(e:H a=some o)(n:Hi o):False:=by
 rcases h with⟨k,z|⟨o',z⟩,_⟩|⟨k,z|⟨o',z⟩,_⟩<;>(rw[e]at z;cases z;exact n)
mutual
def Is (H:Hp)(m:Addr->Prop):D->V->Prop
 | .non,v=>v=.non
 | .bl b,v=>v=.bl b
 | .int i,v=>v=.int i
 | .str x,v=>v=.str x
 | .tup ds,v=>∃ a vs,v=.ref a/\H a=some (.tup vs)/\IsAll H m ds vs
 | .lst ds,v=>∃ a vs,v=.ref a/\((H a=some (.lst vs)/\m a)\/∃ o,H a=some (.frz o (.lst vs))/\m a)/\IsAll H m ds vs
 | .dic ks ds,v=>∃ a vs,v=.ref a/\(DAt H a ks vs/\m a)/\IsAll H m ds vs
def IsAll (H:Hp)(m:Addr->Prop):List D->List V->Prop
 | [],vs=>vs=[]
 |d::ds,vs=>∃ v r,vs=v::r/\Is H m d v/\IsAll H m ds r
end
def fixd:HO->Prop
 | .tup _=>True
 | .frz _ _=>True
 |_=>False
section
variable {H H':Hp}{m m':Addr->Prop}
mutual
theorem Is.mono (kp:∀ a o,H a=some o->(m a\/fixd o)->H' a=some o)(mm:∀ a o,H a=some o->m a->m' a):∀{d:D}{v:V},Is H m d v->Is H' m' d v
 | .non,_,h=>h
 | .bl _,_,h=>h
 | .int _,_,h=>h
 | .str _,_,h=>h
 | .tup ds,_,h=>by
  obtain⟨a,vs,e,h1,h2⟩:=h
  exact⟨a,vs,e,kp a _ h1 (.inr True.intro),IsAll.mono kp mm h2⟩
 | .lst ds,_,h=>by
  obtain⟨a,vs,e,h1,h2⟩:=h
  refine⟨a,vs,e,?_,IsAll.mono kp mm h2⟩
  rcases h1 with⟨h1,h3⟩|⟨o,h1,h3⟩
  ·exact .inl ⟨kp a _ h1 (.inl h3),mm a _ h1 h3⟩
  ·exact .inr ⟨o,kp a _ h1 (.inr True.intro),mm a _ h1 h3⟩
 | .dic ks ds,_,h=>by
  obtain⟨a,vs,e,h1,h2⟩:=h
  obtain⟨o,eo⟩:=h1.1.obj
  exact⟨a,vs,e,⟨h1.1.keep fun o e=>kp a o e (.inl h1.2),mm a o eo h1.2⟩,IsAll.mono kp mm h2⟩
theorem IsAll.mono (kp:∀ a o,H a=some o->(m a\/fixd o)->H' a=some o)(mm:∀ a o,H a=some o->m a->m' a):∀{ds:List D}{vs:List V},IsAll H m ds vs->IsAll H' m' ds vs
 | [],_,h=>h
 |d::ds,_,h=>by
  obtain⟨v,r,e,h1,h2⟩:=h
  exact⟨v,r,e,Is.mono kp mm h1,IsAll.mono kp mm h2⟩
end
theorem Is.weak (mm:∀ a,m a->m' a){d:D}{v:V}(h:Is H m d v):Is H m' d v:=h.mono (fun _ _ e _=>e) fun a _ _=>mm a
theorem IsAll.weak (mm:∀ a,m a->m' a){ds:List D}{vs:List V}(h:IsAll H m ds vs):IsAll H m' ds vs:=h.mono (fun _ _ e _=>e) fun a _ _=>mm a
theorem Is.same (s:Same H H'){d:D}{v:V}(h:Is H m d v):Is H' m d v:=h.mono (fun a o e _=>s a o e) fun _ _ _ z=>z
theorem IsAll.same (s:Same H H'){ds:List D}{vs:List V}(h:IsAll H m ds vs):IsAll H' m ds vs:=h.mono (fun a o e _=>s a o e) fun _ _ _ z=>z
mutual
theorem Is.flat:∀{d:D}{v:V},d.flat=true->Is H m d v->Is H m' d v
 | .non,_,_,h=>h
 | .bl _,_,_,h=>h
 | .int _,_,_,h=>h
 | .str _,_,_,h=>h
 | .tup ds,_,f,h=>by
  obtain⟨a,vs,e,h1,h2⟩:=h
  exact⟨a,vs,e,h1,IsAll.flat (by simpa only[D.flat] using f) h2⟩
 | .lst ds,_,f,_=>by simp[D.flat]at f
 | .dic ks ds,_,f,_=>by simp[D.flat]at f
theorem IsAll.flat:∀{ds:List D}{vs:List V},D.flats ds=true->IsAll H m ds vs->IsAll H m' ds vs
 | [],_,_,h=>h
 |d::ds,_,f,h=>by
  obtain⟨v,r,e,h1,h2⟩:=h
  simp only[D.flats,Bool.and_eq_true]at f
  exact⟨v,r,e,Is.flat f.1 h1,IsAll.flat f.2 h2⟩
end
mutual
theorem Is.inj:∀{d e:D}{v:V},Is H m d v->Is H m' e v->d=e
 | .non,e,_,h,g=>by cases e<;>first|rfl|(cases h;first|(obtain⟨_,_,z,_⟩:=g;cases z;done)|cases g)
 | .bl _,e,_,h,g=>by cases e<;>(cases h;first|(obtain⟨_,_,z,_⟩:=g;cases z;done)|(cases g;rfl)|cases g)
 | .int _,e,_,h,g=>by cases e<;>(cases h;first|(obtain⟨_,_,z,_⟩:=g;cases z;done)|(cases g;rfl)|cases g)
 | .str _,e,_,h,g=>by cases e<;>(cases h;first|(obtain⟨_,_,z,_⟩:=g;cases z;done)|(cases g;rfl)|cases g)
 | .tup ds,e,_,h,g=>by
  obtain⟨a,vs,rfl,h1,h2⟩:=h
  cases e with
  |tup es=>
   obtain⟨b,ws,z,g1,g2⟩:=g
   cases z
   rw[h1]at g1;cases g1
   rw[IsAll.inj h2 g2]
  |lst es=>
   obtain⟨b,ws,z,g1,g2⟩:=g
   cases z
   rcases g1 with⟨g1,_⟩|⟨o,g1,_⟩<;>(rw[h1]at g1;cases g1)
  |dic ls es=>
   obtain⟨b,ws,z,g1,g2⟩:=g
   cases z
   exact(g1.1.no h1 True.intro).elim
  |_=>cases g
 | .lst ds,e,_,h,g=>by
  obtain⟨a,vs,rfl,h1,h2⟩:=h
  cases e with
  |tup es=>
   obtain⟨b,ws,z,g1,g2⟩:=g
   cases z
   rcases h1 with⟨h1,_⟩|⟨o,h1,_⟩<;>(rw[h1]at g1;cases g1)
  |lst es=>
   obtain⟨b,ws,z,g1,g2⟩:=g
   cases z
   have e:vs=ws:=by
    rcases h1 with⟨h1,_⟩|⟨o,h1,_⟩<;>rcases g1 with⟨g1,_⟩|⟨o',g1,_⟩<;>(rw[h1]at g1;cases g1;try rfl)
   subst e
   rw[IsAll.inj h2 g2]
  |dic ls es=>
   obtain⟨b,ws,z,g1,g2⟩:=g
   cases z
   rcases h1 with⟨h1,_⟩|⟨o,h1,_⟩<;>exact(g1.1.no h1 True.intro).elim
  |_=>cases g
 | .dic ks ds,e,_,h,g=>by
  obtain⟨a,vs,rfl,h1,h2⟩:=h
  cases e with
  |tup es=>
   obtain⟨b,ws,z,g1,g2⟩:=g
   cases z
   exact(h1.1.no g1 True.intro).elim
  |lst es=>
   obtain⟨b,ws,z,g1,g2⟩:=g
   cases z
   rcases g1 with⟨g1,_⟩|⟨o,g1,_⟩<;>exact(h1.1.no g1 True.intro).elim
  |dic ls es=>
   obtain⟨b,ws,z,g1,g2⟩:=g
   cases z
   obtain⟨e1,e2⟩:=h1.1.inj g1.1
   subst e1 e2
   rw[IsAll.inj h2 g2]
  |_=>cases g
theorem IsAll.inj:∀{ds es:List D}{vs:List V},IsAll H m ds vs->IsAll H m' es vs->ds=es
 | [],es,_,h,g=>by
  cases h
  cases es with
  |nil=>rfl
  |cons e es=>obtain⟨_,_,z,_⟩:=g;cases z
 |d::ds,es,_,h,g=>by
  obtain⟨v,r,rfl,h1,h2⟩:=h
  cases es with
  |nil=>cases g
  |cons e es=>
   obtain⟨w,q,z,g1,g2⟩:=g
   cases z
   rw[Is.inj h1 g1,IsAll.inj h2 g2]
end
theorem IsAll.length:∀{ds:List D}{vs:List V},IsAll H m ds vs->vs.length=ds.length
 | [],_,h=>by cases h;rfl
 |d::ds,_,h=>by
  obtain⟨v,r,rfl,_,h2⟩:=h
  simp[IsAll.length h2]
theorem IsAll.append:∀{ds es:List D}{vs ws:List V},IsAll H m ds vs->IsAll H m es ws->IsAll H m (ds++es) (vs++ws)
 | [],_,_,_,h,g=>by cases h;exact g
 |d::ds,_,_,_,h,g=>by
  obtain⟨v,r,rfl,h1,h2⟩:=h
  exact⟨v,r++_,rfl,h1,IsAll.append h2 g⟩
theorem IsAll.snoc {ds:List D}{d:D}{vs:List V}{v:V}(h:IsAll H m ds vs)(g:Is H m d v):IsAll H m (ds++[d]) (vs++[v]):=h.append ⟨v,[],rfl,g,rfl⟩
theorem IsAll.get:∀{ds:List D}{vs:List V}{i:Nat}{d:D},IsAll H m ds vs->ds[i]?=some d->∃ v,vs[i]?=some v/\Is H m d v
 | [],_,_,_,_,e=>by simp at e
 |d::ds,_,0,_,h,e=>by
  obtain⟨v,r,rfl,h1,h2⟩:=h
  simp at e;subst e
  exact⟨v,rfl,h1⟩
 |d::ds,_,i+1,_,h,e=>by
  obtain⟨v,r,rfl,h1,h2⟩:=h
  obtain⟨w,a,b⟩:=IsAll.get (i:=i) h2 (by simpa using e)
  exact⟨w,by simpa using a,b⟩
theorem IsAll.set:∀{ds:List D}{vs:List V}{d:D}{v:V}(i:Nat),IsAll H m ds vs->Is H m d v->IsAll H m (ds.set i d) (vs.set i v)
 | [],_,_,_,_,h,_=>by cases h;exact rfl
 |x::ds,_,d,v,0,h,g=>by
  obtain⟨w,r,rfl,h1,h2⟩:=h
  exact⟨v,r,rfl,g,h2⟩
 |x::ds,_,d,v,i+1,h,g=>by
  obtain⟨w,r,rfl,h1,h2⟩:=h
  exact⟨w,r.set i v,rfl,h1,IsAll.set i h2 g⟩
theorem IsAll.take:∀{ds:List D}{vs:List V}(n:Nat),IsAll H m ds vs->IsAll H m (ds.take n) (vs.take n)
 |_,_,0,_=>rfl
 | [],_,n+1,h=>by cases h;exact rfl
 |d::ds,_,n+1,h=>by
  obtain⟨v,r,rfl,h1,h2⟩:=h
  exact⟨v,r.take n,rfl,h1,IsAll.take n h2⟩
theorem IsAll.drop:∀{ds:List D}{vs:List V}(n:Nat),IsAll H m ds vs->IsAll H m (ds.drop n) (vs.drop n)
 |_,_,0,h=>h
 | [],_,n+1,h=>by cases h;exact rfl
 |d::ds,_,n+1,h=>by
  obtain⟨v,r,rfl,h1,h2⟩:=h
  exact IsAll.drop n h2
end
section
variable {P:Program}{w:World}{H:Hp}{s:Shared}{m m':Addr->Prop}
theorem Ee (ok:HOk P w H s.heap){a:Addr}{vs:List V}(h:(H a=some (.lst vs)/\m a)\/∃ o,H a=some (.frz o (.lst vs))/\m a) :
 ∃ its:List Value,Vals vs its/\s.heap.IsList a its.toArray:=by
 have key:ObjOk P w H s.heap a (.lst vs)->∃ its:List Value,Vals vs its/\s.heap.IsList a its.toArray:=fun⟨_,its,n,r,e⟩=>⟨its,r,⟨_,e,rfl,n,rfl⟩⟩
 rcases h with⟨h,_⟩|⟨o,h,_⟩
 ·exact key (ok a _ h)
 ·exact key (ok a _ h).2
theorem Ef (ok:HOk P w H s.heap){a:Addr}{vs:List V}(h:H a=some (.tup vs)):∃ its:List Value,Vals vs its/\s.heap.IsTuple a its.toArray:=by
 obtain⟨_,its,r,e⟩:=ok a _ h
 exact⟨its,r,e⟩
theorem xg (n:Nat)(e:Nat->Bool):(List.range n).all e=true↔∀ j,j<n->e j=true:=by
 simp[List.all_eq_true,List.mem_range]
theorem kY:∀(ds es:List D),eqDs ds es=true↔ds.length=es.length/\∀(j:Nat)(d e:D),ds[j]?=some d->es[j]?=some e->cB d e=true
 | [],[]=>by simp[eqDs]
 | [],e::es=>by simp[eqDs]
 |d::ds,[]=>by simp[eqDs]
 |d::ds,e::es=>by
  simp only[eqDs,Bool.and_eq_true,kY ds es,List.length_cons,Nat.add_right_cancel_iff]
  constructor
  ·rintro⟨h1,h2,h3⟩
   refine⟨h2,fun j x y ex ey=>?_⟩
   cases j with
   |zero=>simp at ex ey;subst ex;subst ey;exact h1
   |succ j=>exact h3 j x y (by simpa using ex) (by simpa using ey)
  ·rintro⟨h2,h3⟩
   exact⟨h3 0 d e rfl rfl,h2,fun j x y ex ey=>h3 (j+1) x y (by simpa using ex) (by simpa using ey)⟩
theorem cY:∀{ds:List D}{j:Nat}{d:D},ds[j]?=some d->d.dep<=D.deps ds
 | [],_,_,e=>by simp at e
 |d::ds,0,_,e=>by simp at e;subst e;simp only[D.deps];omega
 |d::ds,j+1,x,e=>by
  have:=cY (ds:=ds) (j:=j) (d:=x) (by simpa using e)
  simp only[D.deps];omega
theorem oA (ok:HOk P w H s.heap){A:Around}{ds es:List D}{vs ws:List V}{its its2:List Value}(h1:IsAll H m ds vs)(h2:IsAll H m' es ws)(r1:Vals vs its)(r2:Vals ws its2)
 (rec:∀ d∈ds,∀ e∈es,∀(v w:V)(u u':Value),Is H m d v->Is H m' e w->RelV v u->RelV w u'->SeqAt.EqAt A.in1 s u u' (cB d e)) :
 ∀ j (z1:j<its.toArray.size) (z2:j<its2.toArray.size),SeqAt.EqAt A.in1 s its.toArray[j] its2.toArray[j] (match ds[j]?,es[j]? with|some d,some e=>cB d e|_,_=>true):=by
 intro j z1 z2
 have l1:=r1.length
 have l2:=r2.length
 have l3:=h1.length
 have l4:=h2.length
 have y1:j<its.length:=by simpa using z1
 have y2:j<its2.length:=by simpa using z2
 have k1:j<ds.length:=by omega
 have k2:j<es.length:=by omega
 obtain⟨v,ev,iv⟩:=h1.get (i:=j) (d:=ds[j]) (by simp[k1])
 obtain⟨v',ev',iv'⟩:=h2.get (i:=j) (d:=es[j]) (by simp[k2])
 obtain⟨u,eu,ru⟩:=r1.get ev
 obtain⟨u',eu',ru'⟩:=r2.get ev'
 have q1:its.toArray[j]=u:=by
  have:its[j]?=some its[j]:=by simp[y1]
  rw[this]at eu;simpa using Option.some.inj eu
 have q2:its2.toArray[j]=u':=by
  have:its2[j]?=some its2[j]:=by simp[y2]
  rw[this]at eu';simpa using Option.some.inj eu'
 have g1:ds[j]?=some ds[j]:=by simp[k1]
 have g2:es[j]?=some es[j]:=by simp[k2]
 rw[q1,q2,g1,g2]
 exact rec ds[j] (List.getElem_mem _) es[j] (List.getElem_mem _) v v' u u' iv iv' ru ru'
theorem tM {ds es:List D}(hl:ds.length=es.length) :
 ((List.range ds.length).all fun j=>match ds[j]?,es[j]? with|some d,some e=>cB d e|_,_=>true)=eqDs ds es:=by
 rw[Bool.eq_iff_iff,xg,kY]
 constructor
 ·intro h
  refine⟨hl,fun j d e ed ee=>?_⟩
  have:=h j (List.getElem?_eq_some_iff.mp ed).1
  rw[ed,ee]at this
  exact this
 ·rintro⟨_,h⟩ j hj
  have e1:ds[j]?=some ds[j]:=by simp[hj]
  have hj':j<es.length:=by omega
  have e2:es[j]?=some es[j]:=by simp[hj']
  rw[e1,e2]
  exact h j _ _ e1 e2
theorem oB {ds es:List D}(hl:ds.length≠es.length):eqDs ds es=false:=by
 cases h:eqDs ds es with
 |false=>rfl
 |true=>exact absurd ((kY ds es).mp h).1 hl
end
section
variable {P:Program}{w:World}{H:Hp}{s:Shared}{m m':Addr->Prop}
abbrev jH (H:Hp)(s:Shared)(m m':Addr->Prop)(A:Around)(n:Nat):Prop:=
 ∀(d e:D)(v w:V)(u u':Value),d.dep<n->e.dep<1000->Is H m d v->Is H m' e w->RelV v u->RelV w u'->SeqAt.EqAt A.in1 s u u' (cB d e)
section
variable {A:Around}{n:Nat}{l1 l2:List D}{vs1 vs2:List V}{its1 its2:List Value}{a1 a2:Addr}
theorem kZ (ok:HOk P w H s.heap)(hn:(D.lst l1).dep<=n)(hE:(D.lst l2).dep<1000)(hu:A.units<cLine)(q1:IsAll H m l1 vs1)(q2:IsAll H m' l2 vs2)(y1:Vals vs1 its1)(y2:Vals vs2 its2)(p1:s.heap.IsList a1 its1.toArray)(p2:s.heap.IsList a2 its2.toArray)
 (rec:jH H s m m' A n):SeqAt.RcAt A s (.ref a1) (.ref a2) (cB (.lst l1) (.lst l2)):=by
 have e1:its1.toArray.size=l1.length:=by rw[List.size_toArray,<- y1.length,q1.length]
 have e2:its2.toArray.size=l2.length:=by rw[List.size_toArray,<- y2.length,q2.length]
 have hd:∀ d∈l1,d.dep<n:=fun d hd=>by
  obtain⟨j,hj⟩:=List.mem_iff_getElem?.mp hd
  have:=cY hj
  simp only[D.dep]at hn;omega
 have he:∀ e∈l2,e.dep<1000:=fun d hd=>by
  obtain⟨j,hj⟩:=List.mem_iff_getElem?.mp hd
  have:=cY hj
  simp only[D.dep]at hE;omega
 by_cases hl:l1.length=l2.length
 ·have z:=SeqAt.RcAt.lists p1 p2 (by rw[e1,e2,hl]) hu (oA ok q1 q2 y1 y2 fun d hm e hm2 v w u u' i1 i2 r1 r2=>rec d e v w u u' (hd d hm) (he e hm2) i1 i2 r1 r2)
  rw[e1,tM hl]at z
  exact z
 ·have z:=SeqAt.RcAt.lists_lengths p1 p2 (by rw[e1,e2];simpa using hl) hu
  rw[show cB (.lst l1) (.lst l2)=eqDs l1 l2 from rfl,oB hl]
  exact z
theorem oC (ok:HOk P w H s.heap)(hn:(D.lst l1).dep<=n)(hE:(D.lst l2).dep<1000)(hu:A.units<cLine)(q1:IsAll H m l1 vs1)(q2:IsAll H m' l2 vs2)(y1:Vals vs1 its1)(y2:Vals vs2 its2)(p1:s.heap.IsList a1 its1.toArray)(p2:s.heap.IsList a2 its2.toArray)
 (rec:jH H s m m' A n):SeqAt.RcNeAt A s (.ref a1) (.ref a2) (!cB (.lst l1) (.lst l2)):=by
 have e1:its1.toArray.size=l1.length:=by rw[List.size_toArray,<- y1.length,q1.length]
 have e2:its2.toArray.size=l2.length:=by rw[List.size_toArray,<- y2.length,q2.length]
 have hd:∀ d∈l1,d.dep<n:=fun d hd=>by
  obtain⟨j,hj⟩:=List.mem_iff_getElem?.mp hd
  have:=cY hj
  simp only[D.dep]at hn;omega
 have he:∀ e∈l2,e.dep<1000:=fun d hd=>by
  obtain⟨j,hj⟩:=List.mem_iff_getElem?.mp hd
  have:=cY hj
  simp only[D.dep]at hE;omega
 by_cases hl:l1.length=l2.length
 ·have z:=SeqAt.RcNeAt.lists p1 p2 (by rw[e1,e2,hl]) hu (oA ok q1 q2 y1 y2 fun d hm e hm2 v w u u' i1 i2 r1 r2=>rec d e v w u u' (hd d hm) (he e hm2) i1 i2 r1 r2)
  rw[e1,tM hl]at z
  exact z
 ·have z:=SeqAt.RcNeAt.lists_lengths p1 p2 (by rw[e1,e2];simpa using hl) hu
  rw[show cB (.lst l1) (.lst l2)=eqDs l1 l2 from rfl,oB hl]
  exact z
theorem vO:((List.range (min l1.length l2.length)).all (fun j=>match l1[j]?,l2[j]? with|some d,some e=>cB d e|_,_=>true)&&l1.length==l2.length)=eqDs l1 l2:=by
 by_cases hl:l1.length=l2.length
 ·rw[hl,Nat.min_self,<- hl,tM hl];simp[hl]
 ·rw[oB hl];simp[hl]
theorem ng (ok:HOk P w H s.heap)(hn:(D.tup l1).dep<=n)(hE:(D.tup l2).dep<1000)(hu:A.units<cLine)(q1:IsAll H m l1 vs1)(q2:IsAll H m' l2 vs2)(y1:Vals vs1 its1)(y2:Vals vs2 its2)(p1:s.heap.IsTuple a1 its1.toArray)(p2:s.heap.IsTuple a2 its2.toArray)
 (rec:jH H s m m' A n):SeqAt.RcAt A s (.ref a1) (.ref a2) (cB (.tup l1) (.tup l2)):=by
 have e1:its1.toArray.size=l1.length:=by rw[List.size_toArray,<- y1.length,q1.length]
 have e2:its2.toArray.size=l2.length:=by rw[List.size_toArray,<- y2.length,q2.length]
 have hd:∀ d∈l1,d.dep<n:=fun d hd=>by
  obtain⟨j,hj⟩:=List.mem_iff_getElem?.mp hd
  have:=cY hj
  simp only[D.dep]at hn;omega
 have he:∀ e∈l2,e.dep<1000:=fun d hd=>by
  obtain⟨j,hj⟩:=List.mem_iff_getElem?.mp hd
  have:=cY hj
  simp only[D.dep]at hE;omega
 have z:=SeqAt.RcAt.tuples p1 p2 hu (oA ok q1 q2 y1 y2 fun d hm e hm2 v w u u' i1 i2 r1 r2=>rec d e v w u u' (hd d hm) (he e hm2) i1 i2 r1 r2)
 rw[e1,e2,vO]at z
 exact z
theorem rl (ok:HOk P w H s.heap)(hn:(D.tup l1).dep<=n)(hE:(D.tup l2).dep<1000)(hu:A.units<cLine)(q1:IsAll H m l1 vs1)(q2:IsAll H m' l2 vs2)(y1:Vals vs1 its1)(y2:Vals vs2 its2)(p1:s.heap.IsTuple a1 its1.toArray)(p2:s.heap.IsTuple a2 its2.toArray)
 (rec:jH H s m m' A n):SeqAt.RcNeAt A s (.ref a1) (.ref a2) (!cB (.tup l1) (.tup l2)):=by
 have e1:its1.toArray.size=l1.length:=by rw[List.size_toArray,<- y1.length,q1.length]
 have e2:its2.toArray.size=l2.length:=by rw[List.size_toArray,<- y2.length,q2.length]
 have hd:∀ d∈l1,d.dep<n:=fun d hd=>by
  obtain⟨j,hj⟩:=List.mem_iff_getElem?.mp hd
  have:=cY hj
  simp only[D.dep]at hn;omega
 have he:∀ e∈l2,e.dep<1000:=fun d hd=>by
  obtain⟨j,hj⟩:=List.mem_iff_getElem?.mp hd
  have:=cY hj
  simp only[D.dep]at hE;omega
 have z:=SeqAt.RcNeAt.tuples p1 p2 hu (oA ok q1 q2 y1 y2 fun d hm e hm2 v w u u' i1 i2 r1 r2=>rec d e v w u u' (hd d hm) (he e hm2) i1 i2 r1 r2)
 rw[e1,e2,vO]at z
 exact z
theorem rn (h:SeqAt.RcAt A s (.ref a1) (.ref a2) k)(hs:a1=a2->k=true):SeqAt.EqAt A s (.ref a1) (.ref a2) k:=by
 by_cases e:a1=a2
 ·subst e;rw[hs rfl];exact SeqAt.EqAt.same _
 ·exact SeqAt.EqAt.of_refs e h
end
theorem Is.shape (ok:HOk P w H s.heap){d:D}{v:V}{u:Value}(hE:d.dep<1000)(h:Is H m d v)(r:RelV v u):(d=.non/\u=.none)\/(∃ b,d=.bl b/\u=.bool b)\/(∃ i t,d=.int i/\u=.int i t)\/(∃ x t,d=.str x/\u=.str x t)\/
 (∃ l a vs its,d=.lst l/\v=.ref a/\u=.ref a/\IsAll H m l vs/\Vals vs its/\s.heap.IsList a its.toArray)\/∃ l a vs its,d=.tup l/\v=.ref a/\u=.ref a/\IsAll H m l vs/\Vals vs its/\s.heap.IsTuple a its.toArray:=by
 cases d with
 |non=>cases h;cases r;exact .inl ⟨rfl,rfl⟩
 |bl b=>cases h;cases r;exact .inr (.inl ⟨b,rfl,rfl⟩)
 |int i=>cases h;obtain⟨t,rfl⟩:=r;exact .inr (.inr (.inl ⟨i,t,rfl,rfl⟩))
 |str x=>cases h;obtain⟨t,rfl⟩:=r;exact .inr (.inr (.inr (.inl ⟨x,t,rfl,rfl⟩)))
 |lst l=>
  obtain⟨a,vs,rfl,g,q⟩:=h;cases r;obtain⟨its,y,p⟩:=Ee ok g
  exact .inr (.inr (.inr (.inr (.inl ⟨l,a,vs,its,rfl,rfl,rfl,q,y,p⟩))))
 |tup l=>
  obtain⟨a,vs,rfl,g,q⟩:=h;cases r;obtain⟨its,y,p⟩:=Ef ok g
  exact .inr (.inr (.inr (.inr (.inr ⟨l,a,vs,its,rfl,rfl,rfl,q,y,p⟩))))
 |dic k l=>exact absurd hE (by simp only[D.dep];omega)
theorem BF (ok:HOk P w H s.heap){A:Around}{n:Nat}(hu:A.units<cLine)(rec:jH H s m m' A n){d e:D}{v w':V}{u u':Value}(hn:d.dep<=n)(hN:n<1000)(hE:e.dep<1000)(h1:Is H m d v)(h2:Is H m' e w')(r1:RelV v u)(r2:RelV w' u') :
 SeqAt.RcAt A s u u' (cB d e):=by
 rcases h1.shape ok (by omega) r1 with⟨rfl,rfl⟩|⟨b1,rfl,rfl⟩|⟨i1,t1,rfl,rfl⟩|⟨x1,t1,rfl,rfl⟩|⟨l1,a1,vs1,its1,rfl,rfl,rfl,q1,y1,p1⟩|⟨l1,a1,vs1,its1,rfl,rfl,rfl,q1,y1,p1⟩<;>rcases h2.shape ok hE r2 with⟨rfl,rfl⟩|⟨b2,rfl,rfl⟩|⟨i2,t2,rfl,rfl⟩|⟨x2,t2,rfl,rfl⟩|⟨l2,a2,vs2,its2,rfl,rfl,rfl,q2,y2,p2⟩|⟨l2,a2,vs2,its2,rfl,rfl,rfl,q2,y2,p2⟩
 exact .none_none;exact .none_bool b2;exact .none_int i2 t2;exact .none_str x2 t2;exact .none_list p2 hu;exact .none_tuple p2 hu;exact .bool_none b1;exact .bool_bool b1 b2;exact .bool_int b1 i2 t2;exact .bool_str b1 x2 t2;exact .bool_list b1 p2 hu;exact .bool_tuple b1 p2 hu;exact .int_none i1 t1;exact .int_bool i1 t1 b2;exact .int_int i1 t1 i2 t2;exact .int_str i1 t1 x2 t2;exact .int_list i1 t1 p2 hu;exact .int_tuple i1 t1 p2 hu;exact .str_none x1 t1;exact .str_bool x1 t1 b2;exact .str_int x1 t1 i2 t2;exact .str_str x1 t1 x2 t2;exact .str_list x1 t1 p2 hu;exact .str_tuple x1 t1 p2 hu;exact .list_none p1 hu;exact .list_bool b2 p1 hu;exact .list_int i2 t2 p1 hu;exact .list_str x2 t2 p1 hu;exact kZ ok hn hE hu q1 q2 y1 y2 p1 p2 rec;exact .list_tuple p1 p2 hu;exact .tuple_none p1 hu;exact .tuple_bool b2 p1 hu;exact .tuple_int i2 t2 p1 hu;exact .tuple_str x2 t2 p1 hu;exact .tuple_list p1 p2 hu;exact ng ok hn hE hu q1 q2 y1 y2 p1 p2 rec
theorem BG (ok:HOk P w H s.heap){A:Around}{n:Nat}(hu:A.units<cLine)(rec:jH H s m m' A n){d e:D}{v w':V}{u u':Value}(hn:d.dep<=n)(hN:n<1000)(hE:e.dep<1000)(h1:Is H m d v)(h2:Is H m' e w')(r1:RelV v u)(r2:RelV w' u') :
 SeqAt.RcNeAt A s u u' (!cB d e):=by
 rcases h1.shape ok (by omega) r1 with⟨rfl,rfl⟩|⟨b1,rfl,rfl⟩|⟨i1,t1,rfl,rfl⟩|⟨x1,t1,rfl,rfl⟩|⟨l1,a1,vs1,its1,rfl,rfl,rfl,q1,y1,p1⟩|⟨l1,a1,vs1,its1,rfl,rfl,rfl,q1,y1,p1⟩<;>rcases h2.shape ok hE r2 with⟨rfl,rfl⟩|⟨b2,rfl,rfl⟩|⟨i2,t2,rfl,rfl⟩|⟨x2,t2,rfl,rfl⟩|⟨l2,a2,vs2,its2,rfl,rfl,rfl,q2,y2,p2⟩|⟨l2,a2,vs2,its2,rfl,rfl,rfl,q2,y2,p2⟩
 exact .none_none;exact .none_bool b2;exact .none_int i2 t2;exact .none_str x2 t2;exact .none_list p2 hu;exact .none_tuple p2 hu;exact .bool_none b1;exact .bool_bool b1 b2;exact .bool_int b1 i2 t2;exact .bool_str b1 x2 t2;exact .bool_list b1 p2 hu;exact .bool_tuple b1 p2 hu;exact .int_none i1 t1;exact .int_bool i1 t1 b2;exact .int_int i1 t1 i2 t2;exact .int_str i1 t1 x2 t2;exact .int_list i1 t1 p2 hu;exact .int_tuple i1 t1 p2 hu;exact .str_none x1 t1;exact .str_bool x1 t1 b2;exact .str_int x1 t1 i2 t2;exact .str_str x1 t1 x2 t2;exact .str_list x1 t1 p2 hu;exact .str_tuple x1 t1 p2 hu;exact .list_none p1 hu;exact .list_bool b2 p1 hu;exact .list_int i2 t2 p1 hu;exact .list_str x2 t2 p1 hu;exact oC ok hn hE hu q1 q2 y1 y2 p1 p2 rec;exact .list_tuple p1 p2 hu;exact .tuple_none p1 hu;exact .tuple_bool b2 p1 hu;exact .tuple_int i2 t2 p1 hu;exact .tuple_str x2 t2 p1 hu;exact .tuple_list p1 p2 hu;exact rl ok hn hE hu q1 q2 y1 y2 p1 p2 rec
theorem vP (ok:HOk P w H s.heap){A:Around}{n:Nat}(hu:A.units<cLine)(rec:jH H s m m' A n){d e:D}{v w':V}{u u':Value}(hn:d.dep<=n)(hN:n<1000)(hE:e.dep<1000)(h1:Is H m d v)(h2:Is H m' e w')(r1:RelV v u)(r2:RelV w' u') :
 SeqAt.EqAt A s u u' (cB d e):=by
 rcases h1.shape ok (by omega) r1 with⟨rfl,rfl⟩|⟨b1,rfl,rfl⟩|⟨i1,t1,rfl,rfl⟩|⟨x1,t1,rfl,rfl⟩|⟨l1,a1,vs1,its1,rfl,rfl,rfl,q1,y1,p1⟩|⟨l1,a1,vs1,its1,rfl,rfl,rfl,q1,y1,p1⟩<;>rcases h2.shape ok hE r2 with⟨rfl,rfl⟩|⟨b2,rfl,rfl⟩|⟨i2,t2,rfl,rfl⟩|⟨x2,t2,rfl,rfl⟩|⟨l2,a2,vs2,its2,rfl,rfl,rfl,q2,y2,p2⟩|⟨l2,a2,vs2,its2,rfl,rfl,rfl,q2,y2,p2⟩
 exact .same _;exact .none_bool b2;exact .none_int i2 t2;exact .none_str x2 t2;exact .none_list p2 hu;exact .none_tuple p2 hu;exact .bool_none b1;exact .bool_bool b1 b2;exact .bool_int b1 i2 t2;exact .bool_str b1 x2 t2;exact .bool_list b1 p2 hu;exact .bool_tuple b1 p2 hu;exact .int_none i1 t1;exact .int_bool i1 t1 b2;exact .int_int i1 t1 i2 t2;exact .int_str i1 t1 x2 t2;exact .int_list i1 t1 p2 hu;exact .int_tuple i1 t1 p2 hu;exact .str_none x1 t1;exact .str_bool x1 t1 b2;exact .str_int x1 t1 i2 t2;exact .str_str x1 t1 x2 t2;exact .str_list x1 t1 p2 hu;exact .str_tuple x1 t1 p2 hu;exact .list_none p1 hu;exact .list_bool b2 p1 hu;exact .list_int i2 t2 p1 hu;exact .list_str x2 t2 p1 hu;exact rn (kZ ok hn hE hu q1 q2 y1 y2 p1 p2 rec) (fun z=>by subst z;rw[Is.inj h1 h2];exact cp _);exact .list_tuple p1 p2 hu;exact .tuple_none p1 hu;exact .tuple_bool b2 p1 hu;exact .tuple_int i2 t2 p1 hu;exact .tuple_str x2 t2 p1 hu;exact .tuple_list p1 p2 hu;exact rn (ng ok hn hE hu q1 q2 y1 y2 p1 p2 rec) (fun z=>by subst z;rw[Is.inj h1 h2];exact cp _)
theorem yM (ok:HOk P w H s.heap):∀(n:Nat)(A:Around){d e:D}{v w':V}{u u':Value},A.units+n<cLine->n<1000->d.dep<=n->e.dep<1000->Is H m d v->Is H m' e w'->RelV v u->RelV w' u'->SeqAt.EqAt A s u u' (cB d e)
 |0,A,d,e,v,w',u,u',hu,hN,hn,hE,h1,h2,r1,r2=>vP ok (by omega) (fun d e v w u u' hd=>absurd hd (by omega)) hn hN hE h1 h2 r1 r2
 |n+1,A,d,e,v,w',u,u',hu,hN,hn,hE,h1,h2,r1,r2=>vP ok (by omega) (fun d e v w u u' hd he i1 i2 r1 r2=>yM ok n A.in1 (by show A.units+1+n<cLine;omega) (by omega) (by omega) he i1 i2 r1 r2) hn hN hE h1 h2 r1 r2
theorem yN (ok:HOk P w H s.heap){A:Around}{n:Nat}(hu:A.units+n<cLine)(hN:n<1000):jH H s m m' A n:=fun d e v w u u' hd he i1 i2 r1 r2=>
 yM ok (n-1) A.in1 (by show A.units+1+(n-1)<cLine;omega) (by omega) (by omega) he i1 i2 r1 r2
end
end L3
set_option autoImplicit false
namespace L3
open PySem PySem.Spec PyProof.Rows L2
abbrev St:=L2.St
inductive Res (α:Type) where
 |stuck|ok (a:α)|exc (c:Str)
def Res.bind {α β:Type}:Res α->(α->Res β)->Res β
 | .stuck,_=>.stuck
 | .exc c,_=>.exc c
 | .ok a,k=>k a
@[simp] theorem Res.bind_ok {α β:Type}(a:α)(k:α->Res β):(Res.ok a).bind k=k a:=rfl
inductive Sl where
 |val (d:D) (fr:Bool)|own (ds:List D) (fr:Bool)|tre (d:D)|mes (d:D)|pin (d:D)
abbrev En:=List (Option Sl)
inductive R where
 |val (d:D) (fr:Bool) (al:List Nat)|new (ds:List D) (fr:Bool)|fre (d:D)
def R.d:R->D
 | .val d _ _=>d
 | .new ds _=>.lst ds
 | .fre d=>d
def R.fr:R->Bool
 | .val _ f _=>f
 | .new _ f=>f
 | .fre _=>true
def R.al:R->List Nat
 | .val _ _ al=>al
 | .new _ _=>[]
 | .fre _=>[]
def mkV (d:D)(fr:Bool)(al:List Nat):R:=if d.flat then .val d true [] else .val d fr al
structure Gd where
 H₀:Hp
 Ma:Addr->Prop
 Z:Addr->Prop
 root:Option V
abbrev F2 (H:Hp)(Ma:Addr->Prop):Gd:=⟨H,Ma,fun _=>False,none⟩
def MuZ (g:Gd)(H:Hp)(a:Addr):Prop:=Mu H a\/(g.Z a/\∃ o u,H a=some (.frz o u))
theorem MuZ.same {g:Gd}{H H':Hp}{a:Addr}(h:MuZ g H a)(s:∀ o,H a=some o->H' a=some o):MuZ g H' a:=h.imp (fun z=>z.same s) fun⟨z,o,u,e⟩=>⟨z,o,u,s _ e⟩
def msk (g:Gd)(M:Addr->Prop)(fr:Bool)(a:Addr):Prop:=M a/\(fr=true->g.H₀ a=none)
abbrev Pr:=Nat->Addr->Prop
def vmsk (g:Gd)(M:Addr->Prop)(fr:Bool)(ρ:Pr)(al:List Nat)(a:Addr):Prop:=msk g M fr a\/∃ i,i∈al/\ρ i a
mutual
def IsSh (H:Hp)(m:Addr->Prop):D->V->Prop
 | .tup ds,v=>∃ a vs,v=.ref a/\H a=some (.tup vs)/\IsShs H m ds vs
 | .lst _,v=>∃ a vs,v=.ref a/\H a=some (.lst vs)/\m a
 |_,_=>True
def IsShs (H:Hp)(m:Addr->Prop):List D->List V->Prop
 | [],_=>True
 |d::ds,vs=>∃ v r,vs=v::r/\IsSh H m d v/\IsShs H m ds r
end
def SlOk (g:Gd)(M T:Addr->Prop)(H:Hp)(v:V):Sl->Prop
 | .val d fr=>Is H (msk g M fr) d v
 | .own ds fr=>∃ a vs,v=.ref a/\H a=some (.lst vs)/\(∀ b,T b↔b=a)/\IsAll H (msk g M fr) ds vs
 | .tre d=>Is H T d v
 | .mes d=>IsSh H T d v
 | .pin d=>Is H T d v/\g.root=some v
def Sl.isO:Sl->Bool
 | .val _ _=>false
 |_=>true
def isOwn (env:En)(j:Nat):Bool:=match env[j]? with
 |some (some sl)=>sl.isO
 |_=>false
structure Rep (g:Gd) (M:Addr->Prop) (ρ:Pr) (env:En) (σ:St) (H:Hp):Prop where
 same:Same g.H₀ H
 froz:∀ a,M a->H a≠none
 inn:∀ a,M a->g.H₀ a=none\/g.Ma a
 fl:∀ a,M a->g.H₀ a=none->MuZ g H a
 slot:∀(i:Nat)(sl:Sl),env[i]?=some (some sl)->∃ v,σ[i]?=some (some v)/\SlOk g M (ρ i) H v sl
 priv:∀(i:Nat)(a:Addr),ρ i a->¬ M a/\g.H₀ a=none/\Mu H a
 apart:∀(i j:Nat)(a:Addr),ρ i a->ρ j a->i=j
 ow:∀(i:Nat)(a:Addr),ρ i a->isOwn env i=true
 len:env.length=σ.length
 zz:∀ a,g.Z a->H a≠none
def ROk (g:Gd)(M:Addr->Prop)(ρ:Pr)(H0 H:Hp)(v:V):R->Prop
 | .val d fr al=>Is H (vmsk g M fr ρ al) d v
 | .new ds fr=>∃ a vs,v=.ref a/\H a=some (.lst vs)/\¬ M a/\H0 a=none/\(∀ i,¬ ρ i a)/\IsAll H (msk g M fr) ds vs
 | .fre d=>∃ T:Addr->Prop,(∀ a,T a->¬ M a/\H0 a=none/\Mu H a/\∀ i,¬ ρ i a)/\Is H T d v
structure Ext (M:Addr->Prop) (H:Hp) (M':Addr->Prop) (H':Hp):Prop where
 m:∀ a,M a->M' a
 h:Same H H'
 n:∀ a,M' a->M a\/H a=none
theorem Ext.refl (M:Addr->Prop)(H:Hp):Ext M H M H:=⟨fun _ z=>z,Same.refl H,fun _ z=>.inl z⟩
theorem Ext.trans {M M1 M2:Addr->Prop}{H H1 H2:Hp}(a:Ext M H M1 H1)(b:Ext M1 H1 M2 H2):Ext M H M2 H2:=
 ⟨fun x z=>b.m x (a.m x z),a.h.trans b.h,fun x z=>(b.n x z).elim (a.n x) fun w=>.inr (a.h.free w)⟩
section
variable {g:Gd}{M M':Addr->Prop}{ρ:Pr}{env:En}{σ:St}{H H' H0:Hp}{fr:Bool}{al:List Nat}
mutual
theorem IsSh.mono {m m':Addr->Prop}(kp:∀ a o,H a=some o->fixd o->H' a=some o)(kl:∀ a vs,m a->H a=some (.lst vs)->∃ vs',H' a=some (.lst vs'))(mm:∀ a,m a->m' a):∀{d:D}{v:V},IsSh H m d v->IsSh H' m' d v
 | .non,_,h=>h
 | .bl _,_,h=>h
 | .int _,_,h=>h
 | .str _,_,h=>h
 | .tup ds,_,h=>by
  obtain⟨a,vs,e,h1,h2⟩:=h
  exact⟨a,vs,e,kp a _ h1 True.intro,IsShs.mono kp kl mm h2⟩
 | .lst ds,_,h=>by
  obtain⟨a,vs,e,h1,h2⟩:=h
  obtain⟨vs',h3⟩:=kl a vs h2 h1
  exact⟨a,vs',e,h3,mm a h2⟩
 | .dic _ _,_,h=>h
theorem IsShs.mono {m m':Addr->Prop}(kp:∀ a o,H a=some o->fixd o->H' a=some o)(kl:∀ a vs,m a->H a=some (.lst vs)->∃ vs',H' a=some (.lst vs'))(mm:∀ a,m a->m' a):∀{ds:List D}{vs:List V},IsShs H m ds vs->IsShs H' m' ds vs
 | [],_,h=>h
 |d::ds,_,h=>by
  obtain⟨v,r,e,h1,h2⟩:=h
  exact⟨v,r,e,IsSh.mono kp kl mm h1,IsShs.mono kp kl mm h2⟩
end
theorem msk.mono (mm:∀ a,M a->M' a){a:Addr}(h:msk g M fr a):msk g M' fr a:=⟨mm a h.1,h.2⟩
theorem vmsk.mono (mm:∀ a,M a->M' a){a:Addr}(h:vmsk g M fr ρ al a):vmsk g M' fr ρ al a:=h.imp (msk.mono mm) id
theorem Is.ext {d:D}{v:V}(e:Ext M H M' H')(h:Is H (vmsk g M fr ρ al) d v):Is H' (vmsk g M' fr ρ al) d v:=
 h.mono (fun a o q _=>e.h a o q) fun _ _ _ z=>z.mono e.m
theorem IsAll.ext {ds:List D}{vs:List V}(e:Ext M H M' H')(h:IsAll H (vmsk g M fr ρ al) ds vs):IsAll H' (vmsk g M' fr ρ al) ds vs:=
 h.mono (fun a o q _=>e.h a o q) fun _ _ _ z=>z.mono e.m
theorem SlOk.weak {T:Addr->Prop}{v:V}{sl:Sl}(mm:∀ a,M a->M' a)(h:SlOk g M T H v sl):SlOk g M' T H v sl:=by
 cases sl with
 |val d fr=>exact Is.weak (fun b z=>msk.mono mm z) h
 |own ds fr=>
  obtain⟨b,vs,rfl,h1,h2,h4⟩:=h
  exact⟨b,vs,rfl,h1,h2,IsAll.weak (fun b z=>msk.mono mm z) h4⟩
 |tre d=>exact h
 |mes d=>exact h
 |pin d=>exact h
theorem SlOk.same {T:Addr->Prop}{v:V}{sl:Sl}(s:Same H H')(h:SlOk g M T H v sl):SlOk g M T H' v sl:=by
 cases sl with
 |val d fr=>exact Is.same s h
 |own ds fr=>
  obtain⟨b,vs,rfl,h1,h2,h4⟩:=h
  exact⟨b,vs,rfl,s _ _ h1,h2,IsAll.same s h4⟩
 |tre d=>exact Is.same s h
 |mes d=>exact IsSh.mono (fun a o e _=>s a o e) (fun a vs _ e=>⟨vs,s _ _ e⟩) (fun _ z=>z) h
 |pin d=>exact⟨Is.same s h.1,h.2⟩
theorem Rep.moreT {T:Addr->Prop}(r:Rep g M ρ env σ H)(ht:∀ a,T a->Mu H a/\g.H₀ a=none/\∀ i,¬ ρ i a):Rep g (fun b=>M b\/T b) ρ env σ H where
 same:=r.same
 froz:=fun b hb=>hb.elim (r.froz b) fun e=>(ht b e).1.some
 inn:=fun b hb=>hb.elim (r.inn b) fun e=>.inl (ht b e).2.1
 fl:=fun b hb h0=>hb.elim (fun z=>r.fl b z h0) fun e=>.inl (ht b e).1
 slot:=fun i sl e=>by
  obtain⟨v,ev,s⟩:=r.slot i sl e
  exact⟨v,ev,SlOk.weak (fun _=>.inl) s⟩
 priv:=fun i a h=>⟨fun z=>z.elim (r.priv i a h).1 fun z=>(ht a z).2.2 i h,(r.priv i a h).2⟩
 apart:=r.apart
 ow:=r.ow
 len:=r.len
 zz:=r.zz
theorem Rep.more {a:Addr}{ws:List V}(r:Rep g M ρ env σ H)(ha:H a=some (.lst ws))(h0:g.H₀ a=none)(no:∀ i,¬ ρ i a):Rep g (fun b=>M b\/b=a) ρ env σ H:=
 r.moreT fun b e=>by subst e;exact⟨Mu.lst ha,h0,no⟩
theorem Rep.grow (r:Rep g M ρ env σ H)(s:Same H H'):Rep g M ρ env σ H' where
 same:=r.same.trans s
 froz:=fun a ha e=>by
  cases q:H a with
  |none=>exact r.froz a ha q
  |some o=>rw[s a o q]at e;cases e
 inn:=r.inn
 fl:=fun a ha h0=>(r.fl a ha h0).same fun o e=>s a o e
 slot:=fun i sl e=>by
  obtain⟨v,ev,k⟩:=r.slot i sl e
  exact⟨v,ev,SlOk.same s k⟩
 priv:=fun i a h=>let ⟨a1,a2,a3⟩:=r.priv i a h;⟨a1,a2,a3.same fun o e=>s a o e⟩
 apart:=r.apart
 ow:=r.ow
 len:=r.len
 zz:=fun a z e=>by
  cases q:H a with
  |none=>exact r.zz a z q
  |some o=>rw[s a o q]at e;cases e
theorem Rep.free {a:Addr}(r:Rep g M ρ env σ H)(h:H a=none):g.H₀ a=none/\¬ M a/\∀ i,¬ ρ i a:=by
 refine⟨r.same.free h,fun z=>r.froz a z h,fun i o=>?_⟩
 exact(r.priv i a o).2.2.some h
theorem aU {a:Addr}{o:HO}(h:H a=none):Same H (az H a o):=fun b u e=>by rw[ag (ak e h)];exact e
theorem ROk.is {v:V}{r:R}{M0:Addr->Prop}(rep:Rep g M ρ env σ H)(x:Ext M0 H0 M H)(h0:Same g.H₀ H0)(h:ROk g M ρ H0 H v r):∃ M',Ext M0 H0 M' H/\(∀ a,M a->M' a)/\Rep g M' ρ env σ H/\Is H (vmsk g M' r.fr ρ r.al) r.d v:=by
 cases r with
 |val d fr al=>exact⟨M,x,fun _ z=>z,rep,h⟩
 |new ds fr=>
  obtain⟨a,vs,rfl,h1,h2,h3,h4,h5⟩:=h
  have z0:g.H₀ a=none:=h0.free h3
  exact⟨fun b=>M b\/b=a,⟨fun b z=>.inl (x.m b z),x.h,fun b z=>z.elim (x.n b) fun e=>.inr (e▸h3)⟩,fun _=>.inl,rep.more h1 z0 h4,a,vs,rfl,.inl ⟨h1,.inl ⟨.inr rfl,fun _=>z0⟩⟩,IsAll.weak (fun b z=>.inl (msk.mono (fun _=>.inl) z)) h5⟩
 |fre d=>
  obtain⟨T,ht,is⟩:=h
  exact⟨fun b=>M b\/T b,⟨fun b z=>.inl (x.m b z),x.h,fun b z=>z.elim (x.n b) fun e=>.inr (ht b e).2.1⟩,fun _=>.inl,rep.moreT fun a z=>let ⟨a1,a2,a3,a4⟩:=ht a z;⟨a3,h0.free a2,a4⟩,Is.weak (fun b z=>.inl ⟨.inr z,fun _=>h0.free (ht b z).2.1⟩) is⟩
theorem ROk.mkV {d:D}{v:V}(h:Is H (vmsk g M fr ρ al) d v):ROk g M ρ H0 H v (mkV d fr al):=by
 unfold L3.mkV
 split
 ·exact Is.flat (by assumption) h
 ·exact h
theorem ROk.back {v:V}{r:R}{H1:Hp}(s:Same H1 H0)(h:ROk g M ρ H0 H v r):ROk g M ρ H1 H v r:=by
 cases r with
 |val d fr al=>exact h
 |new ds fr=>
  obtain⟨a,vs,rfl,h1,h2,h3,h4,h5⟩:=h
  exact⟨a,vs,rfl,h1,h2,s.free h3,h4,h5⟩
 |fre d=>
  obtain⟨T,ht,is⟩:=h
  exact⟨T,fun a z=>let ⟨a1,a2,a3⟩:=ht a z;⟨a1,s.free a2,a3⟩,is⟩
end
def A_ (mg:Str->Option Value)(E:XK)(g:Gd)(c:Str):Prop:=∀ cls dx H',mg c=some cls->Same g.H₀ H'->E cls dx H'
section
variable (mg:Str->Option Value)(E:XK)(g:Gd)(M:Addr->Prop)(ρ:Pr)(env:En)(σ:St)(H:Hp)
def PostE (Q:VK):Res R->Prop
 | .stuck=>False
 | .exc c=>A_ mg E g c
 | .ok r=>∀ v M' H',Ext M H M' H'->Rep g M' ρ env σ H'->ROk g M' ρ H H' v r->Q v H'
def aR (rs:List R):Bool:=rs.all R.fr
def aY (rs:List R):List Nat:=rs.flatMap R.al
def PostA (Q:List V->Hp->Prop):Res (List R)->Prop
 | .stuck=>False
 | .exc c=>A_ mg E g c
 | .ok rs=>∀ vs M' H',Ext M H M' H'->Rep g M' ρ env σ H'->IsAll H' (vmsk g M' (aR rs) ρ (aY rs)) (rs.map R.d) vs->Q vs H'
def PostT (Q:Bool->Hp->Prop):Res Bool->Prop
 | .stuck=>False
 | .exc c=>A_ mg E g c
 | .ok b=>∀ M' H',Ext M H M' H'->Rep g M' ρ env σ H'->Q b H'
end
def Snd (mg:Str->Option Value)(E:XK)(t:TE)(f:En->Res R):Prop:=∀ g M ρ env σ H Q,Rep g M ρ env σ H->PostE mg E g M ρ env σ H Q (f env)->t σ H Q
def SndA (mg:Str->Option Value)(E:XK)(t:TA)(f:En->Res (List R)):Prop:=∀ g M ρ env σ H Q,Rep g M ρ env σ H->PostA mg E g M ρ env σ H Q (f env)->t σ H Q
def SndT (mg:Str->Option Value)(E:XK)(t:TT)(f:En->Res Bool):Prop:=∀ g M ρ env σ H Q,Rep g M ρ env σ H->PostT mg E g M ρ env σ H Q (f env)->t σ H Q
def PD (X:Cx)(E:XK)(e:Expr)(f:En->Res R):Prop:=∃ t,PE X e t/\Snd X.mg E t f
def xV (X:Cx)(E:XK)(es:List Expr)(f:En->Res (List R)):Prop:=∃ t,PA X es t/\SndA X.mg E t f
def xh (X:Cx)(E:XK)(e:Expr)(f:En->Res Bool):Prop:=∃ t,PT X e t/\SndT X.mg E t f
def PWD (X:Cx)(E:XK)(e:Expr)(f:En->Res Bool):Prop:=∃ t,PW X e t/\SndT X.mg E t f
theorem PWD.pt {X:Cx}{E:XK}{e:Expr}{f:En->Res Bool}(h:PWD X E e f):xh X E e f:=let ⟨t,a,b⟩:=h;⟨t,a.pt,b⟩
section
variable {mg:Str->Option Value}{E:XK}{g:Gd}{M M':Addr->Prop}{ρ:Pr}{env:En}{σ:St}{H H':Hp}
theorem PostE.ext {Q:VK}{r:Res R}(e:Ext M H M' H')(p:PostE mg E g M ρ env σ H Q r):PostE mg E g M' ρ env σ H' Q r:=by
 cases r with
 |stuck=>exact p
 |exc c=>exact p
 |ok r=>exact fun v M2 H2 e2 rep2 ro=>p v M2 H2 (e.trans e2) rep2 (ro.back e.h)
theorem PostA.ext {Q:List V->Hp->Prop}{r:Res (List R)}(e:Ext M H M' H')(p:PostA mg E g M ρ env σ H Q r):PostA mg E g M' ρ env σ H' Q r:=by
 cases r with
 |stuck=>exact p
 |exc c=>exact p
 |ok r=>exact fun v M2 H2 e2=>p v M2 H2 (e.trans e2)
theorem PostT.ext {Q:Bool->Hp->Prop}{r:Res Bool}(e:Ext M H M' H')(p:PostT mg E g M ρ env σ H Q r):PostT mg E g M' ρ env σ H' Q r:=by
 cases r with
 |stuck=>exact p
 |exc c=>exact p
 |ok r=>exact fun M2 H2 e2=>p M2 H2 (e.trans e2)
theorem PostE.val {Q:VK}{d:D}{fr:Bool}{al:List Nat}{v:V}(p:PostE mg E g M ρ env σ H Q (.ok (mkV d fr al)))(rep:Rep g M ρ env σ H)(h:Is H (vmsk g M fr ρ al) d v):Q v H:=
 p v M H (Ext.refl M H) rep (ROk.mkV h)
theorem PostE.new {Q:VK}{ds:List D}{fr:Bool}{vs:List V}{a:Addr}(p:PostE mg E g M ρ env σ H Q (.ok (.new ds fr)))(rep:Rep g M ρ env σ H)(ha:H a=none)(h:IsAll H (msk g M fr) ds vs):Q (.ref a) (az H a (.lst vs)):=by
 have s:Same H (az H a (.lst vs)):=aU ha
 obtain⟨h0,hm,ho⟩:=rep.free ha
 exact p _ M _ ⟨fun _ z=>z,s,fun _ z=>.inl z⟩ (rep.grow s) ⟨a,vs,rfl,ai,hm,ha,ho,IsAll.same s h⟩
theorem PostE.tup {Q:VK}{ds:List D}{fr:Bool}{al:List Nat}{vs:List V}{a:Addr}(p:PostE mg E g M ρ env σ H Q (.ok (mkV (.tup ds) fr al)))(rep:Rep g M ρ env σ H)(ha:H a=none)(h:IsAll H (vmsk g M fr ρ al) ds vs):Q (.ref a) (az H a (.tup vs)):=by
 have s:Same H (az H a (.tup vs)):=aU ha
 exact p _ M _ ⟨fun _ z=>z,s,fun _ z=>.inl z⟩ (rep.grow s) (ROk.mkV ⟨a,vs,rfl,ai,IsAll.same s h⟩)
theorem Snd.one {t:TE}{f:En->Res R}(h:Snd mg E t f)(rep:Rep g M ρ env σ H){α:Type}{K:R->Res α}{P:(M:Addr->Prop)->(H:Hp)->Res α->Prop}{Q:VK}
 (hp:P M H ((f env).bind K)) (hs:∀ M H,P M H .stuck->False) (hx:∀ M H c,P M H (.exc c)->A_ mg E g c) (he:∀ M H M' H' r,Ext M H M' H'->P M H r->P M' H' r)
 (k:∀ r v M' H',Ext M H M' H'->Rep g M' ρ env σ H'->Is H' (vmsk g M' r.fr ρ r.al) r.d v->P M' H' (K r)->Q v H'):t σ H Q:=by
 refine h g M ρ env σ H Q rep ?_
 cases e:f env with
 |stuck=>rw[e]at hp;exact hs _ _ hp
 |exc c=>rw[e]at hp;exact hx _ _ c hp
 |ok r=>
  rw[e]at hp
  intro v M1 H1 e1 rep1 ro
  obtain⟨M2,e2,_,rep2,is⟩:=ro.is rep1 e1 rep.same
  exact k r v M2 H1 e2 rep2 is (he _ _ _ _ _ e2 hp)
theorem Snd.oneE {t:TE}{f:En->Res R}(h:Snd mg E t f)(rep:Rep g M ρ env σ H){K:R->Res R}{Q':VK}{Q:VK}(hp:PostE mg E g M ρ env σ H Q' ((f env).bind K))
 (k:∀ r v M' H',Ext M H M' H'->Rep g M' ρ env σ H'->Is H' (vmsk g M' r.fr ρ r.al) r.d v->PostE mg E g M' ρ env σ H' Q' (K r)->Q v H'):t σ H Q:=
 h.one rep (P:=fun M H r=>PostE mg E g M ρ env σ H Q' r) hp (fun _ _ z=>z) (fun _ _ _ z=>z) (fun _ _ _ _ _ e p=>p.ext e) k
theorem Snd.oneA {t:TE}{f:En->Res R}(h:Snd mg E t f)(rep:Rep g M ρ env σ H){K:R->Res (List R)}{Q':List V->Hp->Prop}{Q:VK}(hp:PostA mg E g M ρ env σ H Q' ((f env).bind K))
 (k:∀ r v M' H',Ext M H M' H'->Rep g M' ρ env σ H'->Is H' (vmsk g M' r.fr ρ r.al) r.d v->PostA mg E g M' ρ env σ H' Q' (K r)->Q v H'):t σ H Q:=
 h.one rep (P:=fun M H r=>PostA mg E g M ρ env σ H Q' r) hp (fun _ _ z=>z) (fun _ _ _ z=>z) (fun _ _ _ _ _ e p=>p.ext e) k
theorem Snd.oneT {t:TE}{f:En->Res R}(h:Snd mg E t f)(rep:Rep g M ρ env σ H){K:R->Res Bool}{Q':Bool->Hp->Prop}{Q:VK}(hp:PostT mg E g M ρ env σ H Q' ((f env).bind K))
 (k:∀ r v M' H',Ext M H M' H'->Rep g M' ρ env σ H'->Is H' (vmsk g M' r.fr ρ r.al) r.d v->PostT mg E g M' ρ env σ H' Q' (K r)->Q v H'):t σ H Q:=
 h.one rep (P:=fun M H r=>PostT mg E g M ρ env σ H Q' r) hp (fun _ _ z=>z) (fun _ _ _ z=>z) (fun _ _ _ _ _ e p=>p.ext e) k
theorem Snd.twoE {ta tb:TE}{fa fb:En->Res R}(ha:Snd mg E ta fa)(hb:Snd mg E tb fb)(rep:Rep g M ρ env σ H){K:R->R->Res R}{Q':VK}{S:V->V->Hp->Prop}
 (hp:PostE mg E g M ρ env σ H Q' ((fa env).bind fun ra=>(fb env).bind fun rb=>K ra rb))
 (k:∀ ra rb x y M' H',Rep g M' ρ env σ H'->Is H' (vmsk g M' ra.fr ρ ra.al) ra.d x->Is H' (vmsk g M' rb.fr ρ rb.al) rb.d y->PostE mg E g M' ρ env σ H' Q' (K ra rb)->S x y H') :
 ta σ H fun x H1=>tb σ H1 fun y H2=>S x y H2:=
 ha.oneE rep hp fun ra x M1 H1 e1 rep1 i1 p1=>hb.oneE rep1 p1 fun rb y M2 H2 e2 rep2 i2 p2=>k ra rb x y M2 H2 rep2 (i1.ext e2) i2 p2
end
end L3
namespace L3
open PySem PySem.Spec PyProof.Rows L2
def lim:Nat:=1000000
theorem fy {n:Nat}(h:n<=lim):n<=sizeLine:=by rw[sizeLine_eq];unfold lim at h;omega
theorem k7 {n:Nat}(h:n<lim):n<sizeLine:=by rw[sizeLine_eq];unfold lim at h;omega
def jb (ds:List D)(fr:Bool)(al:List Nat):R:=if D.flats ds then .new ds true else if al.isEmpty then .new ds fr else .val (.lst ds) fr al
section
variable {mg:Str->Option Value}{E:XK}{g:Gd}{M M':Addr->Prop}{ρ:Pr}{env:En}{σ:St}{H H':Hp}
theorem vmsk.nil {fr:Bool}{a:Addr}(h:vmsk g M fr ρ [] a):msk g M fr a:=h.elim id fun⟨_,z,_⟩=>absurd z (by simp)
theorem PostE.lst {Q:VK}{ds:List D}{fr:Bool}{al:List Nat}{vs:List V}{a:Addr}(p:PostE mg E g M ρ env σ H Q (.ok (jb ds fr al)))(rep:Rep g M ρ env σ H)(ha:H a=none)(h:IsAll H (vmsk g M fr ρ al) ds vs):Q (.ref a) (az H a (.lst vs)):=by
 unfold jb at p
 by_cases hf:D.flats ds=true
 ·rw[if_pos hf]at p
  exact p.new rep ha (IsAll.flat hf h)
 ·rw[if_neg hf]at p
  cases al with
  |nil=>
   exact PostE.new (p:=p) rep ha (IsAll.weak (fun _ z=>z.nil) h)
  |cons i al=>
   have p:PostE mg E g M ρ env σ H Q (.ok (.val (.lst ds) fr (i::al))):=p
   have s:Same H (az H a (.lst vs)):=aU ha
   obtain⟨h0,hm,ho⟩:=rep.free ha
   refine p _ (fun b=>M b\/b=a) _ ⟨fun _=>.inl,s,fun b z=>z.imp id fun(e:b=a)=>by rw[e];exact ha⟩ ((rep.grow s).more ai h0 ho) ⟨a,vs,rfl,.inl ⟨ai,.inl ⟨.inr rfl,fun _=>h0⟩⟩,?_⟩
   exact(IsAll.same s h).weak fun b z=>z.mono fun _=>.inl
theorem Is.rd {m:Addr->Prop}{ds:List D}{v:V}(h:Is H m (.lst ds) v):∃ a vs,v=.ref a/\Rd H a (.lst vs)/\IsAll H m ds vs:=by
 obtain⟨a,vs,e,h1,h2⟩:=h
 exact⟨a,vs,e,h1.imp (·.1) fun⟨o,z,_⟩=>⟨o,z⟩,h2⟩
end
section
variable {X:Cx}{E:XK}
def ad (i:Nat):En->Res R:=fun env=>match env[i]? with
 |some (some (.val d fr))=>.ok (mkV d fr [])
 |some (some (.own ds fr))=>.ok (.val (.lst ds) fr [i])
 |some (some (.tre d))=>.ok (.val d true [i])
 |some (some (.pin d))=>.ok (.val d true [i])
 |_=>.stuck
theorem vQ {mg:Str->Option Value}{i:Nat}:Snd mg E (fS i) (ad i):=by
 intro g M ρ env σ H Q rep p
 unfold ad at p
 cases e1:env[i]? with
 |none=>rw[e1]at p;exact p.elim
 |some o=>
  cases o with
  |none=>rw[e1]at p;exact p.elim
  |some sl=>
   obtain⟨v,ev,k⟩:=rep.slot i sl e1
   rw[e1]at p
   refine⟨v,ev,?_⟩
   cases sl with
   |val d fr=>exact PostE.val p rep (Is.weak (fun _ z=>.inl z) k)
   |own ds fr=>
    obtain⟨a,vs,rfl,h1,h2,h4⟩:=k
    exact p _ M H (Ext.refl M H) rep ⟨a,vs,rfl,.inl ⟨h1,.inr ⟨i,by simp,(h2 a).mpr rfl⟩⟩,IsAll.weak (fun _ z=>.inl z) h4⟩
   |tre d=>exact p _ M H (Ext.refl M H) rep (Is.weak (fun a z=>.inr ⟨i,by simp,z⟩) k)
   |mes d=>exact p.elim
   |pin d=>exact p _ M H (Ext.refl M H) rep (Is.weak (fun a z=>.inr ⟨i,by simp,z⟩) k.1)
theorem hG {i:Nat}{e:Expr}(h:PE X e (fS i)):PD X E e (ad i):=⟨_,h,vQ⟩
def vC (d:D):En->Res R:=fun _=>.ok (.val d true [])
theorem yO {mg:Str->Option Value}{d:D}{v:V}(h:∀ H m,Is H m d v):Snd mg E (tC v) (vC d):=fun g M ρ env σ H Q rep p=>p v M H (Ext.refl M H) rep (h H _)
theorem ap {i j pos}:PD X E (.Constant (.int i) j pos) (vC (.int i)):=⟨_,xY,yO fun _ _=>rfl⟩
theorem dR {b j pos}:PD X E (.Constant (.bool b) j pos) (vC (.bl b)):=⟨_,CL,yO fun _ _=>rfl⟩
theorem yP {j pos}:PD X E (.Constant .none j pos) (vC .non):=⟨_,Ds,yO fun _ _=>rfl⟩
def v2 (op:R->R->Res R)(fa fb:En->Res R):En->Res R:=fun env=>(fa env).bind fun ra=>(fb env).bind fun rb=>op ra rb
def mD (X:Cx)(E:XK)(f:Value->Value->Sem Value)(op:R->R->Res R):Prop:=∃ r:R2,OpR X f r/\
 ∀ g M ρ env σ H Q ra rb x y,Rep g M ρ env σ H->Is H (vmsk g M ra.fr ρ ra.al) ra.d x->Is H (vmsk g M rb.fr ρ rb.al) rb.d y->PostE X.mg E g M ρ env σ H Q (op ra rb)->r x y H Q
theorem aw {a b:Expr}{fa fb:En->Res R}{op:Operator}{k:R->R->Res R}{pos:Pos}(ho:mD X E (binaryOp op) k)(ha:PD X E a fa)(hb:PD X E b fb):PD X E (.BinOp a op b pos) (v2 k fa fb):=by
 obtain⟨r,h1,h2⟩:=ho
 obtain⟨ta,pa,sa⟩:=ha
 obtain⟨tb,pb,sb⟩:=hb
 exact⟨_,FM h1 pa pb,fun g M ρ env σ H Q rep p=>sa.twoE sb rep p fun ra rb x y M' H' rep' i1 i2 p'=>h2 g M' ρ env σ H' Q ra rb x y rep' i1 i2 p'⟩
theorem jd {a b:Expr}{fa fb:En->Res R}{op:CmpOp}{k:R->R->Res R}{pos:Pos}(ho:mD X E (compareOp op) k)(ha:PD X E a fa)(hb:PD X E b fb)(hm:behindInMarks op b=false):PD X E (.Compare a [op] [b] pos) (v2 k fa fb):=by
 obtain⟨r,h1,h2⟩:=ho
 obtain⟨ta,pa,sa⟩:=ha
 obtain⟨tb,pb,sb⟩:=hb
 exact⟨_,Bk h1 pa pb hm,fun g M ρ env σ H Q rep p=>sa.twoE sb rep p fun ra rb x y M' H' rep' i1 i2 p'=>h2 g M' ρ env σ H' Q ra rb x y rep' i1 i2 p'⟩
def oI (C:Int->Int->Bool)(k:Int->Int->D)(a b:R):Res R:=match a.d,b.d with
 | .int i,.int j=>if C i j then .ok (.val (k i j) true []) else .stuck
 |_,_=>.stuck
theorem rp {f:Value->Value->Sem Value}{C:Int->Int->Prop}{kV:Int->Int->V}(c:Int->Int->Bool)(k:Int->Int->D)(ho:OpR X f (rI C kV))(hc:∀ i j,c i j=true->C i j)(hk:∀ H m i j,Is H m (k i j) (kV i j)):mD X E f (oI c k):=by
 refine⟨_,ho,fun g M ρ env σ H Q ra rb x y rep i1 i2 p=>?_⟩
 unfold oI at p
 cases e1:ra.d with
 |int i=>
  rw[e1]at p i1
  cases e2:rb.d with
  |int j=>
   rw[e2]at p i2
   cases i1;cases i2
   by_cases h:c i j=true
   ·simp only[h,if_true]at p
    exact⟨i,j,rfl,rfl,hc i j h,p _ M H (Ext.refl M H) rep (hk H _ i j)⟩
   ·simp only[h]at p
    exact p.elim
  |_=>rw[e2]at p;exact p.elim
 |_=>rw[e1]at p;exact p.elim
theorem tO {f:Value->Value->Sem Value}{kV:Int->Int->V}(k:Int->Int->D)(ho:OpR X f (DG kV))(hk:∀ H m i j,Is H m (k i j) (kV i j)):mD X E f (oI (fun _ _=>true) k):=by
 refine rp (C:=fun _ _=>True) (kV:=kV) _ k (fun pins s σ H x y v u Q I rx ry h=>?_) (fun _ _ _=>True.intro) hk
 obtain⟨i,j,a,b,_,q⟩:=h
 exact ho pins s σ H x y v u Q I rx ry ⟨i,j,a,b,q⟩
def Eg:R->R->Res R:=oI (fun _ _=>true) fun i j=>.int (i-j)
def yQ (i j:Int):Bool:=(decide (-(2 ^ 64)<i)&&decide (i<2 ^ 64)) || (decide (-(2 ^ 64)<j)&&decide (j<2 ^ 64))
def xi:R->R->Res R:=oI yQ fun i j=>.int (i*j)
def f_:R->R->Res R:=oI (fun _ j=>decide (0<j)&&decide (j<1073741824)) fun i j=>.int (i / j)
def cS:R->R->Res R:=oI (fun _ j=>decide (0<j)) fun i j=>.int (i % j)
theorem Eh:mD X E (binaryOp .Sub) Eg:=tO _ DJ fun _ _ _ _=>rfl
theorem oD:mD X E (binaryOp .Mult) xi:=rp _ _ DL (fun i j h=>by
 simp only[yQ,Bool.or_eq_true,Bool.and_eq_true,decide_eq_true_eq]at h
 exact h) fun _ _ _ _=>rfl
theorem cb:mD X E (binaryOp .FloorDiv) f_:=rp _ _ Bj (fun i j h=>by
 simp only[Bool.and_eq_true,decide_eq_true_eq]at h
 exact h) fun _ _ _ _=>rfl
theorem aZ:mD X E (binaryOp .Mod) cS:=rp _ _ DM (fun i j h=>by simpa using h) fun _ _ _ _=>rfl
def Hj:R->R->Res R:=oI (fun _ _=>true) fun i j=>.bl (decide (i<j))
theorem F3:mD X E (compareOp .Lt) Hj:=tO _ FN fun _ _ _ _=>rfl
theorem Inv.rdL {pins:List (Addr×Obj)}{σ:St}{H:Hp}{s:Shared}{l:Addr}{xs:List V}(I:L2.Inv X pins σ H s)(h:Rd H l (.lst xs)) :
 xs.length<=sizeLine/\∃(its:List Value)(n:Nat),Vals xs its/\xs.length=its.length/\s.heap.get? l=some { cls:=.type "list",data:=.seq its.toArray n }:=by
 obtain⟨z,its,n,r,e⟩:=(h.ok I.hok:ObjOk X.prog X.w H s.heap l (.lst xs))
 exact⟨z,its,n,r,r.length,e⟩
def F4:R2:=fun x y H Q=>∃ l b xs zs,x=.ref l/\y=.ref b/\Rd H l (.lst xs)/\Rd H b (.lst zs)/\xs.length+zs.length<=sizeLine/\∀ p,H p=none->Q (.ref p) (az H p (.lst (xs++zs)))
theorem op_catS:OpR X (binaryOp .Add) F4:=by
 intro pins s σ H x y v u Q I rx ry h
 obtain⟨l,b,xs,zs,rfl,rfl,hH,hB,hz,q⟩:=h
 cases rx
 cases ry
 obtain⟨z,its,n,r,hl,e⟩:=Inv.rdL I hH
 obtain⟨z2,its2,n2,r2,hl2,e2⟩:=Inv.rdL I hB
 refine PySem.P.add_list e e2 ?_ (by rw[List.size_toArray,List.size_toArray];omega)
 have ea:its.toArray++its2.toArray=(its++its2).toArray:=by simp
 rw[ea]
 exact⟨.ref _,_,I.lnew (t':=s.toks) (r.append r2) (by rw[List.length_append];omega),rfl,q _ I.fresh⟩
def fA (a b:R):Res R:=match a.d,b.d with
 | .int i,.int j=>.ok (.val (.int (i+j)) true [])
 | .lst xs,.lst ys=>if xs.length+ys.length<=lim then .ok (jb (xs++ys) (a.fr&&b.fr) (a.al++b.al)) else .stuck
 | .tup xs,.tup ys=>if xs.length+ys.length<=lim/\xs≠[] then .ok (mkV (.tup (xs++ys)) (a.fr&&b.fr) (a.al++b.al)) else .stuck
 | .str x,.str y=>if x.length+y.length<=lim then .ok (.val (.str (x++y)) true []) else .stuck
 |_,_=>.stuck
section
variable {g:Gd}{M:Addr->Prop}{ρ:Pr}{env:En}{σ:St}
theorem vmsk.l {f1 f2:Bool}{l1 l2:List Nat}{a:Addr}(h:vmsk g M f1 ρ l1 a):vmsk g M (f1&&f2) ρ (l1++l2) a:=
 h.imp (fun z=>⟨z.1,fun e=>z.2 (by cases f1<;>simp_all)⟩) fun⟨i,hi,o⟩=>⟨i,by simp[hi],o⟩
theorem vmsk.r {f1 f2:Bool}{l1 l2:List Nat}{a:Addr}(h:vmsk g M f2 ρ l2 a):vmsk g M (f1&&f2) ρ (l1++l2) a:=
 h.imp (fun z=>⟨z.1,fun e=>z.2 (by cases f2<;>simp_all)⟩) fun⟨i,hi,o⟩=>⟨i,by simp[hi],o⟩
end
theorem dr:mD X E (binaryOp .Add) fA:=by
 refine⟨_,op_add.or (op_catS.or (op_catT.or sN)),fun g M ρ env σ H Q ra rb x y rep i1 i2 p=>?_⟩
 unfold fA at p
 cases e1:ra.d with
 |int i=>
  rw[e1]at p i1
  cases e2:rb.d with
  |int j=>
   rw[e2]at p i2
   cases i1;cases i2
   exact .inl ⟨i,j,rfl,rfl,p _ M H (Ext.refl M H) rep rfl⟩
  |_=>rw[e2]at p;exact p.elim
 |lst xs=>
  rw[e1]at p i1
  cases e2:rb.d with
  |lst ys=>
   rw[e2]at p i2
   obtain⟨a,vs,rfl,h1,h2⟩:=i1.rd
   obtain⟨b,ws,rfl,h3,h4⟩:=i2.rd
   by_cases hz:xs.length+ys.length<=lim
   ·simp only[hz,if_true]at p
    refine .inr (.inl ⟨a,b,vs,ws,rfl,rfl,h1,h3,by rw[h2.length,h4.length];exact fy hz,fun q hq=>?_⟩)
    exact p.lst rep hq ((h2.weak fun _ z=>z.l).append (h4.weak fun _ z=>z.r))
   ·simp only[hz,if_false]at p
    exact p.elim
  |_=>rw[e2]at p;exact p.elim
 |tup xs=>
  rw[e1]at p i1
  cases e2:rb.d with
  |tup ys=>
   rw[e2]at p i2
   obtain⟨a,vs,rfl,h1,h2⟩:=i1
   obtain⟨b,ws,rfl,h3,h4⟩:=i2
   dsimp only at p
   by_cases hz:xs.length+ys.length<=lim/\xs≠[]
   ·rw[if_pos hz]at p
    have n1:vs≠[]:=fun z=>hz.2 (by have:=h2.length;rw[z]at this;exact List.eq_nil_of_length_eq_zero this.symm)
    refine .inr (.inr (.inl ⟨a,b,vs,ws,rfl,rfl,SqT.of h1,SqT.of h3,n1,by rw[h2.length,h4.length];exact fy hz.1,fun z=>?_,fun _ q hq=>?_⟩))
    ·have ey:ys=[]:=by have:=h4.length;rw[z]at this;exact List.eq_nil_of_length_eq_zero this.symm
     rw[ey,List.append_nil]at p
     exact p.val rep (Is.weak (d:=.tup xs) (fun _ z=>z.l) ⟨a,vs,rfl,h1,h2⟩)
    ·exact p.tup rep hq ((h2.weak fun _ z=>z.l).append (h4.weak fun _ z=>z.r))
   ·rw[if_neg hz]at p
    exact p.elim
  |_=>rw[e2]at p;exact p.elim
 |str xs=>
  rw[e1]at p i1
  cases e2:rb.d with
  |str ys=>
   rw[e2]at p i2
   cases i1;cases i2
   by_cases hz:xs.length+ys.length<=lim
   ·simp only[hz,if_true]at p
    exact .inr (.inr (.inr ⟨xs,ys,rfl,rfl,fy hz,p _ M H (Ext.refl M H) rep rfl⟩))
   ·simp only[hz,if_false]at p
    exact p.elim
  |_=>rw[e2]at p;exact p.elim
 |_=>rw[e1]at p;exact p.elim
def sG (a b:R):Res R:=if a.d.dep<=50/\b.d.dep<=50 then .ok (.val (.bl (cB a.d b.d)) true []) else .stuck
def Ba (a b:R):Res R:=if a.d.dep<=50/\b.d.dep<=50 then .ok (.val (.bl (!cB a.d b.d)) true []) else .stuck
def Hk:R2:=fun x y H Q=>∃ d e m m',Is H m d x/\Is H m' e y/\(d.dep<=50/\e.dep<=50)/\Q (.bl (cB d e)) H
def Hl:R2:=fun x y H Q=>∃ d e m m',Is H m d x/\Is H m' e y/\(d.dep<=50/\e.dep<=50)/\Q (.bl (!cB d e)) H
theorem Ei (hu:X.A.units+64<cLine):OpR X (compareOp .Eq) Hk:=by
 intro pins s σ H x y v u Q I rx ry h
 obtain⟨d,e,m,m',h1,h2,hd,q⟩:=h
 exact BF I.hok (by omega) (yN I.hok (A:=X.A) (n:=50) (by omega) (by omega)) hd.1 (by omega) (by omega) h1 h2 rx ry X.prog X.w X.xe _ ⟨.bl _,H,I,rfl,q⟩
theorem Ej (hu:X.A.units+64<cLine):OpR X (compareOp .NotEq) Hl:=by
 intro pins s σ H x y v u Q I rx ry h
 obtain⟨d,e,m,m',h1,h2,hd,q⟩:=h
 exact BG I.hok (by omega) (yN I.hok (A:=X.A) (n:=50) (by omega) (by omega)) hd.1 (by omega) (by omega) h1 h2 rx ry X.prog X.w X.xe _ ⟨.bl _,H,I,rfl,q⟩
theorem gL (hu:X.A.units+64<cLine):mD X E (compareOp .Eq) sG:=by
 refine⟨_,Ei hu,fun g M ρ env σ H Q ra rb x y rep i1 i2 p=>?_⟩
 unfold sG at p
 by_cases h:ra.d.dep<=50/\rb.d.dep<=50
 ·rw[if_pos h]at p
  exact⟨_,_,_,_,i1,i2,h,p _ M H (Ext.refl M H) rep rfl⟩
 ·rw[if_neg h]at p;exact p.elim
theorem vR (hu:X.A.units+64<cLine):mD X E (compareOp .NotEq) Ba:=by
 refine⟨_,Ej hu,fun g M ρ env σ H Q ra rb x y rep i1 i2 p=>?_⟩
 unfold Ba at p
 by_cases h:ra.d.dep<=50/\rb.d.dep<=50
 ·rw[if_pos h]at p
  exact⟨_,_,_,_,i1,i2,h,p _ M H (Ext.refl M H) rep rfl⟩
 ·rw[if_neg h]at p;exact p.elim
end
end L3
namespace L3
open PySem PySem.Spec PyProof.Rows L2
section
variable {X:Cx}{E:XK}
def D.isNon:D->Bool
 | .non=>true
 |_=>false
theorem Is.non_iff {H:Hp}{m:Addr->Prop}{d:D}{v:V}(h:Is H m d v):decide (v=.non)=d.isNon:=by
 cases d with
 |non=>cases h;rfl
 |bl b=>cases h;rfl
 |int b=>cases h;rfl
 |str b=>cases h;rfl
 |tup ds=>obtain⟨a,vs,rfl,_⟩:=h;rfl
 |lst ds=>obtain⟨a,vs,rfl,_⟩:=h;rfl
 |dic ks ds=>obtain⟨a,vs,rfl,_⟩:=h;rfl
def tP (fa:En->Res R):En->Res R:=fun env=>(fa env).bind fun ra=>.ok (.val (.bl ra.d.isNon) true [])
theorem yR {a:Expr}{fa:En->Res R}{pos pos':Pos}{j:Nat}(ha:PD X E a fa):PD X E (.Compare a [.Is] [.Constant .none j pos'] pos) (tP fa):=by
 obtain⟨ta,pa,sa⟩:=ha
 refine⟨_,Dt (xZ pa),fun g M ρ env σ H Q rep p=>sa.oneE rep p fun r v M' H' e rep' i p'=>?_⟩
 show Q (.bl (decide (v=.non))) H'
 rw[i.non_iff]
 exact p' _ M' H' (Ext.refl _ _) rep' rfl
def Ek (fa:En->Res R):En->Res R:=fun env=>(fa env).bind fun ra=>match ra.d with
 | .bl b=>.ok (.val (.bl (!b)) true [])
 |_=>.stuck
def BH (fa fb:En->Res R):En->Res R:=fun env=>(fa env).bind fun ra=>match ra.d with
 | .bl true=>fb env
 | .bl false=>.ok (.val (.bl false) true [])
 |_=>.stuck
def Hm (fa fb:En->Res R):En->Res R:=fun env=>(fa env).bind fun ra=>match ra.d with
 | .bl true=>.ok (.val (.bl true) true [])
 | .bl false=>fb env
 |_=>.stuck
theorem El {a:Expr}{fa:En->Res R}{pos:Pos}(ha:PD X E a fa):PD X E (.UnaryOp .Not a pos) (Ek fa):=by
 obtain⟨ta,pa,sa⟩:=ha
 refine⟨_,DA pa,fun g M ρ env σ H Q rep p=>sa.oneE rep p fun r v M' H' e rep' i p'=>?_⟩
 cases q:r.d with
 |bl b=>
  rw[q]at i
  simp only[q]at p'
  cases i
  exact⟨b,rfl,p' _ M' H' (Ext.refl _ _) rep' rfl⟩
 |_=>simp only[q]at p';exact p'.elim
theorem tQ {op:BoolOp}{a:Expr}{fa:En->Res R}{pos:Pos}(ha:PD X E a fa):PD X E (.BoolOp op [a] pos) fa:=let ⟨t,pa,sa⟩:=ha;⟨t,Dy pa,sa⟩
theorem yS {a b:Expr}{aQ:List Expr}{fa fb:En->Res R}{pos:Pos}(ha:PD X E a fa)(hb:PD X E (.BoolOp .And (b::aQ) pos) fb):PD X E (.BoolOp .And (a::b::aQ) pos) (BH fa fb):=by
 obtain⟨ta,pa,sa⟩:=ha
 obtain⟨tb,pb,sb⟩:=hb
 refine⟨_,Dz pa pb,fun g M ρ env σ H Q rep p=>sa.oneE rep p fun r v M' H' e rep' i p'=>?_⟩
 cases q:r.d with
 |bl b=>
  rw[q]at i
  simp only[q]at p'
  cases i
  refine⟨b,rfl,?_⟩
  cases b with
  |true=>exact wV (sb g M' ρ env σ H' Q rep' p')
  |false=>exact wU (p' _ M' H' (Ext.refl _ _) rep' rfl)
 |_=>simp only[q]at p';exact p'.elim
theorem F5 {a b:Expr}{aQ:List Expr}{fa fb:En->Res R}{pos:Pos}(ha:PD X E a fa)(hb:PD X E (.BoolOp .Or (b::aQ) pos) fb):PD X E (.BoolOp .Or (a::b::aQ) pos) (Hm fa fb):=by
 obtain⟨ta,pa,sa⟩:=ha
 obtain⟨tb,pb,sb⟩:=hb
 refine⟨_,FE pa pb,fun g M ρ env σ H Q rep p=>sa.oneE rep p fun r v M' H' e rep' i p'=>?_⟩
 cases q:r.d with
 |bl b=>
  rw[q]at i
  simp only[q]at p'
  cases i
  refine⟨b,rfl,?_⟩
  cases b with
  |true=>exact wV (p' _ M' H' (Ext.refl _ _) rep' rfl)
  |false=>exact wU (sb g M' ρ env σ H' Q rep' p')
 |_=>simp only[q]at p';exact p'.elim
def tru:D->Res Bool
 | .non=>.ok false
 | .bl b=>.ok b
 | .int i=>.ok (i != 0)
 | .str y=>if y.length<=lim then .ok ((y.length:Int) != 0) else .stuck
 | .tup ds=>.ok (!ds.isEmpty)
 | .lst ds=>.ok (!ds.isEmpty)
 | .dic _ _=>.stuck
theorem Is.tru {H:Hp}{m:Addr->Prop}{d:D}{v:V}{k:Bool}(h:Is H m d v)(e:tru d=.ok k):DP X.K v H k:=by
 cases d with
 |non=>cases h;cases e;rfl
 |bl b=>cases h;cases e;rfl
 |int b=>cases h;cases e;rfl
 |str b=>
  cases h
  unfold L3.tru at e
  dsimp only at e
  by_cases hl:b.length<=lim
  ·rw[if_pos hl]at e;cases e;exact⟨fy hl,rfl⟩
  ·rw[if_neg hl]at e;cases e
 |tup ds=>
  obtain⟨a,vs,rfl,h1,h2⟩:=h
  cases e
  refine .inr (.inl ⟨vs,SqT.of h1,?_⟩)
  have:=h2.length
  cases ds<;>cases vs<;>simp_all
 |lst ds=>
  obtain⟨a,vs,rfl,h1,h2⟩:=h.rd
  cases e
  refine .inl ⟨vs,.inl h1,?_⟩
  have:=h2.length
  cases ds<;>cases vs<;>simp_all
 |dic ks ds=>cases e
def jX (fa:En->Res R):En->Res Bool:=fun env=>(fa env).bind fun ra=>tru ra.d
theorem dt {a:Expr}{fa:En->Res R}(ha:PD X E a fa)(he:∀ whole,isTrue a X.env whole=(do let v <- whole;standAt a.pos;holding [v] (truthy v)):=by intro _;rfl):xh X E a (jX fa):=by
 obtain⟨ta,pa,sa⟩:=ha
 refine⟨_,yb pa he,fun g M ρ env σ H Q rep p=>sa.oneT rep p fun r v M' H' e rep' i p'=>?_⟩
 cases q:tru r.d with
 |stuck=>rw[q]at p';exact p'.elim
 |exc c=>
  exfalso
  unfold tru at q
  cases z:r.d<;>simp only[z]at q<;>first|cases q|(split at q<;>cases q)
 |ok k=>
  rw[q]at p'
  exact⟨k,i.tru q,p' M' H' (Ext.refl _ _) rep'⟩
def vB (fa:En->Res R):En->Res Bool:=fun env=>(fa env).bind fun ra=>match ra.d with
 | .bl b=>.ok b
 |_=>.stuck
theorem aM {a b:Expr}{fa fb:En->Res R}{op:CmpOp}{k:R->R->Res R}{pos:Pos}(ho:mD X E (compareOp op) k)(ha:PD X E a fa)(hb:PD X E b fb)(hm:behindInMarks op b=false):xh X E (.Compare a [op] [b] pos) (vB (v2 k fa fb)):=by
 obtain⟨r,h1,h2⟩:=ho
 obtain⟨ta,pa,sa⟩:=ha
 obtain⟨tb,pb,sb⟩:=hb
 have S:Snd X.mg E (Fw r ta tb) (v2 k fa fb):=fun g M ρ env σ H Q rep p=>sa.twoE sb rep p fun ra rb x y M' H' rep' i1 i2 p'=>h2 g M' ρ env σ H' Q ra rb x y rep' i1 i2 p'
 refine⟨_,Bl h1 pa pb hm,fun g M ρ env σ H Q rep p=>S.oneT rep p fun r v M' H' e rep' i p'=>?_⟩
 cases q:r.d with
 |bl b=>
  rw[q]at i
  simp only[q]at p'
  cases i
  exact⟨b,rfl,p' M' H' (Ext.refl _ _) rep'⟩
 |_=>simp only[q]at p';exact p'.elim
theorem BI {a:Expr}{fa:En->Res R}{pos pos':Pos}{j:Nat}(ha:PD X E a fa):xh X E (.Compare a [.Is] [.Constant .none j pos'] pos) (fun env=>(fa env).bind fun ra=>.ok ra.d.isNon):=by
 obtain⟨ta,pa,sa⟩:=ha
 refine⟨_,Du (xZ pa),fun g M ρ env σ H Q rep p=>sa.oneT rep p fun r v M' H' e rep' i p'=>?_⟩
 exact⟨_,rfl,by rw[i.non_iff];exact p' M' H' (Ext.refl _ _) rep'⟩
def k8 (fa:En->Res Bool):En->Res Bool:=fun env=>(fa env).bind fun b=>.ok (!b)
def xj (fa fb:En->Res Bool):En->Res Bool:=fun env=>(fa env).bind fun b=>if b then fb env else .ok false
def CY (fa fb:En->Res Bool):En->Res Bool:=fun env=>(fa env).bind fun b=>if b then .ok true else fb env
section
variable {mg:Str->Option Value}{g:Gd}{M M':Addr->Prop}{ρ:Pr}{env:En}{σ:St}{H H':Hp}
theorem SndT.oneT {t:TT}{f:En->Res Bool}(h:SndT mg E t f)(rep:Rep g M ρ env σ H){K:Bool->Res Bool}{Q':Bool->Hp->Prop}{Q:Bool->Hp->Prop}(hp:PostT mg E g M ρ env σ H Q' ((f env).bind K))
 (k:∀ b M' H',Ext M H M' H'->Rep g M' ρ env σ H'->PostT mg E g M' ρ env σ H' Q' (K b)->Q b H'):t σ H Q:=by
 refine h g M ρ env σ H Q rep ?_
 cases e:f env with
 |stuck=>rw[e]at hp;exact hp
 |exc c=>rw[e]at hp;exact hp
 |ok b=>rw[e]at hp;exact fun M1 H1 e1 rep1=>k b M1 H1 e1 rep1 (PostT.ext e1 hp)
end
theorem cG {a:Expr}{fa:En->Res Bool}{pos:Pos}(ha:xh X E a fa):xh X E (.UnaryOp .Not a pos) (k8 fa):=by
 obtain⟨ta,pa,sa⟩:=ha
 exact⟨_,Dx pa,fun g M ρ env σ H Q rep p=>sa.oneT rep p fun b M' H' e rep' p'=>p' M' H' (Ext.refl _ _) rep'⟩
theorem im {a:Expr}{fa:En->Res Bool}{pos:Pos}(ha:xh X E a fa):PWD X E (.BoolOp .And [a] pos) fa:=let ⟨t,pa,sa⟩:=ha;⟨t,Bg pa,sa⟩
theorem j8 {a:Expr}{fa:En->Res Bool}{pos:Pos}(ha:xh X E a fa):PWD X E (.BoolOp .Or [a] pos) fa:=let ⟨t,pa,sa⟩:=ha;⟨t,Dv pa,sa⟩
theorem j9 {a b:Expr}{aQ:List Expr}{fa fb:En->Res Bool}{pos:Pos}(ha:xh X E a fa)(hb:PWD X E (.BoolOp .And (b::aQ) pos) fb):PWD X E (.BoolOp .And (a::b::aQ) pos) (xj fa fb):=by
 obtain⟨ta,pa,sa⟩:=ha
 obtain⟨tb,pb,sb⟩:=hb
 refine⟨_,Dw pa pb,fun g M ρ env σ H Q rep p=>sa.oneT rep p fun b M' H' e rep' p'=>?_⟩
 cases b with
 |true=>exact wV (sb g M' ρ env σ H' Q rep' p')
 |false=>exact wU (p' M' H' (Ext.refl _ _) rep')
theorem je {a b:Expr}{aQ:List Expr}{fa fb:En->Res Bool}{pos:Pos}(ha:xh X E a fa)(hb:PWD X E (.BoolOp .Or (b::aQ) pos) fb):PWD X E (.BoolOp .Or (a::b::aQ) pos) (CY fa fb):=by
 obtain⟨ta,pa,sa⟩:=ha
 obtain⟨tb,pb,sb⟩:=hb
 refine⟨_,FA pa pb,fun g M ρ env σ H Q rep p=>sa.oneT rep p fun b M' H' e rep' p'=>?_⟩
 cases b with
 |true=>exact wV (p' M' H' (Ext.refl _ _) rep')
 |false=>exact wU (sb g M' ρ env σ H' Q rep' p')
def BJ (a b:R):Res R:=match a.d,b.d with
 | .lst xs,.int i=>match atI xs i with
  |some d=>.ok (mkV d a.fr a.al)
  |none=>.stuck
 | .tup xs,.int i=>match atI xs i with
  |some d=>.ok (mkV d a.fr a.al)
  |none=>.stuck
 | .str z,.int i=>if z.length<=lim then (match atI z.cps.toList i with
  |some c=>.ok (.val (.str ⟨#[c]⟩) true [])
  |none=>.stuck) else .stuck
 |_,_=>.stuck
theorem IsAll.atI {H:Hp}{m:Addr->Prop}{ds:List D}{vs:List V}{i:Int}{d:D}(h:IsAll H m ds vs)(e:L2.atI ds i=some d):∃ v,L2.atI vs i=some v/\Is H m d v:=by
 unfold L2.atI at e ⊢
 rw[h.length]
 cases q:qM ds.length i with
 |none=>rw[q]at e;cases e
 |some j=>
  rw[q]at e
  exact h.get e
theorem F6:∃ r:R2,IxR X r/\∀ g M ρ env σ H Q ra rb x y,Rep g M ρ env σ H->Is H (vmsk g M ra.fr ρ ra.al) ra.d x->Is H (vmsk g M rb.fr ρ rb.al) rb.d y->PostE X.mg E g M ρ env σ H Q (BJ ra rb)->r x y H Q:=by
 refine⟨_,DX,fun g M ρ env σ H Q ra rb x y rep i1 i2 p=>?_⟩
 unfold BJ at p
 cases e1:ra.d with
 |lst xs=>
  rw[e1]at p i1
  cases e2:rb.d with
  |int i=>
   rw[e2]at p i2
   cases i2
   obtain⟨a,vs,rfl,h1,h2⟩:=i1.rd
   cases q:atI xs i with
   |none=>simp only[q]at p;exact p.elim
   |some d=>
    simp only[q]at p
    obtain⟨v,ev,iv⟩:=h2.atI q
    exact .inl ⟨a,vs,i,v,rfl,rfl,.inl h1,ev,p.val rep iv⟩
  |_=>rw[e2]at p;exact p.elim
 |tup xs=>
  rw[e1]at p i1
  cases e2:rb.d with
  |int i=>
   rw[e2]at p i2
   cases i2
   obtain⟨a,vs,rfl,h1,h2⟩:=i1
   cases q:atI xs i with
   |none=>simp only[q]at p;exact p.elim
   |some d=>
    simp only[q]at p
    obtain⟨v,ev,iv⟩:=h2.atI q
    exact .inr (.inl ⟨a,vs,i,v,rfl,rfl,SqT.of h1,ev,p.val rep iv⟩)
  |_=>rw[e2]at p;exact p.elim
 |str z=>
  rw[e1]at p i1
  cases e2:rb.d with
  |int i=>
   rw[e2]at p i2
   cases i1;cases i2
   by_cases hz:z.length<=lim
   ·simp only[hz,if_true]at p
    cases q:atI z.cps.toList i with
    |none=>simp only[q]at p;exact p.elim
    |some c=>
     simp only[q]at p
     exact .inr (.inr ⟨z,i,c,rfl,rfl,fy hz,q,p _ M H (Ext.refl _ _) rep rfl⟩)
   ·simp only[hz,if_false]at p;exact p.elim
  |_=>rw[e2]at p;exact p.elim
 |_=>rw[e1]at p;exact p.elim
def k9 (i:Nat)(fb:En->Res R):En->Res R:=fun env=>match env[i]? with
 |some (some (.own ds fr))=>(fb env).bind fun rb=>match rb.d with
  | .int k=>match atI ds k with
   |some d=>.ok (mkV d fr [])
   |none=>.stuck
  |_=>.stuck
 |_=>v2 BJ (ad i) fb env
theorem jf {i:Nat}{a b:Expr}{fb:En->Res R}{pos:Pos}(ha:PE X a (fS i))(hb:PD X E b fb)(hs:vA b):PD X E (.Subscript a b pos) (k9 i fb):=by
 obtain⟨r,h1,h2⟩:=F6 (X:=X) (E:=E)
 obtain⟨tb,pb,sb⟩:=hb
 refine⟨_,CO (ix_list.or h1) ha pb hs,fun g M ρ env σ H Q rep p=>?_⟩
 have gen:PostE X.mg E g M ρ env σ H Q (v2 BJ (ad i) fb env)->Fw (fun x y H Q=>DV X.K x y H Q\/r x y H Q) (fS i) tb σ H Q:=fun p=>
  Snd.twoE vQ sb rep p fun ra rb x y M' H' rep' i1 i2 p'=>.inr (h2 g M' ρ env σ H' Q ra rb x y rep' i1 i2 p')
 unfold k9 at p
 cases e1:env[i]? with
 |none=>rw[e1]at p;exact gen p
 |some o=>
  cases o with
  |none=>rw[e1]at p;exact gen p
  |some sl=>
   cases sl with
   |val d fr=>rw[e1]at p;exact gen p
   |tre d=>rw[e1]at p;exact gen p
   |mes d=>rw[e1]at p;exact gen p
   |pin d=>rw[e1]at p;exact gen p
   |own ds fr=>
    rw[e1]at p
    obtain⟨v,ev,a,vs,rfl,k1,k2,k4⟩:=rep.slot i _ e1
    refine⟨_,ev,sb.oneE rep p fun rb y M' H' e rep' i2 p'=>?_⟩
    cases q:rb.d with
    |int k=>
     rw[q]at i2
     simp only[q]at p'
     cases i2
     cases q2:atI ds k with
     |none=>simp only[q2]at p';exact p'.elim
     |some d=>
      simp only[q2]at p'
      have k5:IsAll H' (vmsk g M' fr ρ []) ds vs:=(IsAll.weak (fun _ z=>.inl z) k4:IsAll H (vmsk g M fr ρ []) ds vs).ext e
      obtain⟨w,ew,iw⟩:=k5.atI q2
      exact .inl ⟨a,vs,k,w,rfl,rfl,.inl (.inl (e.h _ _ k1)),ew,p'.val rep' iw⟩
    |_=>simp only[q]at p';exact p'.elim
end
end L3
namespace L3
open PySem PySem.Spec PyProof.Rows L2
section
variable {mg:Str->Option Value}{E:XK}{g:Gd}{M M':Addr->Prop}{ρ:Pr}{env:En}{σ:St}{H H':Hp}
theorem SndA.one {t:TA}{f:En->Res (List R)}(h:SndA mg E t f)(rep:Rep g M ρ env σ H){α:Type}{K:List R->Res α}{P:(M:Addr->Prop)->(H:Hp)->Res α->Prop}{Q:List V->Hp->Prop}
 (hp:P M H ((f env).bind K)) (hs:∀ M H,P M H .stuck->False) (hx:∀ M H c,P M H (.exc c)->A_ mg E g c) (he:∀ M H M' H' r,Ext M H M' H'->P M H r->P M' H' r)
 (k:∀ rs vs M' H',Ext M H M' H'->Rep g M' ρ env σ H'->IsAll H' (vmsk g M' (aR rs) ρ (aY rs)) (rs.map R.d) vs->P M' H' (K rs)->Q vs H'):t σ H Q:=by
 refine h g M ρ env σ H Q rep ?_
 cases e:f env with
 |stuck=>rw[e]at hp;exact hs _ _ hp
 |exc c=>rw[e]at hp;exact hx _ _ c hp
 |ok r=>
  rw[e]at hp
  exact fun vs M1 H1 e1 rep1 is=>k r vs M1 H1 e1 rep1 is (he _ _ _ _ _ e1 hp)
theorem SndA.oneE {t:TA}{f:En->Res (List R)}(h:SndA mg E t f)(rep:Rep g M ρ env σ H){K:List R->Res R}{Q':VK}{Q:List V->Hp->Prop}(hp:PostE mg E g M ρ env σ H Q' ((f env).bind K))
 (k:∀ rs vs M' H',Ext M H M' H'->Rep g M' ρ env σ H'->IsAll H' (vmsk g M' (aR rs) ρ (aY rs)) (rs.map R.d) vs->PostE mg E g M' ρ env σ H' Q' (K rs)->Q vs H'):t σ H Q:=
 h.one rep (P:=fun M H r=>PostE mg E g M ρ env σ H Q' r) hp (fun _ _ z=>z) (fun _ _ _ z=>z) (fun _ _ _ _ _ e p=>p.ext e) k
theorem SndA.oneA {t:TA}{f:En->Res (List R)}(h:SndA mg E t f)(rep:Rep g M ρ env σ H){K:List R->Res (List R)}{Q':List V->Hp->Prop}{Q:List V->Hp->Prop}(hp:PostA mg E g M ρ env σ H Q' ((f env).bind K))
 (k:∀ rs vs M' H',Ext M H M' H'->Rep g M' ρ env σ H'->IsAll H' (vmsk g M' (aR rs) ρ (aY rs)) (rs.map R.d) vs->PostA mg E g M' ρ env σ H' Q' (K rs)->Q vs H'):t σ H Q:=
 h.one rep (P:=fun M H r=>PostA mg E g M ρ env σ H Q' r) hp (fun _ _ z=>z) (fun _ _ _ z=>z) (fun _ _ _ _ _ e p=>p.ext e) k
theorem IsAll.args {r:R}{rs:List R}{v:V}{vs:List V}(h1:Is H (vmsk g M r.fr ρ r.al) r.d v)(h2:IsAll H (vmsk g M (aR rs) ρ (aY rs)) (rs.map R.d) vs) :
 IsAll H (vmsk g M (aR (r::rs)) ρ (aY (r::rs))) ((r::rs).map R.d) (v::vs):=by
 refine⟨v,vs,rfl,h1.weak fun a z=>?_,h2.weak fun a z=>?_⟩
 ·exact(z.l:vmsk g M (r.fr&&aR rs) ρ (r.al++aY rs) a)
 ·exact(z.r:vmsk g M (r.fr&&aR rs) ρ (r.al++aY rs) a)
end
section
variable {X:Cx}{E:XK}
def ar:En->Res (List R):=fun _=>.ok []
def ac (f:En->Res R)(fs:En->Res (List R)):En->Res (List R):=fun env=>(f env).bind fun r=>(fs env).bind fun rs=>.ok (r::rs)
theorem aj:xV X E [] ar:=⟨_,di,fun g M ρ env σ H Q rep p=>p [] M H (Ext.refl _ _) rep rfl⟩
theorem aa {e:Expr}{es:List Expr}{f:En->Res R}{fs:En->Res (List R)}(he:PD X E e f)(hr:xV X E es fs)(hs:starEach (e::es) X.env=(false,eval e X.env)::starEach es X.env:=by rfl):xV X E (e::es) (ac f fs):=by
 obtain⟨t,p1,s1⟩:=he
 obtain⟨u,p2,s2⟩:=hr
 refine⟨_,be p1 p2 hs,fun g M ρ env σ H Q rep p=>s1.oneA rep p fun r v M1 H1 e1 rep1 i1 q1=>s2.oneA rep1 q1 fun rs vs M2 H2 e2 rep2 i2 q2=>?_⟩
 exact q2 (v::vs) M2 H2 (Ext.refl _ _) rep2 (IsAll.args (i1.ext e2) i2)
def dJ (fs:En->Res (List R)):En->Res R:=fun env=>(fs env).bind fun rs=>if rs.length<=lim then .ok (mkV (.tup (rs.map R.d)) (aR rs) (aY rs)) else .stuck
theorem aS {es:List Expr}{fs:En->Res (List R)}{k:Nat}{pos:Pos}(h:xV X E es fs):PD X E (.Tuple es k pos) (dJ fs):=by
 obtain⟨t,p1,s1⟩:=h
 refine⟨_,yc p1,fun g M ρ env σ H Q rep p=>s1.oneE rep p fun rs vs M1 H1 e1 rep1 i1 q1=>?_⟩
 by_cases hl:rs.length<=lim
 ·rw[if_pos hl]at q1
  exact⟨by rw[i1.length,List.length_map];exact fy hl,fun a ha=>q1.tup rep1 ha i1⟩
 ·rw[if_neg hl]at q1;exact q1.elim
def Em (fs:En->Res (List R)):En->Res R:=fun env=>(fs env).bind fun rs=>if rs.length<=lim then .ok (jb (rs.map R.d) (aR rs) (aY rs)) else .stuck
theorem Eo {es:List Expr}{fs:En->Res (List R)}{pos:Pos}(h:xV X E es fs):PD X E (.List es pos) (Em fs):=by
 obtain⟨t,p1,s1⟩:=h
 refine⟨_,DS p1,fun g M ρ env σ H Q rep p=>s1.oneE rep p fun rs vs M1 H1 e1 rep1 i1 q1=>?_⟩
 by_cases hl:rs.length<=lim
 ·rw[if_pos hl]at q1
  exact⟨by rw[i1.length,List.length_map];exact fy hl,fun a ha=>q1.lst rep1 ha i1⟩
 ·rw[if_neg hl]at q1;exact q1.elim
end
def nl (H0 H':Hp)(a:Addr):Prop:=H0 a=none/\Mu H' a
def RetOk (g:Gd)(H':Hp)(v:V):R->Prop
 | .val d fr _=>Is H' (fun a=>nl g.H₀ H' a\/(fr=false/\g.Ma a)) d v
 | .new ds fr=>∃ a vs,v=.ref a/\H' a=some (.lst vs)/\g.H₀ a=none/\IsAll H' (fun b=>b≠a/\(nl g.H₀ H' b\/(fr=false/\g.Ma b))) ds vs
 | .fre d=>Is H' (nl g.H₀ H') d v
def F7 (mg:Str->Option Value)(E:XK)(g:Gd)(Q:VK):Res R->Prop
 | .stuck=>False
 | .exc c=>A_ mg E g c
 | .ok r=>∀ v H',Same g.H₀ H'->RetOk g H' v r->Q v H'
def nh (mg:Str->Option Value)(n:Nat)(F:List D->Res R):Sp:=fun vs H Q E=>vs.length=n/\∃ ds Ma,IsAll H Ma ds vs/\F7 mg E (F2 H Ma) Q (F ds)
def Bb (d:D)(fr:Bool)(rs:List R):R:=if d.flat then .val d true [] else if fr then .fre d else .val d (aR rs) (aY rs)
def eO (rs:List R):R->R
 | .val d fr _=>Bb d fr rs
 | .new ds fr=>if D.flats ds then .new ds true else if fr then .fre (.lst ds) else if (aY rs).isEmpty then .new ds (aR rs) else .val (.lst ds) (aR rs) (aY rs)
 | .fre d=>Bb d true rs
section
variable {g:Gd}{M:Addr->Prop}{ρ:Pr}{env:En}{σ:St}{H H':Hp}
theorem Rep.came (rep:Rep g M ρ env σ H)(s:Same H H')(p:Addr->Prop):Rep g (fun a=>M a\/(nl H H' a/\p a)) ρ env σ H':=
 (rep.grow s).moreT fun a z=>⟨z.1.2,rep.same.free z.1.1,(rep.free z.1.1).2.2⟩
theorem yT {d:D}{fr:Bool}{v:V}(rs:List R)(rep:Rep g M ρ env σ H)(s:Same H H')(h:Is H' (fun a=>nl H H' a\/(fr=false/\vmsk g M (aR rs) ρ (aY rs) a)) d v) :
 ∃ M',Ext M H M' H'/\Rep g M' ρ env σ H'/\ROk g M' ρ H H' v (Bb d fr rs):=by
 unfold Bb
 by_cases hf:d.flat=true
 ·rw[if_pos hf]
  exact⟨M,⟨fun _ z=>z,s,fun _ z=>.inl z⟩,rep.grow s,Is.flat hf h⟩
 ·rw[if_neg hf]
  cases fr with
  |true=>
   refine⟨M,⟨fun _ z=>z,s,fun _ z=>.inl z⟩,rep.grow s,nl H H',fun a z=>?_,?_⟩
   ·exact⟨fun w=>rep.froz a w z.1,z.1,z.2,(rep.free z.1).2.2⟩
   ·exact Is.weak (fun a z=>z.elim id fun w=>by cases w.1) h
  |false=>
   refine⟨_,⟨fun _=>.inl,s,fun _ z=>z.imp id (·.1.1)⟩,rep.came s fun _=>True,?_⟩
   refine Is.weak (fun a z=>?_) h
   rcases z with z|⟨_,z⟩
   ·exact .inl ⟨.inr ⟨z,True.intro⟩,fun _=>rep.same.free z.1⟩
   ·exact z.mono fun _=>.inl
theorem RetOk.caller {v:V}{r:R}(rs:List R)(rep:Rep g M ρ env σ H)(s:Same H H')(h:RetOk (F2 H (vmsk g M (aR rs) ρ (aY rs))) H' v r) :
 ∃ M',Ext M H M' H'/\Rep g M' ρ env σ H'/\ROk g M' ρ H H' v (eO rs r):=by
 cases r with
 |val d fr al=>exact yT rs rep s h
 |fre d=>exact yT rs rep s (Is.weak (fun a z=>.inl z) h)
 |new ds fr=>
  obtain⟨a,vs,rfl,h1,h2,h3⟩:=h
  have h2:H a=none:=h2
  obtain⟨f0,f1,f2⟩:=rep.free h2
  have R1:Rep g (fun b=>M b\/(nl H H' b/\b≠a)) ρ env σ H':=rep.came s fun b=>b≠a
  have nm:¬ (M a\/(nl H H' a/\a≠a)):=fun z=>z.elim f1 fun z=>z.2 rfl
  have X1:Ext M H (fun b=>M b\/(nl H H' b/\b≠a)) H':=⟨fun _=>.inl,s,fun _ z=>z.imp id (·.1.1)⟩
  unfold eO
  dsimp only
  by_cases hfl:D.flats ds=true
  ·rw[if_pos hfl]
   exact⟨_,X1,R1,a,vs,rfl,h1,nm,h2,f2,IsAll.flat hfl h3⟩
  ·rw[if_neg hfl]
   cases fr with
   |true=>
    refine⟨M,⟨fun _ z=>z,s,fun _ z=>.inl z⟩,rep.grow s,nl H H',fun a z=>?_,?_⟩
    ·exact⟨fun w=>rep.froz a w z.1,z.1,z.2,(rep.free z.1).2.2⟩
    ·exact⟨a,vs,rfl,.inl ⟨h1,h2,Mu.lst h1⟩,IsAll.weak (fun b z=>z.2.elim id fun w=>by cases w.1) h3⟩
   |false=>
    simp only[Bool.false_eq_true,if_false]
    by_cases hc:(aY rs).isEmpty=true
    ·rw[if_pos hc]
     refine⟨_,X1,R1,a,vs,rfl,h1,nm,h2,f2,?_⟩
     refine IsAll.weak (fun b z=>?_) h3
     rcases z with⟨nb,z|⟨hf,z⟩⟩
     ·exact⟨.inr ⟨z,nb⟩,fun _=>rep.same.free z.1⟩
     ·have hl:aY rs=[]:=by simpa using hc
      have z:vmsk g M (aR rs) ρ (aY rs) b:=z
      rw[hl]at z
      exact⟨.inl z.nil.1,z.nil.2⟩
    ·rw[if_neg hc]
     refine⟨fun b=>(M b\/(nl H H' b/\b≠a))\/b=a,⟨fun _ z=>.inl (.inl z),s,fun b z=>z.elim (X1.n b) fun e=>.inr (e▸h2)⟩,R1.more h1 f0 f2,a,vs,rfl,.inl ⟨h1,.inl ⟨.inr rfl,fun _=>f0⟩⟩,?_⟩
     refine IsAll.weak (fun b z=>?_) h3
     rcases z with⟨nb,z|⟨hf,z⟩⟩
     ·exact .inl ⟨.inl (.inr ⟨z,nb⟩),fun _=>rep.same.free z.1⟩
     ·exact vmsk.mono (fun _ w=>.inl (.inl w)) z
end
section
variable {X:Cx}{E:XK}{CX:CXT}{k:Nat}{f:Addr}{fd:FuncData}{ps:List Str}{F:List D->Res R}{x:Str}{p pos:Pos}{e:Expr}{es:List Expr}{fs:En->Res (List R)}
def aO (F:List D->Res R)(fs:En->Res (List R)):En->Res R:=fun env=>(fs env).bind fun rs=>(F (rs.map R.d)).bind fun r=>.ok (eO rs r)
theorem yU {t:TA}(hl:∀ env rs,fs env=.ok rs->rs.length=ps.length)(s:SndA X.mg E t fs):Snd X.mg E (CN (nh X.mg ps.length F) [] E t) (aO F fs):=by
 intro g M ρ env σ H Q rep p
 refine s g M ρ env σ H _ rep ?_
 unfold aO at p
 cases e:fs env with
 |stuck=>rw[e]at p;exact p
 |exc c=>rw[e]at p;exact p
 |ok rs=>
  rw[e]at p
  intro vs M1 H1 e1 rep1 is
  have p1:PostE X.mg E g M1 ρ env σ H1 Q ((F (rs.map R.d)).bind fun r=>.ok (eO rs r)):=PostE.ext e1 p
  rw[List.append_nil]
  refine⟨by rw[is.length,List.length_map];exact hl env rs e,rs.map R.d,_,is,?_⟩
  cases q:F (rs.map R.d) with
  |stuck=>rw[q]at p1;exact p1
  |exc c=>rw[q]at p1;exact fun cls dx H' h1 h2=>p1 cls dx H' h1 (rep1.same.trans h2)
  |ok r=>
   rw[q]at p1
   intro v H2 s2 ro
   obtain⟨M3,e3,rep3,ro3⟩:=RetOk.caller rs rep1 s2 ro
   exact p1 v M3 H2 e3 rep3 ro3
theorem aE (G:FnOk X.prog X.w X.K X.mg X.base CX k f fd ps (nh X.mg ps.length F))(hr:Room k X.A)(hg:Gl X x)(hm:X.mg x=some (.ref f))(hk:PySem.W.keepIn X.K (.ref f)=true)(hb:Binds X.K fd ps [])(hx:kC CX X E)
 (ha:xV X E (e::es) fs) (hl:∀ env rs,fs env=.ok rs->rs.length=ps.length) (hdb:(x==("__debug__" : Str))=false:=by decide) (he:starEach (e::es) X.env=(false,eval e X.env)::starEach es X.env:=by rfl) (hpl:(backTo pos (starEach es X.env)).any (·.1)=false:=by rfl) :
 PD X E (.Call (.Name x p) (e::es) [] pos) (aO F fs):=by
 obtain⟨t,p1,s1⟩:=ha
 exact⟨_,vx G hr hg hm hk hb .nil hx p1 hdb he hpl,yU hl s1⟩
theorem av:∀ env rs,ar env=.ok rs->rs.length=0:=fun _ _ e=>by cases e;rfl
theorem af {f:En->Res R}{fs:En->Res (List R)}{n:Nat}(h:∀ env rs,fs env=.ok rs->rs.length=n):∀ env rs,ac f fs env=.ok rs->rs.length=n+1:=fun env rs e=>by
 unfold ac at e
 cases q:f env with
 |stuck=>rw[q]at e;cases e
 |exc c=>rw[q]at e;cases e
 |ok r=>
  rw[q]at e
  cases q2:fs env with
  |stuck=>simp only[Res.bind_ok,q2]at e;cases e
  |exc c=>simp only[Res.bind_ok,q2]at e;cases e
  |ok rs'=>
   simp only[Res.bind_ok,q2]at e
   cases e
   simp[h env rs' q2]
def fL (X:Cx)(E:XK)(f:Value)(k:List R->Res R):Prop:=∃ r,CallR X f r/\
 ∀ g M ρ env σ H Q rs vs,Rep g M ρ env σ H->IsAll H (vmsk g M (aR rs) ρ (aY rs)) (rs.map R.d) vs->PostE X.mg E g M ρ env σ H Q (k rs)->r vs H Q
def i8 (k:List R->Res R)(fs:En->Res (List R)):En->Res R:=fun env=>(fs env).bind k
theorem bn {id:String} {k:List R->Res R} (hc:fL X E (.builtin id) k) (hg:Gl X x) (hm:X.mg x=none) (hv:bootBuiltins x=some (.builtin id)) (ha:xV X E (e::es) fs) (hn:x≠"__name__":=by decide) (hdb:(x==("__debug__" : Str))=false:=by decide)
 (he:starEach (e::es) X.env=(false,eval e X.env)::starEach es X.env:=by rfl) (hpl:(backTo pos (starEach es X.env)).any (·.1)=false:=by rfl):PD X E (.Call (.Name x p) (e::es) [] pos) (i8 k fs):=by
 obtain⟨r,h1,h2⟩:=hc
 obtain⟨t,p1,s1⟩:=ha
 exact⟨_,kE h1 hg hm hv p1 hn hdb he hpl,fun g M ρ env σ H Q rep p=>s1.oneE rep p fun rs vs M1 H1 e1 rep1 i1 q1=>h2 g M1 ρ env σ H1 Q rs vs rep1 i1 q1⟩
theorem cf {T:String} {k:List R->Res R} (hc:fL X E (.type T) k) (hg:Gl X x) (hm:X.mg x=none) (hv:bootBuiltins x=some (.type T)) (ha:xV X E (e::es) fs) (hn:x≠"__name__":=by decide) (hdb:(x==("__debug__" : Str))=false:=by decide)
 (he:starEach (e::es) X.env=(false,eval e X.env)::starEach es X.env:=by rfl) (hpl:(backTo pos (starEach es X.env)).any (·.1)=false:=by rfl):PD X E (.Call (.Name x p) (e::es) [] pos) (i8 k fs):=by
 obtain⟨r,h1,h2⟩:=hc
 obtain⟨t,p1,s1⟩:=ha
 exact⟨_,mT h1 hg hm hv p1 hn hdb he hpl,fun g M ρ env σ H Q rep p=>s1.oneE rep p fun rs vs M1 H1 e1 rep1 i1 q1=>h2 g M1 ρ env σ H1 Q rs vs rep1 i1 q1⟩
def io:List R->Res R
 | [r]=>match r.d with
  | .lst ds=>.ok (.val (.int ds.length) true [])
  | .tup ds=>.ok (.val (.int ds.length) true [])
  | .str z=>if z.length<=lim then .ok (.val (.int z.length) true []) else .stuck
  |_=>.stuck
 |_=>.stuck
theorem ga:fL X E (.builtin "len") io:=by
 refine⟨_,call_len_seq.or n5,fun g M ρ env σ H Q rs vs rep i p=>?_⟩
 match rs,i,p with
 | [r],i,p=>
  obtain⟨v,w,rfl,i1,i2⟩:=i
  cases i2
  have i1:Is H (vmsk g M (aR [r]) ρ (aY [r])) r.d v:=i1
  unfold io at p
  dsimp only at p
  cases q:r.d with
  |lst ds=>
   rw[q]at p i1
   obtain⟨a,ws,rfl,h1,h2⟩:=i1.rd
   exact .inl ⟨a,ws,rfl,.inl (.inl h1),by rw[h2.length];exact p _ M H (Ext.refl _ _) rep rfl⟩
  |tup ds=>
   rw[q]at p i1
   obtain⟨a,ws,rfl,h1,h2⟩:=i1
   exact .inl ⟨a,ws,rfl,.inr (SqT.of h1),by rw[h2.length];exact p _ M H (Ext.refl _ _) rep rfl⟩
  |str z=>
   rw[q]at p i1
   cases i1
   by_cases hz:z.length<=lim
   ·simp only[hz,if_true]at p
    exact .inr ⟨z,rfl,fy hz,p _ M H (Ext.refl _ _) rep rfl⟩
   ·simp only[hz,if_false]at p;exact p.elim
  |_=>rw[q]at p;exact p.elim
 | [],_,p=>exact p.elim
 |_::_::_,_,p=>exact p.elim
def rq:List R->Res R
 | [r]=>match r.d with
  | .lst ds=>.ok (jb ds r.fr r.al)
  | .tup ds=>.ok (jb ds r.fr r.al)
  |_=>.stuck
 |_=>.stuck
theorem j_ {g:Gd}{M:Addr->Prop}{ρ:Pr}{r:R}{a:Addr}(h:vmsk g M (aR [r]) ρ (aY [r]) a):vmsk g M r.fr ρ r.al a:=by
 have e1:aR [r]=r.fr:=by simp[aR]
 have e2:aY [r]=r.al:=by simp[aY]
 rw[e1,e2]at h
 exact h
theorem BK:fL X E (.type "list") rq:=by
 refine⟨_,n6,fun g M ρ env σ H Q rs vs rep i p=>?_⟩
 match rs,i,p with
 | [r],i,p=>
  obtain⟨v,w,rfl,i1,i2⟩:=i
  cases i2
  have i1:Is H (vmsk g M (aR [r]) ρ (aY [r])) r.d v:=i1
  replace i1:=i1.weak fun _ z=>j_ z
  unfold rq at p
  dsimp only at p
  cases q:r.d with
  |lst ds=>
   rw[q]at p i1
   obtain⟨a,ws,rfl,h1,h2⟩:=i1.rd
   exact⟨a,ws,rfl,.inl (.inl h1),fun l hl=>p.lst rep hl h2⟩
  |tup ds=>
   rw[q]at p i1
   obtain⟨a,ws,rfl,h1,h2⟩:=i1
   exact⟨a,ws,rfl,.inr (SqT.of h1),fun l hl=>p.lst rep hl h2⟩
  |_=>rw[q]at p;exact p.elim
 | [],_,p=>exact p.elim
 |_::_::_,_,p=>exact p.elim
end
end L3
namespace L3
open PySem PySem.Spec PyProof.Rows L2
inductive Fl where
 |nx (env:En)|rt (r:R)|bk (env:En)|ct (env:En)|rm (r:R) (env:En)
structure Frz (M:Addr->Prop) (H:Hp) (M':Addr->Prop) (H':Hp):Prop where
 m:∀ a,M a->M' a
 h:∀ a o,H a=some o->(M a\/fixd o)->H' a=some o
theorem Frz.refl (M:Addr->Prop)(H:Hp):Frz M H M H:=⟨fun _ z=>z,fun _ _ e _=>e⟩
theorem Frz.trans {M M1 M2:Addr->Prop}{H H1 H2:Hp}(a:Frz M H M1 H1)(b:Frz M1 H1 M2 H2):Frz M H M2 H2:=⟨fun x z=>b.m x (a.m x z),fun x o e z=>b.h x o (a.h x o e z) (z.imp (a.m x) id)⟩
theorem Ext.frz {M M':Addr->Prop}{H H':Hp}(e:Ext M H M' H'):Frz M H M' H':=⟨e.m,fun a o q _=>e.h a o q⟩
section
variable (mg:Str->Option Value)(E:XK)(g:Gd)(M:Addr->Prop)(H:Hp)(D:Ends)
def PostS:Res Fl->Prop
 | .stuck=>False
 | .exc c=>A_ mg E g c
 | .ok (.nx env)=>∀ σ M' ρ H',Frz M H M' H'->Rep g M' ρ env σ H'->D.nx σ H'
 | .ok (.bk env)=>∀ σ M' ρ H',Frz M H M' H'->Rep g M' ρ env σ H'->D.bk σ H'
 | .ok (.ct env)=>∀ σ M' ρ H',Frz M H M' H'->Rep g M' ρ env σ H'->D.ct σ H'
 | .ok (.rt r)=>∀ v M' H',Frz M H M' H'->Same g.H₀ H'->((∀ a,¬ g.Z a)->RetOk g H' v r)->(r.d.flat=true->Is H' (fun _=>False) r.d v)->D.rt v H'
 | .ok (.rm r env)=>∀ v σ M' ρ H0 H',Frz M H M' H'->Rep g M' ρ env σ H'->Same g.H₀ H0->(∀ a,g.Z a->H0 a≠none)->ROk g M' ρ H0 H' v r->D.rt v H'
end
def BL (mg:Str->Option Value)(E:XK)(t:TS)(f:En->Res Fl):Prop:=∀ g M ρ env σ H D,Rep g M ρ env σ H->PostS mg E g M H D (f env)->t D σ H
def jY (X:Cx)(E:XK)(st:Stmt)(f:En->Res Fl):Prop:=∃ t,PS X st t/\BL X.mg E t f
def k_ (X:Cx)(E:XK)(st:List Stmt)(f:En->Res Fl):Prop:=∃ t,PSs X st t/\BL X.mg E t f
section
variable {mg:Str->Option Value}{E:XK}{g:Gd}{M M':Addr->Prop}{ρ:Pr}{env:En}{σ:St}{H H':Hp}{D:Ends}
theorem PostS.frz {r:Res Fl}(e:Frz M H M' H')(p:PostS mg E g M H D r):PostS mg E g M' H' D r:=by
 cases r with
 |stuck=>exact p
 |exc c=>exact p
 |ok r=>cases r with
  |nx env=>exact fun σ M2 ρ2 H2 e2=>p σ M2 ρ2 H2 (e.trans e2)
  |bk env=>exact fun σ M2 ρ2 H2 e2=>p σ M2 ρ2 H2 (e.trans e2)
  |ct env=>exact fun σ M2 ρ2 H2 e2=>p σ M2 ρ2 H2 (e.trans e2)
  |rt r=>exact fun v M2 H2 e2=>p v M2 H2 (e.trans e2)
  |rm r env=>exact fun v σ M2 ρ2 H0 H2 e2=>p v σ M2 ρ2 H0 H2 (e.trans e2)
theorem Snd.oneS {t:TE}{f:En->Res R}(h:Snd mg E t f)(rep:Rep g M ρ env σ H){K:R->Res Fl}{Q:VK}(hp:PostS mg E g M H D ((f env).bind K))
 (k:∀ r v M' H',Ext M H M' H'->Rep g M' ρ env σ H'->ROk g M' ρ H H' v r->PostS mg E g M' H' D (K r)->Q v H'):t σ H Q:=by
 refine h g M ρ env σ H Q rep ?_
 cases e:f env with
 |stuck=>rw[e]at hp;exact hp
 |exc c=>rw[e]at hp;exact hp
 |ok r=>rw[e]at hp;exact fun v M1 H1 e1 rep1 ro=>k r v M1 H1 e1 rep1 ro (PostS.frz e1.frz hp)
theorem SndT.oneS {t:TT}{f:En->Res Bool}(h:SndT mg E t f)(rep:Rep g M ρ env σ H){K:Bool->Res Fl}{Q:Bool->Hp->Prop}(hp:PostS mg E g M H D ((f env).bind K))
 (k:∀ b M' H',Frz M H M' H'->Rep g M' ρ env σ H'->PostS mg E g M' H' D (K b)->Q b H'):t σ H Q:=by
 refine h g M ρ env σ H Q rep ?_
 cases e:f env with
 |stuck=>rw[e]at hp;exact hp
 |exc c=>rw[e]at hp;exact hp
 |ok r=>rw[e]at hp;exact fun M1 H1 e1 rep1=>k r M1 H1 e1.frz rep1 (PostS.frz e1.frz hp)
def F8 (ρ:Pr)(i:Nat):Pr:=fun j a=>if j=i then False else ρ j a
theorem tR {j i:Nat}(h:j≠i):F8 ρ i j=ρ j:=by funext a;unfold F8;rw[if_neg h]
theorem lb {j i:Nat}{a:Addr}(h:F8 ρ i j a):j≠i/\ρ j a:=by
 unfold F8 at h
 by_cases e:j=i
 ·rw[if_pos e]at h;exact h.elim
 ·rw[if_neg e]at h;exact⟨e,h⟩
def mI (ρ:Pr)(i:Nat)(T:Addr->Prop):Pr:=fun j a=>if j=i then T a else ρ j a
theorem a_ {j i:Nat}{T:Addr->Prop}(h:j≠i):mI ρ i T j=ρ j:=by funext a;unfold mI;rw[if_neg h]
theorem bT {i:Nat}{T:Addr->Prop}:mI ρ i T i=T:=by funext a;unfold mI;rw[if_pos rfl]
def frz1 (env:En)(i:Nat):En:=match env[i]? with
 |some (some (.own ds fr))=>env.set i (some (.val (.lst ds) fr))
 |some (some (.tre d))=>env.set i (some (.val d true))
 |some (some (.mes _))=>env.set i none
 |some (some (.pin d))=>env.set i (some (.val d true))
 |_=>env
def frz (env:En)(al:List Nat):En:=al.foldl frz1 env
theorem oE {i j:Nat}(h:j≠i):(frz1 env i)[j]?=env[j]?:=by
 unfold frz1
 split<;>first|rfl|exact List.getElem?_set_ne (Ne.symm h)
theorem rA (i:Nat):(frz1 env i).length=env.length:=by
 unfold frz1
 split<;>simp
theorem oF:∀(al:List Nat){env:En}{j:Nat},¬ j∈al->(frz env al)[j]?=env[j]?
 | [],_,_,_=>rfl
 |i::al,env,j,h=>by
  show(frz (frz1 env i) al)[j]?=_
  rw[oF al fun z=>h (by simp[z]),oE fun z=>h (by simp[z])]
theorem cZ:∀(al:List Nat)(env:En),(frz env al).length=env.length
 | [],_=>rfl
 |i::al,env=>by
  show(frz (frz1 env i) al).length=_
  rw[cZ al,rA]
theorem Rep.frz1 (rep:Rep g M ρ env σ H)(i:Nat):Rep g (fun a=>M a\/ρ i a) (F8 ρ i) (frz1 env i) σ H where
 same:=rep.same
 froz:=fun b hb=>hb.elim (rep.froz b) fun z=>(rep.priv i b z).2.2.some
 inn:=fun b hb=>hb.elim (rep.inn b) fun z=>.inl (rep.priv i b z).2.1
 fl:=fun b hb h0=>hb.elim (fun z=>rep.fl b z h0) fun z=>.inl (rep.priv i b z).2.2
 slot:=fun j sl ej=>by
  by_cases hj:j=i
  ·subst hj
   cases e:env[j]? with
   |none=>
    have:L3.frz1 env j=env:=by unfold L3.frz1;rw[e]
    rw[this,e]at ej;cases ej
   |some o=>
    have hi:j<env.length:=(List.getElem?_eq_some_iff.mp e).1
    cases o with
    |none=>
     have:L3.frz1 env j=env:=by unfold L3.frz1;rw[e]
     rw[this,e]at ej;cases ej
    |some s0=>
     obtain⟨v,ev,k⟩:=rep.slot j s0 e
     cases s0 with
     |val d fr=>
      have:L3.frz1 env j=env:=by unfold L3.frz1;rw[e]
      rw[this,e]at ej;cases ej
      exact⟨v,ev,Is.weak (fun b z=>msk.mono (fun _=>.inl) z) k⟩
     |own ds fr=>
      have:L3.frz1 env j=env.set j (some (.val (.lst ds) fr)):=by unfold L3.frz1;rw[e]
      rw[this,List.getElem?_set_self hi]at ej;cases ej
      obtain⟨a,vs,rfl,h1,h2,h4⟩:=k
      have ha:=(h2 a).mpr rfl
      exact⟨_,ev,a,vs,rfl,.inl ⟨h1,.inr ha,fun _=>(rep.priv j a ha).2.1⟩,IsAll.weak (fun b z=>msk.mono (fun _=>.inl) z) h4⟩
     |tre d=>
      have:L3.frz1 env j=env.set j (some (.val d true)):=by unfold L3.frz1;rw[e]
      rw[this,List.getElem?_set_self hi]at ej;cases ej
      exact⟨v,ev,Is.weak (fun b z=>⟨.inr z,fun _=>(rep.priv j b z).2.1⟩) k⟩
     |mes d=>
      have:L3.frz1 env j=env.set j none:=by unfold L3.frz1;rw[e]
      rw[this,List.getElem?_set_self hi]at ej;cases ej
     |pin d=>
      have:L3.frz1 env j=env.set j (some (.val d true)):=by unfold L3.frz1;rw[e]
      rw[this,List.getElem?_set_self hi]at ej;cases ej
      exact⟨v,ev,Is.weak (fun b z=>⟨.inr z,fun _=>(rep.priv j b z).2.1⟩) k.1⟩
  ·rw[oE hj]at ej
   obtain⟨v,ev,k⟩:=rep.slot j sl ej
   exact⟨v,ev,by rw[tR hj];exact SlOk.weak (fun _=>.inl) k⟩
 priv:=fun j a h=>by
  obtain⟨hj,h⟩:=lb h
  exact⟨fun z=>z.elim (rep.priv j a h).1 fun z=>hj (rep.apart j i a h z),(rep.priv j a h).2⟩
 apart:=fun j k a h1 h2=>rep.apart j k a (lb h1).2 (lb h2).2
 ow:=fun j a h=>by
  obtain⟨hj,h⟩:=lb h
  have:=rep.ow j a h
  unfold isOwn at this ⊢
  rw[oE hj];exact this
 len:=by rw[rA];exact rep.len
 zz:=rep.zz
theorem Rep.frz:∀(al:List Nat){env:En}{M:Addr->Prop}{ρ:Pr},Rep g M ρ env σ H->∃(M':Addr->Prop)(ρ':Pr),(∀ a,M a->M' a)/\Rep g M' ρ' (L3.frz env al) σ H/\(∀ i,i∈al->∀ a,ρ i a->M' a)/\(∀ j a,ρ' j a->ρ j a)/\(∀ j,¬ j∈al->ρ' j=ρ j)
 | [],env,M,ρ,rep=>⟨M,ρ,fun _ z=>z,rep,fun _ z=>absurd z (by simp),fun _ _ o=>o,fun _ _=>rfl⟩
 |i::al,env,M,ρ,rep=>by
  obtain⟨M2,ρ2,e2,rep2,o2,k2,l2⟩:=Rep.frz al (rep.frz1 i)
  refine⟨M2,ρ2,fun a z=>e2 a (.inl z),rep2,fun j hj a o=>?_,fun j a o=>(lb (k2 j a o)).2,fun j hj=>?_⟩
  ·by_cases hji:j=i
   ·exact e2 a (.inr (hji▸o))
   ·exact o2 j ((List.mem_cons.mp hj).resolve_left hji) a (by rw[tR hji];exact o)
  ·rw[l2 j fun z=>hj (by simp[z]),tR fun z=>hj (by simp[z])]
theorem Is.frozen {fr:Bool}{al:List Nat}{d:L3.D}{v:V}(rep:Rep g M ρ env σ H)(e:∀ a,M a->M' a)(hm:∀ i,i∈al->∀ a,ρ i a->M' a)(h:Is H (vmsk g M fr ρ al) d v):Is H (msk g M' fr) d v:=
 h.weak fun a z=>z.elim (msk.mono e) fun⟨i,hi,o⟩=>⟨hm i hi a o,fun _=>(rep.priv i a o).2.1⟩
theorem Rep.put {i:Nat}{sl:Sl}{v:V}{T:Addr->Prop}(rep:Rep g M ρ env σ H)(hi:i<env.length)(ok:SlOk g M T H v sl)(ht:∀ a,T a->¬ M a/\g.H₀ a=none/\Mu H a/\∀ j,j≠i->¬ ρ j a)(hO:∀ a,T a->sl.isO=true:=by intro _ _;rfl) :
 Rep g M (mI ρ i T) (env.set i (some sl)) (σ.set i (some v)) H:=by
 have hi2:i<σ.length:=by rw[<- rep.len];exact hi
 refine⟨rep.same,rep.froz,rep.inn,rep.fl,fun j s ej=>?_,fun j a h=>?_,fun j k a h1 h2=>?_,fun j a h=>?_,by rw[List.length_set,List.length_set];exact rep.len,rep.zz⟩
 ·by_cases hj:j=i
  ·subst hj
   rw[List.getElem?_set_self hi]at ej
   cases ej
   exact⟨v,List.getElem?_set_self hi2,by rw[bT];exact ok⟩
  ·rw[List.getElem?_set_ne (Ne.symm hj)]at ej
   obtain⟨w,ew,k⟩:=rep.slot j s ej
   exact⟨w,by rw[List.getElem?_set_ne (Ne.symm hj)];exact ew,by rw[a_ hj];exact k⟩
 ·by_cases hj:j=i
  ·subst hj;rw[bT]at h
   exact⟨(ht a h).1,(ht a h).2.1,(ht a h).2.2.1⟩
  ·rw[a_ hj]at h;exact rep.priv j a h
 ·by_cases hj:j=i
  ·by_cases hk:k=i
   ·rw[hj,hk]
   ·subst hj;rw[bT]at h1;rw[a_ hk]at h2
    exact absurd h2 ((ht a h1).2.2.2 k hk)
  ·by_cases hk:k=i
   ·subst hk;rw[bT]at h2;rw[a_ hj]at h1
    exact absurd h1 ((ht a h2).2.2.2 j hj)
   ·rw[a_ hj]at h1;rw[a_ hk]at h2
    exact rep.apart j k a h1 h2
 ·unfold isOwn
  by_cases hj:j=i
  ·subst hj;rw[bT]at h
   rw[List.getElem?_set_self hi]
   exact hO a h
  ·rw[a_ hj]at h
   rw[List.getElem?_set_ne (Ne.symm hj)]
   exact rep.ow j a h
def put (env:En)(i:Nat):R->En
 | .new ds fr=>env.set i (some (.own ds fr))
 | .val d fr al=>(frz env al).set i (some (.val d fr))
 | .fre d=>env.set i (some (.tre d))
theorem Rep.store {i:Nat}{r:R}{v:V}{H0:Hp}(rep:Rep g M ρ env σ H)(h0:Same g.H₀ H0)(hi:i<env.length)(h:ROk g M ρ H0 H v r):∃ M' ρ',Frz M H M' H/\Rep g M' ρ' (L3.put env i r) (σ.set i (some v)) H:=by
 cases r with
 |new ds fr=>
  obtain⟨a,vs,rfl,h1,h2,h3,h4,h5⟩:=h
  exact⟨M,_,Frz.refl _ _,rep.put (sl:=.own ds fr) (T:=fun b=>b=a) hi ⟨a,vs,rfl,h1,fun _=>Iff.rfl,h5⟩ fun b e=>by subst e;exact⟨h2,h0.free h3,Mu.lst h1,fun j _=>h4 j⟩⟩
 |val d fr al=>
  obtain⟨M1,ρ1,e1,rep1,o1,k1,_⟩:=Rep.frz al rep
  exact⟨M1,_,⟨e1,fun _ _ e _=>e⟩,rep1.put (sl:=.val d fr) (T:=fun _=>False) (by rw[cZ];exact hi) (Is.frozen rep e1 o1 h) (fun _ z=>z.elim) fun _ z=>z.elim⟩
 |fre d=>
  obtain⟨T,ht,is⟩:=h
  exact⟨M,_,Frz.refl _ _,rep.put (sl:=.tre d) (T:=T) hi is fun b z=>let ⟨a1,a2,a3,a4⟩:=ht b z;⟨a1,h0.free a2,a3,fun j _=>a4 j⟩⟩
theorem Rep.writeO {i:Nat}{a:Addr}{sl:Sl}{v:V}{u':HO}(hu:Ed u')(rep:Rep g M ρ env σ H)(o:ρ i a)(hi:i<env.length)(ev:σ[i]?=some (some v))(ok:SlOk g M (ρ i) (az H a u') v sl)(hO:sl.isO=true:=by rfl) :
 Frz M H M (az H a u')/\Rep g M ρ (env.set i (some sl)) σ (az H a u'):=by
 obtain⟨nm,n0,uo,ha,hmu⟩:=rep.priv i a o
 have nfx:∀ u,H a=some u->¬ fixd u:=fun u e z=>by
  rw[ha]at e;cases e
  cases uo<;>first|exact z|exact hmu
 have kp:∀ b u,H b=some u->(M b\/fixd u)->az H a u' b=some u:=fun b u q z=>by
  rw[ag]
  ·exact q
  ·rintro rfl
   rcases z with z|z
   ·exact nm z
   ·exact nfx u q z
 have km:∀(fr:Bool) b u,H b=some u->(msk g M fr b\/fixd u)->az H a u' b=some u:=fun fr b u q z=>kp b u q (z.imp (·.1) id)
 refine⟨⟨fun _ z=>z,kp⟩,fun b u q=>?_,fun b hb=>?_,rep.inn,fun b hb h0=>?_,fun j s ej=>?_,fun j b h=>?_,rep.apart,fun j b h=>?_,by rw[List.length_set];exact rep.len,fun c z e=>by
  by_cases hc:c=a
  ·subst hc;rw[ai]at e;cases e
  ·rw[ag hc]at e;exact rep.zz c z e⟩
 ·rw[ag (fun z=>by rw[z,n0]at q;cases q)]
  exact rep.same b u q
 ·have nb:b≠a:=fun z=>nm (by rw[<- z];exact hb)
  rw[ag nb];exact rep.froz b hb
 ·have nb:b≠a:=fun z=>nm (by rw[<- z];exact hb)
  exact(rep.fl b hb h0).same fun o e=>by rw[ag nb];exact e
 ·by_cases hj:j=i
  ·subst hj
   rw[List.getElem?_set_self hi]at ej
   cases ej
   exact⟨v,ev,ok⟩
  ·rw[List.getElem?_set_ne (Ne.symm hj)]at ej
   obtain⟨w,ew,k⟩:=rep.slot j s ej
   refine⟨w,ew,?_⟩
   have nj:∀ b,ρ j b->b≠a:=fun b hb e=>hj (rep.apart j i a (e▸hb) o)
   cases s with
   |val d fr=>exact Is.mono (km fr) (fun _ _ _ z=>z) k
   |own ds' fr'=>
    obtain⟨b,ws,rfl,h1,h2,h4⟩:=k
    exact⟨b,ws,rfl,by rw[ag (nj b ((h2 b).mpr rfl))];exact h1,h2,IsAll.mono (km fr') (fun _ _ _ z=>z) h4⟩
   |tre d=>
    refine Is.mono (fun b u q z=>?_) (fun _ _ _ z=>z) k
    rw[ag]
    ·exact q
    ·rcases z with z|z
     ·exact nj b z
     ·intro e;rw[e]at q;exact nfx u q z
   |mes d=>
    refine IsSh.mono (fun b u q z=>kp b u q (.inr z)) (fun b ws z q=>⟨ws,by rw[ag (nj b z)];exact q⟩) (fun _ z=>z) k
   |pin d=>
    refine⟨Is.mono (fun b u q z=>?_) (fun _ _ _ z=>z) k.1,k.2⟩
    rw[ag]
    ·exact q
    ·rcases z with z|z
     ·exact nj b z
     ·intro e;rw[e]at q;exact nfx u q z
 ·obtain⟨b1,b2,b3⟩:=rep.priv j b h
  refine⟨b1,b2,?_⟩
  by_cases e:b=a
  ·exact⟨u',by rw[e,ai],hu⟩
  ·exact b3.same fun o z=>by rw[ag e];exact z
 ·unfold isOwn
  by_cases hj:j=i
  ·subst hj;rw[List.getElem?_set_self hi];exact hO
  ·rw[List.getElem?_set_ne (Ne.symm hj)];exact rep.ow j b h
theorem Rep.write {i:Nat}{a:Addr}{sl:Sl}{v:V}{vs':List V}(rep:Rep g M ρ env σ H)(o:ρ i a)(hi:i<env.length)(ev:σ[i]?=some (some v))(ok:SlOk g M (ρ i) (az H a (.lst vs')) v sl)(hO:sl.isO=true:=by rfl) :
 Frz M H M (az H a (.lst vs'))/\Rep g M ρ (env.set i (some sl)) σ (az H a (.lst vs')):=rep.writeO (u':=.lst vs') True.intro o hi ev ok hO
end
section
variable {X:Cx}{E:XK}
def c4:En->Res Fl:=fun env=>.ok (.nx env)
def ay (f k:En->Res Fl):En->Res Fl:=fun env=>(f env).bind fun r=>match r with
 | .nx aB=>k aB
 |r=>.ok r
theorem aI:k_ X E [] c4:=⟨_,Bh,fun g M ρ env σ H D rep p=>p σ M ρ H (Frz.refl _ _) rep⟩
theorem am {st:Stmt}{f:En->Res Fl}(h:jY X E st f):k_ X E [st] f:=let ⟨t,a,b⟩:=h;⟨t,vv a,b⟩
theorem ah {st:Stmt}{aQ:List Stmt}{f k:En->Res Fl}(h1:jY X E st f)(h2:k_ X E aQ k):k_ X E (st::aQ) (ay f k):=by
 obtain⟨t,a,b⟩:=h1
 obtain⟨u,c,d⟩:=h2
 refine⟨_,x4 a c,fun g M ρ env σ H D rep p=>b g M ρ env σ H _ rep ?_⟩
 unfold ay at p
 cases q:f env with
 |stuck=>rw[q]at p;exact p
 |exc c=>rw[q]at p;exact p
 |ok r=>
  rw[q]at p
  cases r with
  |nx aB=>exact fun σ' M' ρ' H' e rep'=>d g M' ρ' aB σ' H' D rep' (PostS.frz e p)
  |bk aB=>exact p
  |ct aB=>exact p
  |rt r=>exact p
  |rm r aB=>exact p
theorem xk {pos:Pos}:jY X E (.Break pos) (fun env=>.ok (.bk env)):=⟨_,x5,fun g M ρ env σ H D rep p=>p σ M ρ H (Frz.refl _ _) rep⟩
def kc (c:En->Res Bool)(a b:En->Res Fl):En->Res Fl:=fun env=>(c env).bind fun k=>if k then a env else b env
theorem bg {c:Expr}{a b:List Stmt}{fc:En->Res Bool}{fa fb:En->Res Fl}{pos:Pos}(hc:xh X E c fc)(ha:k_ X E a fa)(hb:k_ X E b fb):jY X E (.If c a b pos) (kc fc fa fb):=by
 obtain⟨tc,p1,s1⟩:=hc
 obtain⟨ta,p2,s2⟩:=ha
 obtain⟨tb,p3,s3⟩:=hb
 refine⟨_,FH p1 p2 p3,fun g M ρ env σ H D rep p=>s1.oneS rep p fun b M' H' e rep' p'=>?_⟩
 cases b with
 |true=>exact wV (s2 g M' ρ env σ H' D rep' p')
 |false=>exact wU (s3 g M' ρ env σ H' D rep' p')
def bX (f:En->Res R):En->Res Fl:=fun env=>(f env).bind fun r=>.ok (.rt r)
theorem ROk.ret {g:Gd}{M:Addr->Prop}{ρ:Pr}{env:En}{σ:St}{H H0:Hp}{v:V}{r:R}(rep:Rep g M ρ env σ H)(h0:Same g.H₀ H0)(h:ROk g M ρ H0 H v r)(hz:∀ a,¬ g.Z a):RetOk g H v r:=by
 have mu:∀ a,M a->g.H₀ a=none->Mu H a:=fun a h1 h2=>(rep.fl a h1 h2).elim id fun z=>(hz a z.1).elim
 have key:∀{fr:Bool}{a:Addr},msk g M fr a->nl g.H₀ H a\/(fr=false/\g.Ma a):=fun{fr a} z=>by
  cases fr with
  |true=>exact .inl ⟨z.2 rfl,mu a z.1 (z.2 rfl)⟩
  |false=>exact(rep.inn a z.1).imp (fun w=>⟨w,mu a z.1 w⟩) fun w=>⟨rfl,w⟩
 cases r with
 |val d fr al=>exact Is.weak (fun a z=>z.elim key fun⟨i,_,o⟩=>.inl (rep.priv i a o).2) h
 |new ds fr=>
  obtain⟨a,vs,rfl,h1,h2,h3,h4,h5⟩:=h
  exact⟨a,vs,rfl,h1,h0.free h3,IsAll.weak (fun b z=>⟨fun e=>h2 (e▸z.1),key z⟩) h5⟩
 |fre d=>
  obtain⟨T,ht,is⟩:=h
  exact Is.weak (fun a z=>let ⟨_,a2,a3,_⟩:=ht a z;⟨h0.free a2,a3⟩) is
theorem ROk.flatIs {g:Gd}{M:Addr->Prop}{ρ:Pr}{H H0:Hp}{v:V}{r:R}(h:ROk g M ρ H0 H v r)(hf:r.d.flat=true):Is H (fun _=>False) r.d v:=by
 cases r with
 |val d fr al=>exact Is.flat hf h
 |new ds fr=>simp[D.flat,R.d]at hf
 |fre d=>obtain⟨T,_,is⟩:=h;exact Is.flat hf is
theorem aA {e:Expr}{f:En->Res R}{pos:Pos}(h:PD X E e f):jY X E (.Return (some e) pos) (bX f):=by
 obtain⟨t,p1,s1⟩:=h
 exact⟨_,x8 p1,fun g M ρ env σ H D rep p=>s1.oneS rep p fun r v M' H' e rep' ro p'=>p' v M' H' (Frz.refl _ _) rep'.same (fun hz=>ro.ret rep' rep.same hz) fun hf=>ro.flatIs hf⟩
def jI (f:En->Res R):En->Res Fl:=fun env=>(f env).bind fun r=>.ok (.rm r env)
theorem lc {e:Expr}{f:En->Res R}{pos:Pos}(h:PD X E e f):jY X E (.Return (some e) pos) (jI f):=by
 obtain⟨t,p1,s1⟩:=h
 exact⟨_,x8 p1,fun g M ρ env σ H D rep p=>s1.oneS rep p fun r v M' H' e rep' ro p'=>p' v σ M' ρ H H' (Frz.refl _ _) rep' rep.same rep.zz ro⟩
def bo (i:Nat)(f:En->Res R):En->Res Fl:=fun env=>(f env).bind fun r=>if i<env.length then .ok (.nx (put env i r)) else .stuck
theorem vS {mg:Str->Option Value}{i:Nat}{t:TE}{f:En->Res R}(s:Snd mg E t f):BL mg E (Bi t (jC i)) (bo i f):=by
 intro g M ρ env σ H D rep p
 refine s.oneS rep p fun r v M' H' e rep' ro p'=>?_
 by_cases hi:i<env.length
 ·rw[if_pos hi]at p'
  obtain⟨M2,ρ2,e2,rep2⟩:=rep'.store rep.same hi ro
  exact p' _ M2 ρ2 H' e2 rep2
 ·rw[if_neg hi]at p';exact p'.elim
theorem aD {i:Nat}{x:Str}{e:Expr}{f:En->Res R}{pos pos':Pos}(hN:X.N.Nodup)(hi:X.N[i]?=some x)(hx:CK X.env.scope x)(h:PD X E e f)(hs:swapsWith e (some (.Name x pos')) pos.line X.env=pure false:=by rfl)
 (hf:X.fn x=true\/X.env.scope.names.lookup x=some .local:=by first|exact .inl rfl|exact .inr rfl|assumption):jY X E (.Assign [.Name x pos'] e pos) (bo i f):=by
 obtain⟨t,p1,s1⟩:=h
 exact⟨_,sI hN hi hx p1 hs hf,vS s1⟩
def fM (env:En)(i:Nat):Option (List D×Bool):=match env[i]? with
 |some (some (.own ds fr))=>some (ds,fr)
 |some (some (.tre (.lst ds)))=>some (ds,true)
 |_=>none
mutual
def D.sz:D->Nat
 | .tup ds=>D.szs ds+1
 | .lst ds=>D.szs ds+1
 | .dic _ ds=>D.szs ds+1
 |_=>0
def D.szs:List D->Nat
 | []=>0
 |d::ds=>d.sz+D.szs ds+1
end
section
variable {H:Hp}{m m':Addr->Prop}
mutual
theorem Is.avoid {a:Addr}{e:D}(ha:Is H m' e (.ref a)):∀{d:D}{v:V},d.sz<e.sz->Is H m d v->Is H (fun b=>m b/\b≠a) d v
 | .non,_,_,h=>h
 | .bl _,_,_,h=>h
 | .int _,_,_,h=>h
 | .str _,_,_,h=>h
 | .tup ds,_,hs,h=>by
  obtain⟨b,vs,rfl,h1,h2⟩:=h
  simp only[D.sz]at hs
  exact⟨b,vs,rfl,h1,IsAll.avoid ha (by omega) h2⟩
 | .lst ds,_,hs,h=>by
  have h':=h
  obtain⟨b,vs,rfl,h1,h2⟩:=h
  have nb:b≠a:=fun z=>by
   subst z
   have q:=Is.inj h' ha
   rw[q]at hs;omega
  simp only[D.sz]at hs
  refine⟨b,vs,rfl,?_,IsAll.avoid ha (by omega) h2⟩
  rcases h1 with⟨h1,h3⟩|⟨o,h1,h3⟩
  ·exact .inl ⟨h1,h3,nb⟩
  ·exact .inr ⟨o,h1,h3,nb⟩
 | .dic ks ds,_,hs,h=>by
  have h':=h
  obtain⟨b,kvs,rfl,h1,h2⟩:=h
  have nb:b≠a:=fun z=>by
   subst z
   have q:=Is.inj h' ha
   rw[q]at hs;omega
  simp only[D.sz]at hs
  exact⟨b,kvs,rfl,⟨h1.1,h1.2,nb⟩,IsAll.avoid ha (by omega) h2⟩
theorem IsAll.avoid {a:Addr}{e:D}(ha:Is H m' e (.ref a)):∀{ds:List D}{vs:List V},D.szs ds<e.sz->IsAll H m ds vs->IsAll H (fun b=>m b/\b≠a) ds vs
 | [],_,_,h=>h
 |d::ds,_,hs,h=>by
  obtain⟨v,r,rfl,h1,h2⟩:=h
  simp only[D.szs]at hs
  exact⟨v,r,rfl,Is.avoid ha (by omega) h1,IsAll.avoid ha (by omega) h2⟩
end
end
theorem Rep.toOwn {g:Gd}{M:Addr->Prop}{ρ:Pr}{env:En}{σ:St}{H:Hp}{i:Nat}{ds:List D}{fr:Bool}(rep:Rep g M ρ env σ H)(e:fM env i=some (ds,fr)) :
 ∃(M':Addr->Prop)(ρ':Pr)(a:Addr)(vs:List V),(∀ b,M b->M' b)/\Rep g M' ρ' (env.set i (some (.own ds fr))) σ H/\σ[i]?=some (some (.ref a))/\H a=some (.lst vs)/\(∀ b,ρ' i b↔b=a)/\IsAll H (msk g M' fr) ds vs/\i<env.length/\(∀ j b,ρ' j b->ρ j b)/\(∀ j,j≠i->ρ' j=ρ j):=by
 unfold fM at e
 cases q:env[i]? with
 |none=>rw[q]at e;cases e
 |some o=>
  have hi:i<env.length:=(List.getElem?_eq_some_iff.mp q).1
  have hself:env.set i (env[i])=env:=List.set_getElem_self hi
  cases o with
  |none=>rw[q]at e;cases e
  |some sl=>
   obtain⟨v,ev,k⟩:=rep.slot i sl q
   rw[q]at e
   cases sl with
   |val d f=>cases e
   |mes d=>cases e
   |pin d=>cases e
   |own ds' f'=>
    cases e
    obtain⟨a,vs,rfl,h1,h2,h4⟩:=k
    have eq:env.set i (some (.own ds fr))=env:=by
     have:env[i]=some (.own ds fr):=by
      have:=(List.getElem?_eq_some_iff.mp q).2;exact this
     rw[<- this];exact hself
    rw[eq]
    exact⟨M,ρ,a,vs,fun _ z=>z,rep,ev,h1,h2,h4,hi,fun _ _ z=>z,fun _ _=>rfl⟩
   |tre d=>
    cases d with
    |lst ds'=>
     cases e
     have k':=k
     obtain⟨a,vs,rfl,h1,h2⟩:=k
     have pa:ρ i a:=by rcases h1 with⟨_,z⟩|⟨_,_,z⟩<;>exact z
     obtain⟨pm,p0,uo,pl,pmu⟩:=rep.priv i a pa
     have hl:H a=some (.lst vs):=by
      rcases h1 with⟨h1,_⟩|⟨o,h1,_⟩
      ·exact h1
      ·rw[h1]at pl;cases pl;exact pmu.elim
     have inner:IsAll H (fun b=>ρ i b/\b≠a) ds vs:=IsAll.avoid k' (by simp only[D.sz];omega) h2
     let M':Addr->Prop:=fun b=>M b\/(ρ i b/\b≠a)
     let ρ':Pr:=mI ρ i fun b=>b=a
     have rr:Rep g M' ρ' (env.set i (some (.own ds true))) (σ.set i (some (.ref a))) H:=by
      have r1:Rep g M' (fun j b=>if j=i then b=a else ρ j b) (env.set i (some (.own ds true))) σ H:=by
       refine⟨rep.same,fun b hb=>hb.elim (rep.froz b) fun z=>?_,fun b hb=>hb.elim (rep.inn b) fun z=>.inl (rep.priv i b z.1).2.1,fun b hb h0=>hb.elim (fun z=>rep.fl b z h0) fun z=>.inl (rep.priv i b z.1).2.2,fun j s ej=>?_,fun j b h=>?_,fun j k b w1 w2=>?_,fun j b h=>?_,by rw[List.length_set];exact rep.len,rep.zz⟩
       ·exact(rep.priv i b z.1).2.2.some
       ·by_cases hj:j=i
        ·subst hj
         rw[List.getElem?_set_self hi]at ej;cases ej
         exact⟨_,ev,a,vs,rfl,hl,fun b=>by simp,IsAll.weak (fun b z=>⟨.inr z,fun _=>(rep.priv j b z.1).2.1⟩) inner⟩
        ·rw[List.getElem?_set_ne (Ne.symm hj)]at ej
         obtain⟨v',ev',k2⟩:=rep.slot j s ej
         have eT:(fun b=>if j=i then b=a else ρ j b)=ρ j:=by funext b;rw[if_neg hj]
         exact⟨v',ev',by show SlOk g M' (fun b=>if j=i then b=a else ρ j b) H v' s;rw[eT];exact SlOk.weak (fun _=>.inl) k2⟩
       ·by_cases hj:j=i
        ·rw[if_pos hj]at h;subst h
         exact⟨fun z=>z.elim pm fun z=>z.2 rfl,p0,Mu.lst hl⟩
        ·rw[if_neg hj]at h
         exact⟨fun z=>z.elim (rep.priv j b h).1 fun z=>hj (rep.apart j i b h z.1),(rep.priv j b h).2⟩
       ·by_cases hj:j=i
        ·by_cases hk:k=i
         ·rw[hj,hk]
         ·rw[if_pos hj]at w1;rw[if_neg hk]at w2;subst w1
          exact absurd (rep.apart k i b w2 pa) hk
        ·by_cases hk:k=i
         ·rw[if_pos hk]at w2;rw[if_neg hj]at w1;subst w2
          exact absurd (rep.apart j i b w1 pa) hj
         ·rw[if_neg hj]at w1;rw[if_neg hk]at w2;exact rep.apart j k b w1 w2
       ·unfold isOwn
        by_cases hj:j=i
        ·subst hj;rw[List.getElem?_set_self hi];rfl
        ·rw[if_neg hj]at h
         rw[List.getElem?_set_ne (Ne.symm hj)];exact rep.ow j b h
      have hi2:i<σ.length:=by rw[<- rep.len];exact hi
      have es:σ.set i (some (.ref a))=σ:=by
       have:σ[i]=some (.ref a):=(List.getElem?_eq_some_iff.mp ev).2
       rw[<- this];exact List.set_getElem_self hi2
      rw[es];exact r1
     have hi2:i<σ.length:=by rw[<- rep.len];exact hi
     have es:σ.set i (some (.ref a))=σ:=by
      have:σ[i]=some (.ref a):=(List.getElem?_eq_some_iff.mp ev).2
      rw[<- this];exact List.set_getElem_self hi2
     rw[es]at rr
     refine⟨M',ρ',a,vs,fun _=>.inl,rr,ev,hl,fun b=>by show mI ρ i (fun b=>b=a) i b↔b=a;rw[bT],IsAll.weak (fun b z=>⟨.inr z,fun _=>(rep.priv i b z.1).2.1⟩) inner,hi,fun j b z=>?_,fun j hj=>a_ hj⟩
     by_cases hj:j=i
     ·subst hj
      have z:mI ρ j (fun b=>b=a) j b:=z
      rw[bT]at z;rw[z];exact pa
     ·have z:mI ρ i (fun b=>b=a) j b:=z
      rw[a_ hj]at z;exact z
    |_=>cases e
def yV (i:Nat)(f:En->Res R):En->Res Fl:=fun env=>match fM env i with
 |some (ds,fr)=>(f env).bind fun r=>if ds.length<lim/\¬ i∈r.al then .ok (.nx ((frz env r.al).set i (some (.own (ds++[r.d]) (fr&&r.fr))))) else .stuck
 |none=>.stuck
theorem BM {i:Nat}{a e:Expr}{f:En->Res R}{apos cpos pos:Pos}(ha:PE X a (fS i))(h:PD X E e f)
 (hbase:attributeBase a "append" X.env (eval a X.env)=eval a X.env:=by rfl)
 (hfew:((backTo cpos (starEach [e] X.env)).all (fun x=>!x.1)&&(backToKw cpos (keywordEach [] X.env)).all (fun x=>x.1.isSome)
   && decide (([e]:List Expr).length+([]:List Keyword).length+(if ([]:List Keyword).isEmpty then 0 else 1)<30))=true:=by rfl)
 (hline:(apos.endLine==cpos.line)=true:=by rfl) (hs:starEach [e] X.env=(false,eval e X.env)::starEach [] X.env:=by rfl) (hplain:(backTo cpos (starEach [] X.env)).any (·.1)=false:=by rfl)
 (hsw:swapsWith (.Call (.Attribute a "append" apos) [e] [] cpos) none pos.line X.env=pure false:=by rfl) :
 jY X E (.Expr (.Call (.Attribute a "append" apos) [e] [] cpos) pos) (yV i f):=by
 obtain⟨t,p1,s1⟩:=h
 refine⟨_,nW (qN PySem.F.plainAttrs_list PySem.F.slot_list_append PySem.F.type_list_append mU ha (be p1 di hs) hbase hfew hline hs hplain) hsw,fun g M ρ env σ H D rep p=>?_⟩
 unfold yV at p
 cases e1:fM env i with
 |none=>rw[e1]at p;exact p.elim
 |some o=>
  obtain⟨ds,fr⟩:=o
  rw[e1]at p
  dsimp only at p
  obtain⟨M0,ρ0,l,vs,m0,rep0,ev,k1,k2,k4,hi,_⟩:=rep.toOwn e1
  refine⟨_,ev,.inl ⟨rfl,vs,SqL.of k1⟩,s1.oneS rep p fun r y M' H' e rep' ro p'=>?_⟩
  by_cases hc:ds.length<lim/\¬ i∈r.al
  ·rw[if_pos hc]at p'
   obtain⟨M1,x1,x1m,rep1,is1⟩:=ro.is rep' e rep.same
   obtain⟨M2,ρ2,x2,rep2,o2,k5,k6⟩:=Rep.frz r.al rep1
   have is2:Is H' (msk g M2 r.fr) r.d y:=Is.frozen rep1 x2 o2 is1
   have e2:fM (frz env r.al) i=some (ds,fr):=by
    unfold fM
    rw[oF _ hc.2]
    exact e1
   obtain⟨M3,ρ3,l3,vs3,m3,rep3,ev3,j1,j2,j4,hi3,_⟩:=rep2.toOwn e2
   rw[ev]at ev3;cases ev3
   have hl:H' l=some (.lst vs):=e.h _ _ k1
   rw[hl]at j1;cases j1
   have pl:ρ3 i l:=(j2 l).mpr rfl
   obtain⟨nl3,_⟩:=rep3.priv i l pl
   have is4:IsAll H' (msk g M3 (fr&&r.fr)) (ds++[r.d]) (vs++[y]):=by
    refine IsAll.snoc (IsAll.weak (fun b z=>⟨z.1,fun q=>z.2 (by cases fr<;>simp_all)⟩) j4) (Is.weak (fun b z=>⟨m3 b z.1,fun q=>z.2 (by cases fr<;>simp_all)⟩) is2)
   have kp:∀ b u,H' b=some u->(msk g M3 (fr&&r.fr) b\/fixd u)->az H' l (.lst (vs++[y])) b=some u:=fun b u q z=>by
    rw[ag]
    ·exact q
    ·rintro rfl
     rcases z with z|z
     ·exact nl3 z.1
     ·rw[hl]at q;cases q;exact z
   obtain⟨f1,rep4⟩:=rep3.write (sl:=.own (ds++[r.d]) (fr&&r.fr)) (vs':=vs++[y]) pl (by rw[List.length_set];exact hi3) ev ⟨l,vs++[y],rfl,ai,j2,IsAll.mono kp (fun _ _ _ z=>z) is4⟩
   rw[List.set_set]at rep4
   refine⟨l,vs,y,rfl,rfl,hl,by rw[k4.length];exact k7 hc.1,?_⟩
   exact p' σ M3 ρ3 _ (Frz.trans ⟨fun a z=>m3 a (x2 a (x1m a z)),fun _ _ q _=>q⟩ f1) rep4
  ·rw[if_neg hc]at p';exact p'.elim
end
end L3
namespace L3
open PySem PySem.Spec PyProof.Rows L2
def Ep (ix:List Nat)(t:TG)(asg:D->Bool->En->Option En):Prop:=∀(g:Gd)(M:Addr->Prop)(ρ:Pr)(env aB:En)(σ:St)(H:Hp)(d:D)(fr:Bool)(v:V)(Q:St->Hp->Prop),
 Rep g M ρ env σ H->Is H (msk g M fr) d v->asg d fr env=some aB->(∀(σ':St)(ρ':Pr),Rep g M ρ' aB σ' H->(∀ j,¬ j∈ix->σ'[j]?=σ[j]?)->(∀ j a,ρ' j a->ρ j a)->Q σ' H)->t v σ H Q
def F9 (ix:List Nat)(t:CM)(asg:List D->Bool->En->Option En):Prop:=∀(g:Gd)(M:Addr->Prop)(ρ:Pr)(env aB:En)(σ:St)(H:Hp)(ds:List D)(fr:Bool)(vs:List V)(Q:St->Hp->Prop),
 Rep g M ρ env σ H->IsAll H (msk g M fr) ds vs->asg ds fr env=some aB->(∀(σ':St)(ρ':Pr),Rep g M ρ' aB σ' H->(∀ j,¬ j∈ix->σ'[j]?=σ[j]?)->(∀ j a,ρ' j a->ρ j a)->Q σ' H)->t vs σ H Q
def yW (X:Cx)(ix:List Nat)(tg:Expr)(asg:D->Bool->En->Option En):Prop:=∃ t,PG X tg t/\Ep ix t asg
def BN (X:Cx)(ix:List Nat)(ts:List Expr)(asg:List D->Bool->En->Option En):Prop:=∃ t,DC X ts t/\F9 ix t asg
section
variable {X:Cx}{E:XK}
def gN (i:Nat):D->Bool->En->Option En:=fun d fr env=>if i<env.length then some (env.set i (some (.val d fr))) else none
theorem xl {i:Nat}:Ep [i] (jC i) (gN i):=by
 intro g M ρ env aB σ H d fr v Q rep is e k
 unfold gN at e
 by_cases hi:i<env.length
 ·rw[if_pos hi]at e
  cases e
  exact k _ _ (rep.put (sl:=.val d fr) (T:=fun _=>False) hi is (fun _ z=>z.elim) fun _ z=>z.elim) (fun j hj=>List.getElem?_set_ne fun e=>hj (by simp[e])) fun j a z=>by
   by_cases hj:j=i
   ·subst hj;rw[bT]at z;exact z.elim
   ·rw[a_ hj]at z;exact z
 ·rw[if_neg hi]at e;cases e
theorem au {i:Nat}{x:Str}{pos:Pos}(hN:X.N.Nodup)(hi:X.N[i]?=some x)(hx:CK X.env.scope x)(hf:X.fn x=true\/X.env.scope.names.lookup x=some .local:=by first|exact .inl rfl|exact .inr rfl|assumption):yW X [i] (.Name x pos) (gN i):=
 ⟨_,j6 hN hi hx hf,xl⟩
def gb:List D->Bool->En->Option En:=fun ds _ env=>match ds with
 | []=>some env
 |_=>none
def bb (f:D->Bool->En->Option En)(fs:List D->Bool->En->Option En):List D->Bool->En->Option En:=fun ds fr env=>match ds with
 |d::r=>(f d fr env).bind fun aB=>fs r fr aB
 | []=>none
theorem rB:BN X [] [] gb:=⟨_,vw,fun g M ρ env aB σ H ds fr vs Q rep is e k=>by
 cases ds with
 |nil=>cases e;cases is;exact⟨rfl,k σ ρ rep (fun _ _=>rfl) fun _ _ z=>z⟩
 |cons d ds=>cases e⟩
theorem gy {e:Expr}{es:List Expr}{f:D->Bool->En->Option En}{fs:List D->Bool->En->Option En}{ix jx:List Nat}(h1:yW X ix e f)(h2:BN X jx es fs)
 (hs:∀ t,PG X e t->∀ u,DC X es u->DC X (e::es) (qG t u)):BN X (ix++jx) (e::es) (bb f fs):=by
 obtain⟨t,p1,s1⟩:=h1
 obtain⟨u,p2,s2⟩:=h2
 refine⟨_,hs t p1 u p2,fun g M ρ env aB σ H ds fr vs Q rep is e k=>?_⟩
 cases ds with
 |nil=>cases e
 |cons d ds=>
  obtain⟨v,r,rfl,i1,i2⟩:=is
  unfold bb at e
  dsimp only at e
  cases q:f d fr env with
  |none=>rw[q]at e;cases e
  |some dO=>
   rw[q]at e
   refine⟨v,r,rfl,s1 g M ρ env dO σ H d fr v _ rep i1 q fun σ1 ρ1 rep1 c1 d1=>?_⟩
   exact s2 g M ρ1 dO aB σ1 H ds fr r Q rep1 i2 e fun σ2 ρ2 rep2 c2 d2=>k σ2 ρ2 rep2 (fun j hj=>(c2 j fun z=>hj (by simp[z])).trans (c1 j fun z=>hj (by simp[z]))) fun j a z=>d1 j a (d2 j a z)
def gT (n:Nat)(fs:List D->Bool->En->Option En):D->Bool->En->Option En:=fun d fr env=>match d with
 | .tup ds=>if ds.length=n then fs ds fr env else none
 |_=>none
theorem vT {ix:List Nat}{es:List Expr}{k:Nat}{pos:Pos}{n:Nat}{fs:List D->Bool->En->Option En}(hc:X.calm=true)(h:BN X ix es fs)(hn:(assignEach es X.env).length=n:=by rfl)(hst:(assignEach es X.env).findIdx? (·.1)=none:=by rfl):yW X ix (.Tuple es k pos) (gT n fs):=by
 obtain⟨t,p1,s1⟩:=h
 refine⟨_,x9 hc p1 hn hst,fun g M ρ env aB σ H d fr v Q rep is e kk=>?_⟩
 unfold gT at e
 cases d with
 |tup ds=>
  obtain⟨a,vs,rfl,h1,h2⟩:=is
  dsimp only at e
  by_cases hl:ds.length=n
  ·rw[if_pos hl]at e
   exact⟨a,vs,rfl,SqT.of h1,h2.length.trans hl,s1 g M ρ env aB σ H ds fr vs Q rep h2 e kk⟩
  ·rw[if_neg hl]at e;cases e
 |_=>cases e
end
structure Src where
 xs:List D
 fr:Bool
 al:List Nat
structure Walk (J:It) (m:Addr->Prop) (H:Hp) (xs:List D):Prop where
 go:∀ H' i d,(∀ a o,H a=some o->(m a\/fixd o)->H' a=some o)->xs[i]?=some d->J.go i H'/\∀ x H'',J.yld i H' x H''->Same H' H''/\Is H'' m d x
 stop:∀ H',(∀ a o,H a=some o->(m a\/fixd o)->H' a=some o)->J.stop xs.length H'
theorem Walk.weak {J:It}{m m':Addr->Prop}{H:Hp}{xs:List D}(w:Walk J m H xs)(h:∀ a,m a->m' a):Walk J m' H xs:=
 ⟨fun H' i d k e=>let ⟨a,b⟩:=w.go H' i d (fun a o q z=>k a o q (z.imp (h a) id)) e;⟨a,fun x H'' y=>let ⟨c,d⟩:=b x H'' y;⟨c,d.weak h⟩⟩,fun H' k=>w.stop H' fun a o q z=>k a o q (z.imp (h a) id)⟩
def PostI (mg:Str->Option Value)(E:XK)(g:Gd)(M:Addr->Prop)(ρ:Pr)(env:En)(σ:St)(H:Hp)(R:It->Hp->Prop):Res Src->Prop
 | .stuck=>False
 | .exc c=>A_ mg E g c
 | .ok s=>∀ J M' H',Ext M H M' H'->Rep g M' ρ env σ H'->Walk J (vmsk g M' s.fr ρ s.al) H' s.xs->R J H'
def F_ (mg:Str->Option Value)(E:XK)(wi:TI)(f:En->Res Src):Prop:=∀ g M ρ env σ H R,Rep g M ρ env σ H->PostI mg E g M ρ env σ H R (f env)->wi σ H R
def Er (X:Cx)(E:XK)(tg iter:Expr)(f:En->Res Src):Prop:=∃ wi,PI X tg iter wi/\F_ X.mg E wi f
section
variable {X:Cx}{E:XK}{tg:Expr}
def Hn (K:PySem.W.Frag)(tl:TE):TI:=fun σ H R=>tl σ H fun x H1=>∃ a,x=.ref a/\(((∃ xs,SqL K H1 a xs)/\R (Fv K a) H1)\/((∃ xs,SqT K H1 a xs)/\R (G0 K a) H1))
theorem yX {l:Expr}{tl:TE}(hl:PE X l tl):PI X tg l (Hn X.K tl):=by
 intro pins s σ H R I h
 refine bS (hl pins s σ H _ I h) fun v s1 ⟨x,H1,I1,r1,q1⟩=>?_
 obtain⟨a,e,q⟩:=q1
 subst e
 cases r1
 rcases q with⟨⟨xs,hq⟩,q⟩|⟨⟨xs,hq⟩,q⟩
 ·obtain⟨its,rv,p,hz⟩:=I1.list hq
  refine wpAny_pyIter_list p.isList ?_
  refine⟨s1.heap.objs.size,[s1.heap.objs.size],_,_,H1,rfl,I1.kept (t':=s1.toks) fun b o e=>Heap.get?_push_of_some _ e,wJ a _,⟨_,Heap.get?_push_size _ rfl,rfl,rfl⟩,fun b hb=>?_,q⟩
  have e:b=s1.heap.objs.size:=by simpa using hb
  subst e
  exact I1.fpOk (Nat.le_refl _) (I1.hok.fresh (Nat.le_refl _))
 ·obtain⟨its,rv,p,hz⟩:=I1.tuple hq
  refine wpAny_pyIter_tuple (show s1.heap.IsTuple a its.toArray from p) ?_
  refine⟨s1.heap.objs.size,[s1.heap.objs.size],_,_,H1,rfl,I1.kept (t':=s1.toks) fun b o e=>Heap.get?_push_of_some _ e,sJ a _,⟨_,Heap.get?_push_size _ rfl,rfl,rfl⟩,fun b hb=>?_,q⟩
  have e:b=s1.heap.objs.size:=by simpa using hb
  subst e
  exact I1.fpOk (Nat.le_refl _) (I1.hok.fresh (Nat.le_refl _))
theorem xm {K:PySem.W.Frag}{a:Addr}{m:Addr->Prop}{H:Hp}{ds:List D}{vs:List V}(h:(H a=some (.lst vs)/\m a)\/∃ o,H a=some (.frz o (.lst vs))/\m a)(is:IsAll H m ds vs):Walk (Fv K a) m H ds:=by
 have st:∀ H',(∀ a o,H a=some o->(m a\/fixd o)->H' a=some o)->SqL K H' a vs:=fun H' k=>by
  rcases h with⟨h,hm⟩|⟨o,h,_⟩
  ·exact .inl (.inl (k a _ h (.inl hm)))
  ·exact .inl (.inr ⟨o,k a _ h (.inr True.intro)⟩)
 refine⟨fun H' i d k e=>?_,fun H' k=>⟨vs,st H' k,by rw[is.length];exact Nat.le_refl _⟩⟩
 obtain⟨v,ev,iv⟩:=(is.mono k fun _ _ _ z=>z:IsAll H' m ds vs).get e
 refine⟨⟨vs,v,st H' k,ev⟩,fun x H'' y=>?_⟩
 obtain⟨rfl,y⟩:=y
 have:=y vs (st _ k)
 rw[ev]at this;cases this
 exact⟨Same.refl _,iv⟩
theorem yY {K:PySem.W.Frag}{a:Addr}{m:Addr->Prop}{H:Hp}{ds:List D}{vs:List V}(h:H a=some (.tup vs))(is:IsAll H m ds vs):Walk (G0 K a) m H ds:=by
 have st:∀ H',(∀ a o,H a=some o->(m a\/fixd o)->H' a=some o)->SqT K H' a vs:=fun H' k=>SqT.of (k a _ h (.inr True.intro))
 refine⟨fun H' i d k e=>?_,fun H' k=>⟨vs,st H' k,by rw[is.length];exact Nat.le_refl _⟩⟩
 obtain⟨v,ev,iv⟩:=(is.mono k fun _ _ _ z=>z:IsAll H' m ds vs).get e
 refine⟨⟨vs,v,st H' k,ev⟩,fun x H'' y=>?_⟩
 obtain⟨rfl,y⟩:=y
 have:=y vs (st _ k)
 rw[ev]at this;cases this
 exact⟨Same.refl _,iv⟩
def du (lo:Int)(n:Nat):List D:=(List.range n).map fun k=>.int (lo+(k:Nat))
theorem tS {m:Addr->Prop}{H:Hp}(lo:Int)(n:Nat):Walk (GI lo n) m H (du lo n):=by
 refine⟨fun H' i d k e=>?_,fun H' k=>by show n<=(du lo n).length;simp[du]⟩
 have hi:i<n:=by have:=(List.getElem?_eq_some_iff.mp e).1;simpa[du] using this
 refine⟨hi,fun x H'' y=>?_⟩
 obtain⟨rfl,rfl⟩:=y
 refine⟨Same.refl _,?_⟩
 have:(du lo n)[i]?=some (.int (lo+(i:Nat))):=by simp[du,hi]
 rw[this]at e;cases e
 rfl
def gc (f:En->Res R):En->Res Src:=fun env=>(f env).bind fun r=>match r.d with
 | .lst ds=>.ok ⟨ds,r.fr,r.al⟩
 | .tup ds=>.ok ⟨ds,r.fr,r.al⟩
 |_=>.stuck
theorem bL {l:Expr}{f:En->Res R}(h:PD X E l f):Er X E tg l (gc f):=by
 obtain⟨t,p1,s1⟩:=h
 refine⟨_,yX p1,fun g M ρ env σ H R rep p=>?_⟩
 refine s1.one rep (P:=fun M H r=>PostI X.mg E g M ρ env σ H R r) p (fun _ _ z=>z) (fun _ _ _ z=>z) (fun M H M' H' r e p=>?_) fun r v M1 H1 e1 rep1 is q=>?_
 ·cases r with
  |stuck=>exact p
  |exc c=>exact p
  |ok s=>exact fun J M2 H2 e2=>p J M2 H2 (e.trans e2)
 ·cases z:r.d with
  |lst ds=>
   rw[z]at is
   simp only[z]at q
   obtain⟨a,vs,rfl,h1,h2⟩:=is
   exact⟨a,rfl,.inl ⟨⟨vs,.inl (h1.imp (·.1) fun⟨o,z,_⟩=>⟨o,z⟩)⟩,q _ M1 H1 (Ext.refl _ _) rep1 (xm h1 h2)⟩⟩
  |tup ds=>
   rw[z]at is
   simp only[z]at q
   obtain⟨a,vs,rfl,h1,h2⟩:=is
   exact⟨a,rfl,.inr ⟨⟨vs,SqT.of h1⟩,q _ M1 H1 (Ext.refl _ _) rep1 (yY h1 h2)⟩⟩
  |_=>simp only[z]at q;exact q.elim
def cR (i:Int):Bool:=decide (-(2 ^ 62)<=i)&&decide (i<2 ^ 62)
def CZ (fs:En->Res (List R)):En->Res Src:=fun env=>(fs env).bind fun rs=>match rs.map R.d with
 | [.int j]=>if cR j then .ok ⟨du 0 j.toNat,true,[]⟩ else .stuck
 |_=>.stuck
theorem PostI.ext {mg:Str->Option Value}{g:Gd}{M M':Addr->Prop}{ρ:Pr}{env:En}{σ:St}{H H':Hp}{R:It->Hp->Prop}{r:Res Src}(e:Ext M H M' H')(p:PostI mg E g M ρ env σ H R r):PostI mg E g M' ρ env σ H' R r:=by
 cases r with
 |stuck=>exact p
 |exc c=>exact p
 |ok s=>exact fun J M2 H2 e2=>p J M2 H2 (e.trans e2)
theorem cC {a:Expr} {fs:En->Res (List R)} {p pos:Pos} (hg:Gl X "range") (hm:X.mg "range"=none) (ha:xV X E [a] fs) (hs:starEach [a] X.env=[(false,eval a X.env)]:=by rfl):Er X E tg (.Call (.Name "range" p) [a] [] pos) (CZ fs):=by
 obtain⟨t,p1,s1⟩:=ha
 refine⟨_,wK hg hm p1 hs,fun g M ρ env σ H Rq rep p=>s1.one rep (P:=fun M H r=>PostI X.mg E g M ρ env σ H Rq r) p (fun _ _ z=>z) (fun _ _ _ z=>z) (fun _ _ _ _ _ e p=>p.ext e) fun rs vs M1 H1 e1 rep1 is q=>?_⟩
 generalize hd:rs.map R.d=ds at is q
 match ds,is,q with
 | [.int j],is,q=>
  obtain⟨v,w,rfl,i1,i2⟩:=is
  cases i1;cases i2
  dsimp only at q
  by_cases hc:cR j=true
  ·rw[if_pos hc]at q
   simp only[cR,Bool.and_eq_true,decide_eq_true_eq]at hc
   exact⟨j,rfl,hc.1,hc.2,q _ M1 H1 (Ext.refl _ _) rep1 (tS 0 j.toNat)⟩
  ·rw[if_neg hc]at q;exact q.elim
 | [],_,q=>exact q.elim
 | [.non],_,q=>exact q.elim
 | [.bl _],_,q=>exact q.elim
 | [.str _],_,q=>exact q.elim
 | [.tup _],_,q=>exact q.elim
 | [.lst _],_,q=>exact q.elim
 | [.dic _ _],_,q=>exact q.elim
 | .int _::_::_,_,q=>exact q.elim
 | .non::_::_,_,q=>exact q.elim
 | .bl _::_::_,_,q=>exact q.elim
 | .str _::_::_,_,q=>exact q.elim
 | .tup _::_::_,_,q=>exact q.elim
 | .lst _::_::_,_,q=>exact q.elim
 | .dic _ _::_::_,_,q=>exact q.elim
def bY (asg:D->Bool->En->Option En)(fr:Bool)(body:En->Res Fl):List D->En->Res Fl
 | [],env=>.ok (.nx env)
 |x::xs,env=>match asg x fr env with
  |none=>.stuck
  |some dO=>(body dO).bind fun r=>match r with
   | .nx aB=>bY asg fr body xs aB
   | .ct aB=>bY asg fr body xs aB
   | .bk aB=>.ok (.nx aB)
   | .rt r=>.ok (.rt r)
   | .rm r e=>.ok (.rm r e)
def gJ (src:En->Res Src)(asg:D->Bool->En->Option En)(body:En->Res Fl):En->Res Fl:=fun env=>(src env).bind fun s=>bY asg s.fr body s.xs (frz env s.al)
def Ga (J:It)(u:TG)(tb:TS)(D:Ends)(σ:St)(H1:Hp):Prop:=∃ W:Nat->Nat->St->Hp->Prop,(∃ m,W 0 m σ H1)/\∀ i m σ H,W i m σ H->(J.stop i H/\D.nx σ H)\/(J.go i H/\∃ N:St->Hp->Prop,(∀ σ' H',N σ' H'->∃ m',m'<m/\W (i+1) m' σ' H')/\∀ x H',J.yld i H x H'->u x σ H' fun σ2 H2=>tb { D with nx:=N,ct:=N,bk:=D.nx } σ2 H2)
theorem ld {J:It}{u:TG}{tb:TS}{ix:List Nat}{asg:D->Bool->En->Option En}{fb:En->Res Fl}{fr:Bool}{xs:List D}{g:Gd}{M2:Addr->Prop}{ρ2:Pr}{env2:En}{σ:St}{H1:Hp}{D:Ends}(s2:Ep ix u asg)(s3:BL X.mg E tb fb)(rep2:Rep g M2 ρ2 env2 σ H1)(wk2:Walk J (msk g M2 fr) H1 xs)(p2':PostS X.mg E g M2 H1 D (bY asg fr fb xs env2)):Ga J u tb D σ H1:=by
 refine⟨fun i m σ' H'=>m=xs.length-i/\i<=xs.length/\∃ M' ρ' aB,Rep g M' ρ' aB σ' H'/\Frz M2 H1 M' H'/\PostS X.mg E g M' H' D (bY asg fr fb (xs.drop i) aB),⟨_,rfl,Nat.zero_le _,M2,ρ2,_,rep2,Frz.refl _ _,p2'⟩,?_⟩
 rintro i m σ' H' ⟨rfl,hle,M',ρ',aB,rep',f',p'⟩
 have kp:∀ a o,H1 a=some o->(msk g M2 fr a\/fixd o)->H' a=some o:=fun a o e z=>f'.h a o e (z.imp (·.1) id)
 by_cases hlt:i<xs.length
 ·have ed:xs[i]?=some xs[i]:=by simp[hlt]
  obtain⟨go,yl⟩:=wk2.go H' i _ kp ed
  have edrop:xs.drop i=xs[i]::xs.drop (i+1):=List.drop_eq_getElem_cons hlt
  rw[edrop]at p'
  unfold bY at p'
  refine .inr ⟨go,fun σ'' H''=>∃ M'' ρ'' env'',Rep g M'' ρ'' env'' σ'' H''/\Frz M2 H1 M'' H''/\PostS X.mg E g M'' H'' D (bY asg fr fb (xs.drop (i+1)) env''),fun σ'' H'' z=>⟨xs.length-(i+1),by omega,rfl,hlt,z⟩,fun x H'' y=>?_⟩
  obtain⟨sm,is⟩:=yl x H'' y
  have rep'':=rep'.grow sm
  have fx:Frz M' H' M' H'':=⟨fun _ z=>z,fun a o e _=>sm a o e⟩
  have is':Is H'' (msk g M' fr) xs[i] x:=is.weak fun a z=>msk.mono f'.m z
  cases qa:asg xs[i] fr aB with
  |none=>simp only[qa]at p';exact p'.elim
  |some dO=>
   simp only[qa]at p'
   refine s2 g M' ρ' aB dO σ' H'' _ fr x _ rep'' is' qa fun σ1 ρ1 rep1' _ _=>?_
   refine s3 g M' ρ1 dO σ1 H'' _ rep1' ?_
   have p'':=PostS.frz fx p'
   cases qb:fb dO with
   |stuck=>rw[qb]at p'';exact p''
   |exc c=>rw[qb]at p'';exact p''
   |ok r=>
    rw[qb]at p''
    cases r with
    |nx e3=>exact fun σ3 M3 ρ3 H3 f3 rep3=>⟨M3,ρ3,e3,rep3,(f'.trans fx).trans f3,PostS.frz f3 p''⟩
    |ct e3=>exact fun σ3 M3 ρ3 H3 f3 rep3=>⟨M3,ρ3,e3,rep3,(f'.trans fx).trans f3,PostS.frz f3 p''⟩
    |bk e3=>exact p''
    |rt r=>exact p''
    |rm r e3=>exact p''
 ·have e:i=xs.length:=by omega
  subst e
  rw[List.drop_length]at p'
  exact .inl ⟨wk2.stop H' kp,p' σ' M' ρ' H' (Frz.refl _ _) rep'⟩
theorem b6 {ix:List Nat}{iter:Expr}{body:List Stmt}{src:En->Res Src}{asg:D->Bool->En->Option En}{fb:En->Res Fl}{pos:Pos}(hp:PassesOwn (model X.prog X.w) X.A X.env X.xe)(hc:X.calm=true)
 (hi:Er X E tg iter src) (hg:yW X ix tg asg) (hb:k_ X E body fb) (hs:∀ x,foldedSetIterable iter X.env x=pure x:=by intro _;rfl):jY X E (.For tg iter body [] pos) (gJ src asg fb):=by
 obtain⟨wi,p1,s1⟩:=hi
 obtain⟨u,p2,s2⟩:=hg
 obtain⟨tb,p3,s3⟩:=hb
 refine⟨_,nX hp hc p1 p2 p3 hs,fun g M ρ env σ H D rep p=>?_⟩
 refine s1 g M ρ env σ H _ rep ?_
 unfold gJ at p
 cases q:src env with
 |stuck=>rw[q]at p;exact p
 |exc c=>rw[q]at p;exact p
 |ok s=>
  rw[q]at p
  intro J M1 H1 e1 rep1 wk
  obtain⟨M2,ρ2,x2,rep2,o2,_,_⟩:=Rep.frz s.al rep1
  have wk2:Walk J (msk g M2 s.fr) H1 s.xs:=wk.weak fun a z=>z.elim (msk.mono x2) fun⟨i,hi,o⟩=>⟨o2 i hi a o,fun _=>(rep1.priv i a o).2.1⟩
  have p2':PostS X.mg E g M2 H1 D (bY asg s.fr fb s.xs (frz env s.al)):=PostS.frz (e1.frz.trans ⟨x2,fun _ _ q _=>q⟩) p
  exact ld s2 s3 rep2 wk2 p2'
end
end L3
namespace L3
open PySem PySem.Spec PyProof.Rows L2
theorem fB {env:Env}:∀(names:List (Str×NameKind))(cs:List (Str×Addr)),(∀ x∈names,x.2=.free->∃ c,env.cells.lookup x.1=some c)->(∀ y c,cs.lookup y=some c->env.cells.lookup y=some c)->
 ∃ cl,(forIn names cs fun(x:Str×NameKind)(r:List (Str×Addr))=>(do
  if (x.2==.free)=true then
   let c <- cellOf env x.1
   pure (ForInStep.yield ((x.1,c)::r))
  else pure (ForInStep.yield r):Sem (ForInStep (List (Str×Addr)))))=pure cl/\(∀ y c,cl.lookup y=some c->env.cells.lookup y=some c)/\(∀ x∈names,x.2=.free->∃ c,cl.lookup x.1=some c)/\(∀ y c,cs.lookup y=some c->∃ c',cl.lookup y=some c')
 | [],cs,_,h=>⟨cs,by simp,h,fun _ z=>absurd z (by simp),fun y c e=>⟨c,e⟩⟩
 |(n,k)::r,cs,hf,h=>by
  by_cases hk:k=.free
  ·subst hk
   obtain⟨c,hc⟩:=hf (n,.free) (by simp) rfl
   have hco:cellOf env n=pure c:=by simp[cellOf,hc]
   have h':∀ y c',((n,c)::cs).lookup y=some c'->env.cells.lookup y=some c':=fun y c' e=>by
    rw[List.lookup_cons]at e
    cases hy:y==n with
    |true=>rw[hy]at e;cases e;rw[eq_of_beq hy];exact hc
    |false=>rw[hy]at e;exact h y c' e
   obtain⟨cl,e1,e2,e3,e4⟩:=fB r ((n,c)::cs) (fun x hx=>hf x (by simp[hx])) h'
   have self:∃ c',cl.lookup n=some c':=e4 n c (by simp[List.lookup_cons])
   refine⟨cl,?_,e2,fun x hx hxf=>?_,fun y c' e=>?_⟩
   ·rw[List.forIn_cons]
    simp only[beq_self_eq_true,if_true,hco,pure_bind]
    exact e1
   ·rcases List.mem_cons.mp hx with rfl|hx
    ·exact self
    ·exact e3 x hx hxf
   ·by_cases hy:y=n
    ·rw[hy];exact self
    ·refine e4 y c' ?_
     have hb:(y==n)=false:=by simpa using hy
     rw[List.lookup_cons,hb]
     exact e
  ·obtain⟨cl,e1,e2,e3,e4⟩:=fB r cs (fun x hx=>hf x (by simp[hx])) h
   refine⟨cl,?_,e2,fun x hx hxf=>?_,e4⟩
   ·rw[List.forIn_cons]
    have hkb:(k==NameKind.free)=false:=by simpa using hk
    simp only[hkb,Bool.false_eq_true,if_false,pure_bind]
    exact e1
   ·rcases List.mem_cons.mp hx with rfl|hx
    ·exact absurd hxf hk
    ·exact e3 x hx hxf
theorem mJ {scope:Scope}{env:Env}(h:∀ x∈scope.names,x.2=.free->∃ c,env.cells.lookup x.1=some c) :
 ∃ cl,closureFor scope env=pure cl/\(∀ y c,cl.lookup y=some c->env.cells.lookup y=some c)/\(∀ x∈scope.names,x.2=.free->∃ c,cl.lookup x.1=some c):=by
 obtain⟨cl,e1,e2,e3,_⟩:=fB scope.names [] h (fun _ _ e=>by simp at e)
 refine⟨cl,?_,e2,e3⟩
 unfold closureFor
 refine Eq.trans ?_ (show((pure cl:Sem (List (Str×Addr))) >>= fun cs=>pure cs)=pure cl by simp)
 rw[<- e1]
 all_goals first
  |rfl
  |(congr 1;congr 1;funext x r;obtain⟨n,k⟩:=x;first|rfl|(dsimp only;split<;>simp_all))
theorem jJ {f:Str->NameKind->NameKind}:∀(names:List (Str×NameKind))(y:Str),(names.map fun x=>(x.1,f x.1 x.2)).lookup y=(names.lookup y).map (f y)
 | [],y=>rfl
 |(n,k)::r,y=>by
  rw[List.map_cons,List.lookup_cons,List.lookup_cons]
  cases h:y==n with
  |true=>rw[eq_of_beq h];rfl
  |false=>exact jJ r y
theorem gf (scope:Scope)(env:Env)(y:Str):(relabel scope env).names.lookup y=(scope.names.lookup y).map fun k=>if (k==.free&&env.scope.kind==.function&&env.kindOf y==some .cell)=true then .cell else k:=by
 have e:(relabel scope env).names=scope.names.map fun x=>(x.1,(fun n k=>if (k==NameKind.free&&env.scope.kind==.function&&env.kindOf n==some .cell)=true then NameKind.cell else k) x.1 x.2):=by
  unfold relabel
  refine List.map_congr_left fun x _=>?_
  obtain⟨n,k⟩:=x
  dsimp only
  split<;>rfl
 rw[e]
 exact jJ (f:=fun n k=>if (k==NameKind.free&&env.scope.kind==.function&&env.kindOf n==some .cell)=true then NameKind.cell else k) scope.names y
theorem oG {scope:Scope}{env:Env}{y:Str}(h:scope.names.lookup y=some .free):(relabel scope env).names.lookup y=some .cell\/(relabel scope env).names.lookup y=some .free:=by
 rw[gf,h]
 simp only[Option.map_some]
 split
 ·exact .inl rfl
 ·exact .inr rfl
def bA (X:Cx)(scope:Scope)(N:List Str)(cl:List (Str×Addr))(C:Addr)(s:Shared)(H:Hp)(ex:List Addr):Cx:=
 { X with N:=N,s₀:=s,H₀:=H,env:=compEnvC scope cl C X.env,outer:=X.stack,ex:=ex,fn:=fun _=>false,pn:=[],xe:=fun _ _=>False }
section
variable {X:Cx}{pins:List (Addr×Obj)}{σ:St}{H:Hp}{s:Shared}{scope:Scope}{N:List Str}{cl:List (Str×Addr)}{C:Addr}{ex:List Addr}
theorem BO (I:L2.Inv X pins σ H s)(hkind:scope.kind=.function)(hcell:∀ y∈scope.names,y.2≠.cell)(hcl:∀ y c,cl.lookup y=some c->X.env.cells.lookup y=some c)(hhas:∀ x∈scope.names,x.2=.free->∃ c,cl.lookup x.1=some c)
 (hC:s.heap.objs.size<=C) (hex:∀ b∈ex,FpOk X pins H b/\b<s.heap.objs.size):(bA X scope N cl C s H ex).Ok where
 mod:=I.ok.mod
 kind:=hkind
 glob:=I.ok.glob
 blt:=I.ok.blt
 above:=hC
 inj:=fun x y c h1 h2=>I.ok.inj x y c (hcl x c h1) (hcl y c h2)
 has:=fun y hy=>by
  have key:∀ k,(relabel scope X.env).names.lookup y=some k->(k=.cell\/k=.free)->∃ c,cl.lookup y=some c:=fun k e hk=>by
   rw[gf]at e
   cases q:scope.names.lookup y with
   |none=>rw[q]at e;cases e
   |some k0=>
    have hm:=PySem.mem_of_lookup q
    have h0:=hcell _ hm
    have hf:k0=.free:=by
     rw[q]at e
     simp only[Option.map_some,Option.some.injEq]at e
     split at e
     ·rename_i z
      simp only[Bool.and_eq_true,beq_iff_eq]at z
      exact z.1.1
     ·rcases hk with hk|hk
      ·exact absurd (e.trans hk) h0
      ·exact e.trans hk
    exact hhas _ hm hf
  rcases hy with hy|hy
  ·exact key _ hy (.inl rfl)
  ·exact key _ hy (.inr rfl)
 cab:=fun _ _ h=>by cases h
 hd:=I.ok.hd
 frames:=I.ok.frames
 stk:=.inl rfl
 exf:=fun b hb=>⟨Nat.ne_of_lt (Nat.lt_of_lt_of_le (hex b hb).2 hC),fun x c e=>(hex b hb).1.2.2.2.2.1 x c (hcl x c e)⟩
 bs:=fun b o e=>I.bs b o e
 bsz:=Nat.le_trans I.ok.bsz I.sz
 noex:=fun b o e hb=>by
  rcases (hex b hb).1.2.2.2.1 with z|z
  ·exact I.ok.noex b o e z
  ·exact absurd (Nat.lt_of_lt_of_le (Heap.lt_size e) (Nat.le_trans I.ok.bsz z)) (Nat.lt_irrefl _)
 exfs:=fun b hb hfs=>by
  rcases List.mem_cons.mp (I.stkSub b hfs) with z|z
  ·exact(hex b hb).1.2.1 z
  ·exact(hex b hb).1.2.2.1 z
 funs:=I.stack
 frf:=I.stkFree
structure Caps (X:Cx) (scope:Scope) (capN:List Str) (caps:List Nat):Prop where
 at':∀(k:Nat)(y:Str),capN[k]?=some y->∃ j:Nat,caps[k]?=some j/\X.N[j]?=some y
 out:∀ y∈capN,X.env.kindOf y=some .cell\/X.env.kindOf y=some .free
 inn:∀ y∈capN,scope.names.lookup y=some .free
 len:caps.length=capN.length
def jg (σ:St)(caps:List Nat):St:=caps.map fun j=>(σ[j]?).join
theorem yZ {tN:List Str}{capN:List Str}{caps:List Nat}{h4:Heap}{tk:Nat}{m4:Str->Option Value}(I:L2.Inv X pins σ H s)(hkind:scope.kind=.function)(hcell:∀ y∈scope.names,y.2≠.cell)(hcl:∀ y c,cl.lookup y=some c->X.env.cells.lookup y=some c)(hhas:∀ x∈scope.names,x.2=.free->∃ c,cl.lookup x.1=some c)
 (hC:s.heap.objs.size<=C) (hex:∀ b∈ex,FpOk X pins H b/\b<s.heap.objs.size) (hc:Caps X scope capN caps) (kp:∀ b o,s.heap.get? b=some o->h4.get? b=some o) (ns:h4.Ns C m4) :
 L2.Inv (bA X scope (tN++capN) cl C s H ex) [] (List.replicate tN.length none++jg σ caps) H { s with heap:=h4,toks:=tk } where
 ok:=BO I hkind hcell hcl hhas hC hex
 os:=rfl
 bare:=I.bare
 base:=Un.kept kp
 loc:=by
  refine⟨m4,ns,fun i y v e1 e2 e3=>?_⟩
  by_cases hlt:i<tN.length
  ·rw[List.getElem?_append_left (by simpa using hlt),List.getElem?_replicate]at e2
   rw[if_pos hlt]at e2;cases e2
  ·obtain⟨k,rfl⟩ : ∃ k,i=tN.length+k:=⟨i-tN.length,by omega⟩
   have e1:capN[k]?=some y:=by
    have e1:(tN++capN)[tN.length+k]?=some y:=e1
    rwa [List.getElem?_append_right (by omega),Nat.add_sub_cancel_left]at e1
   have e2:(jg σ caps)[k]?=some (some v):=by
    rwa [List.getElem?_append_right (by simp),List.length_replicate,Nat.add_sub_cancel_left]at e2
   obtain⟨j,ej,eN⟩:=hc.at' k y e1
   have e4:σ[j]?=some (some v):=by
    unfold jg at e2
    rw[List.getElem?_map,ej]at e2
    have e2:(σ[j]?).join=some v:=by simpa using e2
    cases q:σ[j]? with
    |none=>rw[q]at e2;cases e2
    |some o=>rw[q]at e2;cases o with
     |none=>cases e2
     |some w=>cases e2;rfl
   have hm:=List.mem_of_getElem? e1
   obtain⟨m,hn,hl⟩:=I.loc
   have hout:=hc.out y hm
   obtain⟨u,r,l⟩:=hl j y v eN e4 (.inr hout)
   refine⟨u,r,.inr ⟨oG (hc.inn y hm),?_⟩⟩
   obtain⟨c,hcl2⟩:=hhas (y,.free) (PySem.mem_of_lookup (hc.inn y hm)) rfl
   refine⟨c,hcl2,?_⟩
   rcases l with⟨l,_⟩|⟨_,c',e5,z⟩
   ·rcases hout with h|h<;>(rw[h]at l;cases l)
   ·have:=hcl y c hcl2
    rw[e5]at this;cases this
    obtain⟨o,ho,hd⟩:=z
    exact⟨o,kp _ o ho,hd⟩
 cell:=fun y c e=>by
  obtain⟨v,o,ho,hd⟩:=I.cell y c (hcl y c e)
  exact⟨v,o,kp _ o ho,hd⟩
 free:=I.hok.fresh hC
 freeC:=fun y c e=>I.freeC y c (hcl y c e)
 pin:=fun p hp=>absurd (show p∈([]:List (Addr×Obj)) from hp) (by simp)
 hok:=I.hok.kept kp
 len:=by simp[bA,jg,hc.len]
theorem xn {X':Cx}{pl:List (Addr×Obj)}{σ':St}{H':Hp}{s':Shared}(I:L2.Inv X pins σ H s)(hX:X'=bA X scope N cl C s H ex)(hC:s.heap.objs.size<=C)(hex:∀ b∈ex,FpOk X pins H b/\b<s.heap.objs.size)
 (I':L2.Inv X' pl σ' H' s'):L2.Inv X pins σ H' s'/\FpOk X pins H' C:=by
 subst hX
 refine⟨I.call' (ch:=ex) I'.os I'.base I'.hok I'.bare fun b hb=>?_,I.fpOk hC I'.free⟩
 obtain⟨_,h2,h3,h4,h5,h6⟩:=(hex b hb).1
 exact⟨h4,h2,h5,h6⟩
theorem vU {H:Hp}{h':Heap}(I:L2.Inv X pins σ H s)(hf:FpOk X pins H C)(sb:Heap.SameBut C s.heap h'):L2.Inv X pins σ H { s with heap:=h' }:=
 I.turned (t':=s.toks) (it:=C) (fun b o hb e=>(sb.2 b hb).trans e) hf.1 hf.2.1 hf.2.2.2.1 hf.2.2.2.2.1 hf.2.2.2.2.2
end
end L3
namespace L3
open PySem PySem.Spec PyProof.Rows L2
section
variable {X:Cx}{pins:List (Addr×Obj)}{σ:St}{H3:Hp}{s3:Shared}{scope:Scope}{tg:Expr}{tN:List Str}{capN:List Str}{cl:List (Str×Addr)}{C:Addr}{fp:List Addr}{elt iter:Expr}{pos:Pos}{ifs:List Expr}
def Gb (X:Cx)(ifs:List Expr)(tt:TT):Prop:=∀(pins:List (Addr×Obj))(s:Shared)(σ:St)(H:Hp)(Q:Bool->Hp->Prop),L2.Inv X pins σ H s->tt σ H Q->
 wpAny (model X.prog X.w) X.A (forIn ifs true fun c r=>if r=true then do let ok <- isTrue c X.env (eval c X.env);pure (ForInStep.yield ok) else pure (ForInStep.yield r)) (TP X pins σ Q) X.xe s
theorem BP:Gb X [] (fun _ H Q=>Q true H):=fun _ _ σ H Q I q=>wpAny_tests_nil ⟨H,I,q⟩
theorem BQ {c:Expr}{tt:TT}(h:PT X c tt):Gb X [c] tt:=fun pins s σ H Q I q=>wpAny_tests_one (h pins s σ H Q I q)
theorem xo {J:It}{it Dl:Addr}{tn:Nat->Heap->Prop}{X':Cx}(hX:X'=bA X scope (tN++capN) cl C s3 H3 fp)(T:Turn X.prog X.w X.K tg J fp it tn)(hcalm:X.calm=true)
 {σc:St} {s4:Shared} (I4:L2.Inv X' [] (List.replicate tN.length none++σc) H3 s4) (bc:X'.N.length=tN.length+σc.length) (st4:tn 0 s4.heap) (hf:∀ b∈fp,FpOk X' [] H3 b)
 {tt:TT} {te:TE} {gt:TG} (hg:PG X' tg gt) (ht:Gb X' ifs tt) (he:PE X' elt te)
 (W:Nat->Nat->List V->Hp->Prop) (Fin:List V->Hp->Prop) (w0:∃ m,W 0 m [] H3)
 (turn:∀ i m acc H,W i m acc H->H Dl=some (.lst acc)/\((J.stop i H/\Fin acc H)\/(J.go i H/\∀ xv H' o,J.yld i H xv H'->o.length=tN.length->gt xv (o++σc) H' fun σ2 H1=>(∀ j:Nat,tN.length<=j->σ2[j]?=(o++σc)[j]?)/\tt σ2 H1 fun b H2=>if b=true then
   te σ2 H2 fun y H5=>H5 Dl=some (.lst acc)/\acc.length<sizeLine/\∃ m',m'<m/\W (i+1) m' (acc++[y]) (az H5 Dl (.lst (acc++[y]))) else ∃ m',m'<m/\W (i+1) m' acc H2)))
 (R:Result->Shared->Prop) (hR:∀ σ' H' acc s',L2.Inv X' [] σ' H' s'->H' Dl=some (.lst acc)->Fin acc H'->R (.ok .next) s') :
 codeAny (model X.prog X.w) X.A (.compLoop (.ListComp elt [⟨tg,iter,ifs,0⟩] scope pos) 0 (.ref it) (.ref Dl) (compEnvC scope cl C X.env)) R s4:=by
 obtain⟨m0,w0⟩:=w0
 have eA:X'.A=X.A:=by rw[hX];rfl
 have eP:X'.prog=X.prog:=by rw[hX];rfl
 have eW:X'.w=X.w:=by rw[hX];rfl
 have eK:X'.K=X.K:=by rw[hX];rfl
 have eE:X'.env=compEnvC scope cl C X.env:=by rw[hX];rfl
 have eX:X'.xe=fun _ _=>False:=by rw[hX];rfl
 have eC:X'.calm=true:=by rw[hX];exact hcalm
 have stat:∀{H':Hp},(∀ b∈fp,H' b=none)->∀ b∈fp,FpOk X' [] H' b:=fun hn b hb=>⟨hn b hb,(hf b hb).2⟩
 refine codeAny_loop rfl (fun n s=>∃ i o acc H,L2.Inv X' [] (o++σc) H s/\o.length=tN.length/\tn i s.heap/\(∀ b∈fp,H b=none)/\W i n acc H) ?_ m0 ⟨0,List.replicate tN.length none,[],H3,I4,by simp,st4,fun b hb=>(hf b hb).1,w0⟩
 rintro n s5 ⟨i,o,acc,H5,I5,lo,st5,fr5,w5⟩
 show wpAny _ X.A ((compTurn (.ListComp elt [⟨tg,iter,ifs,0⟩] scope pos) 0 (.ref it) (.ref Dl) (compEnvC scope cl C X.env)).onRaise (fun x=>do noteFrame x (compEnvC scope cl C X.env);theTreesLotGoes x)) _ _ s5
 refine wpAny_noted ?_
 rw[compTurn_list]
 obtain⟨hD,alt⟩:=turn i n acc H5 w5
 rcases alt with⟨stop,fin⟩|⟨go,step⟩
 ·refine wpAny_bind (wpAny_standAt (wpAny_bind (wpAny_mono (eA▸T.done X' eP eW eK eC i [] s5 _ H5 _ I5 (stat fr5) st5 stop) (fun r s6 ⟨hr,I6⟩=>?_) fun _ _ z=>z)))
  subst hr
  exact wpAny_pure (hR _ H5 acc s6 I6 hD fin)
 ·refine wpAny_bind (wpAny_standAt (wpAny_bind (wpAny_mono (eA▸T.item X' eP eW eK eC i [] s5 _ H5 _ I5 (stat fr5) st5 go) (fun r s6 ⟨u,hr,h6⟩=>?_) fun _ _ z=>z)))
  subst hr
  refine wpAny_bind (wpAny_mono h6 (fun _ s7 ⟨xv,H7,I7,r7,y7,st7,fr7⟩=>?_) fun _ _ z=>z)
  have I7':=I7.pinned (stat fr7) (T.obj _ _ st7)
  have hg':=hg _ s7 _ H7 xv u _ I7' r7 (step xv H7 o y7 lo)
  rw[eP,eW,eA,eE,eX]at hg'
  refine wpAny_bind (wpAny_mono hg' (fun _ s8 ⟨σ8,H8,I8,shp,q8⟩=>?_) fun _ _ z=>z.elim)
  obtain⟨o2,lo2,eσ⟩ : ∃ o2:St,o2.length=tN.length/\σ8=o2++σc:=by
   have l8:σ8.length=tN.length+σc.length:=I8.len.trans bc
   refine⟨σ8.take tN.length,by rw[List.length_take];omega,?_⟩
   have ed:σ8.drop tN.length=σc:=by
    apply List.ext_getElem?
    intro j
    rw[List.getElem?_drop,shp (tN.length+j) (by omega),List.getElem?_append_right (by omega),lo,Nat.add_sub_cancel_left]
   rw[<- ed,List.take_append_drop]
  subst eσ
  have ht':=ht _ s8 _ H8 _ I8 q8
  rw[eP,eW,eA,eE,eX]at ht'
  refine wpAny_bind (wpAny_mono ht' (fun ok s9 ⟨H9,I9,q9⟩=>?_) fun _ _ z=>z.elim)
  have again:∀{s':Shared}{H':Hp},L2.Inv X' ([]++kz fp s7.heap) (o2++σc) H' s'->L2.Inv X' [] (o2++σc) H' s'/\tn (i+1) s'.heap/\∀ b∈fp,H' b=none:=fun{s' H'} J'=>by
   refine⟨J'.unpinned,T.keep _ _ _ st7 fun b hb ob e=>(J'.pin (b,ob) (List.mem_append_right _ (List.mem_append_right _ (fq hb e)))).1,fun b hb=>?_⟩
   obtain⟨ob,e,d⟩:=T.obj _ _ st7 b hb
   exact(J'.pin (b,ob) (List.mem_append_right _ (List.mem_append_right _ (fq hb e)))).2.1
  cases ok with
  |false=>
   obtain⟨m',hm,w9⟩:=(show ∃ m',m'<n/\W (i+1) m' acc H9 from by simpa using q9)
   obtain⟨a1,a2,a3⟩:=again I9
   exact wpAny_pure ⟨rfl,m',hm,i+1,o2,acc,H9,a1,lo2,a2,a3,w9⟩
  |true=>
   have q9:te (o2++σc) H9 fun y H5=>H5 Dl=some (.lst acc)/\acc.length<sizeLine/\∃ m',m'<n/\W (i+1) m' (acc++[y]) (az H5 Dl (.lst (acc++[y]))):=by simpa using q9
   have he':=he _ s9 _ H9 _ I9 q9
   rw[eP,eW,eA,eE,eX]at he'
   refine wpAny_bind (wpAny_bind (wpAny_mono he' (fun v s10 ⟨y,H10,I10,ry,eD,hl,m',hm,w10⟩=>?_) fun _ _ z=>z.elim))
   have hm':=mU (X:=X') _ s10 _ H10 (.ref Dl) [y] (.ref Dl) [v] (fun w H'=>w=.non/\H'=az H10 Dl (.lst (acc++[y]))) I10 rfl (.cons ry .nil) ⟨Dl,acc,y,rfl,rfl,eD,hl,rfl,rfl⟩
   rw[eP,eW,eA,eX]at hm'
   refine wpAny_bind (wpAny_mono hm' (fun _ s11 ⟨w,H11,I11,_,_,eH⟩=>?_) fun _ _ z=>z.elim)
   subst eH
   obtain⟨a1,a2,a3⟩:=again I11
   exact wpAny_pure (wpAny_pure ⟨rfl,m',hm,i+1,o2,acc++[y],_,a1,lo2,a2,a3,w10⟩)
end
end L3
namespace L3
open PySem PySem.Spec PyProof.Rows L2
structure CScope (X:Cx) (scope:Scope) (tN:List Str) (capN:List Str) (caps:List Nat):Prop where
 kind:scope.kind=.function
 ncell:∀ y∈scope.names,y.2≠.cell
 names:∀ y∈scope.names,y.2=.local->scope.names.lookup y.1=some .local
 own:∀ x∈tN,scope.names.lookup x=some .local
 free:∀ y∈scope.names,y.2=.free->X.env.kindOf y.1=some .cell\/X.env.kindOf y.1=some .free
 cap:Caps X scope capN caps
 nd:(tN++capN).Nodup
section
variable {X:Cx}{pins:List (Addr×Obj)}{σ:St}{H:Hp}{s:Shared}{scope:Scope}{tg:Expr}{tN:List Str}{capN:List Str}{caps:List Nat}{elt iter:Expr}{pos:Pos}{ifs:List Expr}{wi:TI}
def gg (X:Cx)(scope:Scope)(tg:Expr)(tN:List Str)(capN:List Str)(caps:List Nat)(elt:Expr)(ifs:List Expr)(σ:St)(Fin:Addr->List V->Hp->Prop)(J:It)(H2:Hp):Prop:=
 ∀(Dl:Addr),H2 Dl=none->∀(cl:List (Str×Addr))(C:Addr)(s3:Shared)(fp:List Addr),∃(gt:TG)(tt:TT)(te:TE)(W:Nat->Nat->List V->Hp->Prop),
  PG (bA X scope (tN++capN) cl C s3 (az H2 Dl (.lst [])) fp) tg gt/\Gb (bA X scope (tN++capN) cl C s3 (az H2 Dl (.lst [])) fp) ifs tt/\PE (bA X scope (tN++capN) cl C s3 (az H2 Dl (.lst [])) fp) elt te/\(∃ m,W 0 m [] (az H2 Dl (.lst [])))/\
  ∀ i m acc H,W i m acc H->H Dl=some (.lst acc)/\((J.stop i H/\Fin Dl acc H)\/(J.go i H/\∀ xv H' (o:St),J.yld i H xv H'->o.length=tN.length->gt xv (o++jg σ caps) H' fun σ2 H1=>(∀ j:Nat,tN.length<=j->σ2[j]?=(o++jg σ caps)[j]?)/\tt σ2 H1 fun b H2=>if b=true then
   te σ2 H2 fun y H5=>H5 Dl=some (.lst acc)/\acc.length<sizeLine/\∃ m',m'<m/\W (i+1) m' (acc++[y]) (az H5 Dl (.lst (acc++[y]))) else ∃ m',m'<m/\W (i+1) m' acc H2))
theorem ni {use:Option (Value->Sem Unit)}{Qv:Value->Shared->Prop}{Fin:Addr->List V->Hp->Prop}(hc:X.calm=true)(S:CScope X scope tN capN caps)(I:L2.Inv X pins σ H s)(hi:PI X tg iter wi)
 (h:wi σ H (gg X scope tg tN capN caps elt ifs σ Fin))
 (hu:∀(Dl C:Addr)(acc:List V)(H':Hp)(s':Shared),L2.Inv X pins σ H' s'->FpOk X pins H' C->H' Dl=some (.lst acc)->Fin Dl acc H'->(∃ m,s'.heap.Ns C m)->compPost (model X.prog X.w) X.A X.xe use Qv (.ref Dl) C (.ok .next) s')
 (hs:∀ x,foldedSetIterable iter X.env x=pure x:=by intro _;rfl) :
 wpAny (model X.prog X.w) X.A (comprehension (.ListComp elt [⟨tg,iter,ifs,0⟩] scope pos) scope X.env (firstIterPos [⟨tg,iter,ifs,0⟩] pos) (newList []) false (eval iter X.env) use) Qv X.xe s:=by
 obtain⟨cl,ecl,hcl,hhas⟩:=mJ (scope:=scope) (env:=X.env) fun y hy hf=>I.ok.has y.1 (S.free y hy hf)
 refine wpAny_comprehension_free rfl hs ecl S.kind S.names (bS (hi pins s σ H _ I h) fun v s1 h1=>bS h1 fun itv s2 h2=>?_)
 obtain⟨it,fp,tn,J,H2,rfl,I2,T,st2,f2,goal⟩:=h2
 refine wpAny_newObj_type (wpAny_newFunctionEnv S.ncell (by intro y hy;simp at hy) (fun h₁ hns₁ hsb₁=>?_) S.kind)
 dsimp only at hns₁ hsb₁ ⊢
 have hD:H2 s2.heap.objs.size=none:=I2.hok.fresh (Nat.le_refl _)
 have I3:L2.Inv X pins σ (az H2 s2.heap.objs.size (.lst [])) { s2 with heap:=s2.heap.push { cls:=.type "list",dict:=none,data:=.seq ([]:List Value).toArray } }:=
  I2.laid (t':=s2.toks) (fun b u e=>Heap.get?_push_of_some _ e) (Nat.le_refl _) ⟨Nat.zero_le _,[],0,.nil,Heap.get?_push_size _ rfl⟩
 generalize hs3:({ s2 with heap:=s2.heap.push { cls:=.type "list",dict:=none,data:=.seq ([]:List Value).toArray } }:Shared)=s3 at I3
 have e3:s2.heap.push { cls:=.type "list",dict:=none,data:=.seq ([]:List Value).toArray }=s3.heap:=by rw[<- hs3]
 rw[e3]at hns₁ hsb₁ ⊢
 have kp:∀ b o,s3.heap.get? b=some o->h₁.get? b=some o:=fun b o e=>hsb₁.extBut b o (Nat.ne_of_lt (Heap.lt_size e)) (Heap.get?_push_of_some _ e)
 have k23:∀ b o,s2.heap.get? b=some o->s3.heap.get? b=some o:=fun b o e=>by rw[<- e3];exact Heap.get?_push_of_some _ e
 have hex:∀ b∈fp,FpOk X pins (az H2 s2.heap.objs.size (.lst [])) b/\b<s3.heap.objs.size:=fun b hb=>by
  obtain⟨o,ho,_⟩:=T.obj 0 _ st2 b hb
  have hlt:b<s2.heap.objs.size:=Heap.lt_size ho
  refine⟨⟨?_,(f2 b hb).2⟩,Heap.lt_size (k23 b o ho)⟩
  rw[ag (Nat.ne_of_lt hlt)]
  exact(f2 b hb).1
 have es:({ s2 with heap:=h₁,toks:=s2.toks+([]:List (Str×Value)).length }:Shared)={ s3 with heap:=h₁,toks:=s2.toks+([]:List (Str×Value)).length }:=by rw[<- hs3]
 have I4:L2.Inv (bA X scope (tN++capN) cl s3.heap.objs.size s3 (az H2 s2.heap.objs.size (.lst [])) fp) [] (List.replicate tN.length none++jg σ caps) (az H2 s2.heap.objs.size (.lst [])) { s3 with heap:=h₁,toks:=s2.toks+([]:List (Str×Value)).length }:=
  yZ I3 S.kind S.ncell hcl hhas (Nat.le_refl _) hex S.cap kp hns₁
 obtain⟨gt,tt,te,W,hg,ht,he,w0,turn⟩:=goal s2.heap.objs.size hD cl s3.heap.objs.size s3 fp
 have st4:tn 0 h₁:=T.keep 0 _ _ st2 fun b hb o e=>kp b o (k23 b o e)
 have f4:∀ b∈fp,FpOk (bA X scope (tN++capN) cl s3.heap.objs.size s3 (az H2 s2.heap.objs.size (.lst [])) fp) [] (az H2 s2.heap.objs.size (.lst [])) b:=fun b hb=>by
  obtain⟨f,hlt⟩:=hex b hb
  refine⟨f.1,Nat.ne_of_lt hlt,fun hfs=>?_,.inl hb,fun y c e=>f.2.2.2.2.1 y c (hcl y c e),fun p hp=>absurd (show p∈([]:List (Addr×Obj)) from hp) (by simp)⟩
  rcases List.mem_cons.mp (I3.stkSub b hfs) with z|z
  ·exact f.2.1 z
  ·exact f.2.2.1 z
 have loop:codeAny (model X.prog X.w) X.A (.compLoop (.ListComp elt [⟨tg,iter,ifs,0⟩] scope pos) 0 (.ref it) (.ref s2.heap.objs.size) (compEnvC scope cl s3.heap.objs.size X.env)) (compPost (model X.prog X.w) X.A X.xe use Qv (.ref s2.heap.objs.size) s3.heap.objs.size)
  { s3 with heap:=h₁,toks:=s2.toks+([]:List (Str×Value)).length }:=by
  refine xo rfl T hc I4 (by show(tN++capN).length=_;simp[jg,S.cap.len]) st4 f4 hg ht he W (Fin s2.heap.objs.size) w0 turn _ fun σ' H' acc s' I' hD' fin=>?_
  obtain⟨Io,fo⟩:=xn I3 rfl (Nat.le_refl _) hex I'
  obtain⟨m',hn',_⟩:=I'.loc
  exact hu _ _ acc H' s' Io fo hD' fin ⟨m',hn'⟩
 rw[es]
 exact codeAny_compStart_list loop (T.self _ 0 _ _ _ st4 loop)
theorem rC {Q:VK}(hc:X.calm=true)(S:CScope X scope tN capN caps)(I:L2.Inv X pins σ H s)(hi:PI X tg iter wi)(h:wi σ H (gg X scope tg tN capN caps elt ifs σ fun Dl _ H'=>Q (.ref Dl) H'))
 (hs:∀ x,foldedSetIterable iter X.env x=pure x:=by intro _;rfl):wpAny (model X.prog X.w) X.A (eval (.ListComp elt [⟨tg,iter,ifs,0⟩] scope pos) X.env) (EP X pins σ Q) X.xe s:=by
 rw[eval_ListComp]
 refine ni (use:=none) hc S I hi h (fun Dl C acc H' s' Io fo hD fin hn=>?_) hs
 obtain⟨m,hn⟩:=hn
 exact⟨m,hn,fun h' sb=>⟨.ref Dl,H',vU Io fo sb,rfl,fin⟩⟩
theorem y6 {D:Ends}{i:Nat}{y:Str}{py spos:Pos}(hc:X.calm=true)(S:CScope X scope tN capN caps)(hN:X.N.Nodup)(hi':X.N[i]?=some y)(hy:X.env.scope.names.lookup y=some .local)
 (hsw:swapsWith (.ListComp elt [⟨tg,iter,ifs,0⟩] scope pos) (some (.Name y py)) spos.line X.env=pure true) (I:L2.Inv X pins σ H s) (hi:PI X tg iter wi)
 (h:wi σ H (gg X scope tg tN capN caps elt ifs σ fun Dl _ H'=>D.nx (σ.set i (some (.ref Dl))) H')) (hs:∀ x,foldedSetIterable iter X.env x=pure x:=by intro _;rfl) :
 wpAny (model X.prog X.w) X.A (exec (.Assign [.Name y py] (.ListComp elt [⟨tg,iter,ifs,0⟩] scope pos) spos) X.env) (SP X pins D) X.xe s:=by
 rw[exec_Assign_Name_used _ _ _ _ hsw]
 refine wpAny_bind (wpAny_standAt (wpAny_bind ?_))
 show wpAny _ X.A (do let _ <- comprehension (.ListComp elt [⟨tg,iter,ifs,0⟩] scope pos) scope X.env _ (newList []) false (eval iter X.env) (some (assign (.Name y py) X.env))) _ _ s
 refine wpAny_bind (wpAny_mono (ni (use:=some (assign (.Name y py) X.env)) (Qv:=fun _ s'=>SP X pins D .next s') hc S I hi h (fun Dl C acc H' s' Io fo hD fin hn=>?_) hs) (fun _ s' hq=>wpAny_pure (wpAny_pure hq)) fun _ _ e=>e)
 obtain⟨m,hn⟩:=hn
 show wpAny _ X.A (assign (.Name y py) X.env (.ref Dl)) _ _ _
 refine wpAny_assign_Name (mN (v:=.ref Dl) Io hN hi' (.inl hy) rfl (fun s'' I'' ⟨a,sb,ha⟩=>?_) (.inr hy))
 have nca:C≠a:=by
  rcases ha with z|z
  ·rw[z];exact fo.2.1
  ·exact Ne.symm (fo.2.2.2.2.1 y a z)
 refine⟨m,hn.sameBut sb nca,fun h' sb'=>?_⟩
 exact⟨_,H',vU I'' fo sb',fin⟩
end
end L3
namespace L3
open PySem PySem.Spec PyProof.Rows L2
def Res.noX {α:Type}:Res α->Res α
 | .exc _=>.stuck
 |r=>r
def BR (env:En)(j:Nat):Option Sl:=match env[j]? with
 |some (some (.val d fr))=>some (.val d fr)
 |some (some (.own ds fr))=>some (.val (.lst ds) fr)
 |some (some (.tre d))=>some (.val d true)
 |some (some (.pin d))=>some (.val d true)
 |_=>none
def cD (env:En)(n:Nat)(caps:List Nat):En:=List.replicate n none++caps.map (BR env)
def cq (mk:D->Option En)(test:En->Res Bool)(elt:En->Res R):List D->Res (List R)
 | []=>.ok []
 |x::xs=>match mk x with
  |none=>.stuck
  |some e=>(test e).bind fun b=>if b then (elt e).bind fun r=>(cq mk test elt xs).bind fun rs=>.ok (r::rs) else cq mk test elt xs
def dv (n:Nat)(caps:List Nat)(src:En->Res Src)(asg:D->Bool->En->Option En)(test:En->Res Bool)(elt:En->Res R):En->Res R:=fun env=>(src env).bind fun s=>if s.xs.length<=lim then
 (cq (fun d=>asg d s.fr (cD env n caps)) test elt s.xs).noX.bind fun rs=>.ok (jb (rs.map R.d) (aR rs) (s.al++caps.filter (isOwn env))) else .stuck
def tT (X:Cx)(E:XK)(ifs:List Expr)(f:En->Res Bool):Prop:=∃ t,Gb X ifs t/\SndT X.mg E t f
section
variable {X:Cx}{E:XK}
theorem cL:tT X E [] (fun _=>.ok true):=⟨_,BP,fun g M ρ env σ H Q rep p=>p M H (Ext.refl _ _) rep⟩
theorem dw {c:Expr}{f:En->Res Bool}(h:xh X E c f):tT X E [c] f:=let ⟨t,a,b⟩:=h;⟨t,BQ a,b⟩
end
section
variable {g:Gd}{M M1:Addr->Prop}{ρ:Pr}{env:En}{σ:St}{H H1:Hp}
theorem Gc {n:Nat}{caps:List Nat}{M':Addr->Prop}{o:St}(rep:Rep g M1 ρ env σ H1)(s:Same H1 H)(ho:o.length=n)(hM:∀ a,(M1 a\/∃ i,i∈caps/\ρ i a)->M' a)(hf:∀ a,M' a->H a≠none)(hi:∀ a,M' a->g.H₀ a=none\/g.Ma a)(hfl:∀ a,M' a->g.H₀ a=none->MuZ g H a) :
 Rep g M' (fun _ _=>False) (cD env n caps) (o++jg σ caps) H where
 same:=rep.same.trans s
 froz:=hf
 inn:=hi
 fl:=hfl
 slot:=fun i sl e=>by
  by_cases hlt:i<n
  ·unfold cD at e
   rw[List.getElem?_append_left (by simpa using hlt),List.getElem?_replicate,if_pos hlt]at e
   cases e
  ·obtain⟨k,rfl⟩ : ∃ k,i=n+k:=⟨i-n,by omega⟩
   have e:(caps.map (BR env))[k]?=some (some sl):=by
    unfold cD at e
    rwa [List.getElem?_append_right (by simp),List.length_replicate,Nat.add_sub_cancel_left]at e
   rw[List.getElem?_map]at e
   cases q:caps[k]? with
   |none=>rw[q]at e;cases e
   |some j=>
    rw[q]at e
    have e:BR env j=some sl:=by simpa using e
    have hj:j∈caps:=List.mem_of_getElem? q
    unfold BR at e
    cases q2:env[j]? with
    |none=>rw[q2]at e;cases e
    |some o=>
     cases o with
     |none=>rw[q2]at e;cases e
     |some sl0=>
      obtain⟨v,ev,k2⟩:=rep.slot j sl0 q2
      have el:(o++jg σ caps)[n+k]?=some (some v):=by
       rw[List.getElem?_append_right (by omega),ho,Nat.add_sub_cancel_left]
       unfold jg
       rw[List.getElem?_map,q]
       simp[ev]
      rw[q2]at e
      cases sl0 with
      |val d' fr'=>
       cases e
       exact⟨v,el,Is.mono (fun a o q _=>s a o q) (fun a _ _ z=>⟨hM a (.inl z.1),z.2⟩) k2⟩
      |own ds' fr'=>
       cases e
       obtain⟨a,vs,rfl,h1,h2,h4⟩:=k2
       have ha:=(h2 a).mpr rfl
       exact⟨_,el,a,vs,rfl,.inl ⟨s _ _ h1,hM a (.inr ⟨j,hj,ha⟩),fun _=>(rep.priv j a ha).2.1⟩,IsAll.mono (fun a o q _=>s a o q) (fun a _ _ z=>⟨hM a (.inl z.1),z.2⟩) h4⟩
      |tre d'=>
       cases e
       exact⟨v,el,Is.mono (fun a o q _=>s a o q) (fun a _ _ z=>⟨hM a (.inr ⟨j,hj,z⟩),fun _=>(rep.priv j a z).2.1⟩) k2⟩
      |mes d'=>cases e
      |pin d'=>
       cases e
       exact⟨v,el,Is.mono (fun a o q _=>s a o q) (fun a _ _ z=>⟨hM a (.inr ⟨j,hj,z⟩),fun _=>(rep.priv j a z).2.1⟩) k2.1⟩
 priv:=fun _ _ z=>z.elim
 apart:=fun _ _ _ z=>z.elim
 ow:=fun _ _ z=>z.elim
 len:=by simp[cD,jg,ho]
 zz:=fun a z e=>rep.zz a z (s.free e)
end
def vV (X:Cx)(scope:Scope)(tg:Expr)(tN:List Str)(capN:List Str)(caps:List Nat)(elt:Expr)(ifs:List Expr)(wi:TI):TE:=fun σ H Q=>wi σ H (gg X scope tg tN capN caps elt ifs σ fun Dl _ H'=>Q (.ref Dl) H')
section
variable {X:Cx}{E:XK}{scope:Scope}{tg:Expr}{tN:List Str}{capN:List Str}{caps:List Nat}{ix:List Nat}{asg:D->Bool->En->Option En}{elt iter:Expr}{pos:Pos}{ifs:List Expr}{wi:TI}{src:En->Res Src}{ft:En->Res Bool}{fe:En->Res R}
theorem jh {g:Gd}{M1:Addr->Prop}{ρ:Pr}{env:En}{σ:St}{H1:Hp}{Q:VK}{J:It}{s:Src}{full:List R}(hix:∀ j∈ix,j<tN.length)(hg:∀ cl C s3 H3 fp,yW (bA X scope (tN++capN) cl C s3 H3 fp) ix tg asg)(ht:∀ cl C s3 H3 fp,tT (bA X scope (tN++capN) cl C s3 H3 fp) E0 ifs ft)(he:∀ cl C s3 H3 fp,PD (bA X scope (tN++capN) cl C s3 H3 fp) E0 elt fe)(rep1:Rep g M1 ρ env σ H1)(wk:Walk J (vmsk g M1 s.fr ρ s.al) H1 s.xs)(hlim:s.xs.length<=lim)(qc:cq (fun d=>asg d s.fr (cD env tN.length caps)) ft fe s.xs=.ok full)
 (p:PostE X.mg E g M1 ρ env σ H1 Q (.ok (jb (full.map R.d) (aR full) (s.al++caps.filter (isOwn env))))):gg X scope tg tN capN caps elt ifs σ (fun Dl _ H'=>Q (.ref Dl) H') J H1:=by
 intro Dl hDl cl C s3 fp
 obtain⟨gt,pg,sg⟩:=hg cl C s3 (az H1 Dl (.lst [])) fp
 obtain⟨tt,pt,st⟩:=ht cl C s3 (az H1 Dl (.lst [])) fp
 obtain⟨te,pe,se⟩:=he cl C s3 (az H1 Dl (.lst [])) fp
 obtain⟨d0,dm,dow⟩:=rep1.free hDl
 refine⟨gt,tt,te,fun i m acc H=>m=s.xs.length-i/\i<=s.xs.length/\∃(M':Addr->Prop)(rs aQ:List R),Same H1 H/\H Dl=some (.lst acc)/\(∀ a,(M1 a\/∃ j,j∈s.al++caps/\ρ j a)->M' a)/\
  (∀ a,M' a->(M1 a\/∃ j,j∈s.al++caps/\ρ j a)\/H1 a=none)/\¬ M' Dl/\(∀ a,M' a->H a≠none)/\(∀ a,M' a->g.H₀ a=none->MuZ g H a)/\rs.length<=i/\IsAll H (msk g M' (aR rs)) (rs.map R.d) acc/\cq (fun d=>asg d s.fr (cD env tN.length caps)) ft fe (s.xs.drop i)=.ok aQ/\full=rs++aQ,
  pg,pt,pe,⟨_,rfl,Nat.zero_le _,(fun a=>M1 a\/∃ j,j∈s.al++caps/\ρ j a),[],full,aU hDl,ai,fun _ z=>z,fun _ z=>.inl z,?_,?_,?_,Nat.le_refl _,rfl,qc,rfl⟩,?_⟩
 ·rintro (z|⟨j,_,z⟩)
  ·exact dm z
  ·exact dow j z
 ·rintro a (z|⟨j,_,z⟩) hn
  ·exact rep1.froz a z ((aU hDl).free hn)
  ·obtain⟨_,_,uo,hz,_⟩:=rep1.priv j a z
   rw[(aU hDl) a _ hz]at hn;cases hn
 ·rintro a (z|⟨j,_,z⟩) h0
  ·exact(rep1.fl a z h0).same fun o e=>aU hDl _ _ e
  ·exact .inl ((rep1.priv j a z).2.2.same fun o e=>aU hDl _ _ e)
 ·rintro i m acc H2 ⟨rfl,hle,M',rs,aQ,sm,hD2,hMi,hMo,nD,frz2,fl2,hrs,isA,qr,efull⟩
  refine⟨hD2,?_⟩
  have kp:∀ a o,H1 a=some o->(vmsk g M1 s.fr ρ s.al a\/fixd o)->H2 a=some o:=fun a o e _=>sm a o e
  have inn2:∀{M'':Addr->Prop}{a:Addr},(M1 a\/∃ j,j∈s.al++caps/\ρ j a)\/H1 a=none->g.H₀ a=none\/g.Ma a:=fun{M'' a} z=>by
   rcases z with(z|⟨j,_,z⟩)|z
   ·exact rep1.inn a z
   ·exact .inl (rep1.priv j _ z).2.1
   ·exact .inl (rep1.same.free z)
  by_cases hlt:i<s.xs.length
  ·have ed:s.xs[i]?=some s.xs[i]:=by simp[hlt]
   obtain⟨go,yl⟩:=wk.go H2 i _ kp ed
   refine .inr ⟨go,fun xv H3 o y lo=>?_⟩
   obtain⟨s23,isx⟩:=yl xv H3 y
   have edrop:s.xs.drop i=s.xs[i]::s.xs.drop (i+1):=List.drop_eq_getElem_cons hlt
   rw[edrop]at qr
   unfold cq at qr
   have isx':Is H3 (msk g M' s.fr) s.xs[i] xv:=isx.weak fun a z=>by
    rcases z with z|⟨j,hj,z⟩
    ·exact⟨hMi a (.inl z.1),z.2⟩
    ·exact⟨hMi a (.inr ⟨j,by simp[hj],z⟩),fun _=>(rep1.priv j _ z).2.1⟩
   have repI:Rep g M' (fun _ _=>False) (cD env tN.length caps) (o++jg σ caps) H3:=Gc rep1 (sm.trans s23) lo (fun a z=>hMi a (z.imp id fun⟨j,hj,w⟩=>⟨j,by simp[hj],w⟩)) (fun a z hn=>frz2 a z (s23.free hn)) (fun a z=>inn2 (M'':=M') (hMo a z)) (fun a z h0=>(fl2 a z h0).same fun o e=>s23 _ _ e)
   cases qa:asg s.xs[i] s.fr (cD env tN.length caps) with
   |none=>simp only[qa]at qr;cases qr
   |some envT=>
   simp only[qa]at qr
   refine sg g M' _ _ envT _ H3 _ s.fr xv _ repI isx' qa fun σ2 ρ2 repT shp nρ=>⟨fun j hj=>shp j fun z=>absurd (hix j z) (by omega),?_⟩
   refine st g M' ρ2 _ _ H3 _ repT ?_
   cases qt:ft envT with
   |stuck=>rw[qt]at qr;cases qr
   |exc c=>rw[qt]at qr;cases qr
   |ok b=>
    rw[qt]at qr
    intro M4 H4 e4 rep4
    cases b with
    |false=>
     refine wU ⟨s.xs.length-(i+1),by omega,rfl,hlt,M',rs,aQ,(sm.trans s23).trans e4.h,e4.h _ _ (s23 _ _ hD2),hMi,hMo,nD,fun a z hn=>frz2 a z (s23.free (e4.h.free hn)),fun a z h0=>(fl2 a z h0).same fun o e=>e4.h _ _ (s23 _ _ e),by omega,?_,by simpa using qr,efull⟩
     exact IsAll.same e4.h (IsAll.same s23 isA)
    |true=>
     refine wV ?_
     simp only[Res.bind_ok,if_true]at qr
     refine se g M4 ρ2 _ _ H4 _ rep4 ?_
     cases qe:fe envT with
     |stuck=>rw[qe]at qr;cases qr
     |exc c=>rw[qe]at qr;cases qr
     |ok r=>
      rw[qe]at qr
      simp only[Res.bind_ok]at qr
      cases qd:cq (fun d=>asg d s.fr (cD env tN.length caps)) ft fe (s.xs.drop (i+1)) with
      |stuck=>rw[qd]at qr;cases qr
      |exc c=>rw[qd]at qr;cases qr
      |ok rest'=>
       rw[qd]at qr
       have qr:r::rest'=aQ:=by simpa using qr
       intro yv M5 H5 e5 rep5 ro
       obtain⟨M6,e6,m56,rep6,is6⟩:=ro.is rep5 e5 rep4.same
       have D3:H3 Dl=some (.lst acc):=s23 _ _ hD2
       have D4:H4 Dl=some (.lst acc):=e4.h _ _ D3
       have D5:H5 Dl=some (.lst acc):=e5.h _ _ D4
       have nD4:¬ M4 Dl:=fun z=>(e4.n Dl z).elim nD fun w=>by rw[D3]at w;cases w
       have nD6:¬ M6 Dl:=fun z=>(e6.n Dl z).elim nD4 fun w=>by rw[D4]at w;cases w
       have M46:∀ a,M4 a->M6 a:=e6.m
       have up:∀ a o,H5 a=some o->a≠Dl->az H5 Dl (.lst (acc++[yv])) a=some o:=fun a o e n=>by rw[ag n];exact e
       have kp5:∀(fr:Bool) a o,H5 a=some o->(msk g M6 fr a\/fixd o)->az H5 Dl (.lst (acc++[yv])) a=some o:=fun fr a o e z=>up a o e fun w=>by
        subst w
        rcases z with z|z
        ·exact nD6 z.1
        ·rw[D5]at e;cases e;exact z
       refine⟨D5,?_,s.xs.length-(i+1),by omega,rfl,hlt,M6,rs++[r],rest',?_,ai,fun a z=>M46 a (e4.m a (hMi a z)),fun a z=>?_,nD6,fun a z=>?_,fun a z h0=>?_,by simp;omega,?_,qd,by rw[efull,<- qr];simp⟩
       ·have:acc.length=rs.length:=by rw[isA.length,List.length_map]
        exact k7 (by omega)
       ·intro b o e
        exact up b o (e5.h _ _ (e4.h _ _ (s23 _ _ (sm _ _ e)))) (ak e hDl)
       ·rcases e6.n a z with z|z
        ·rcases e4.n a z with z|z
         ·exact hMo a z
         ·exact .inr (sm.free (s23.free z))
        ·exact .inr (sm.free (s23.free (e4.h.free z)))
       ·by_cases hw:a=Dl
        ·rw[hw,ai];simp
        ·rw[ag hw];exact rep6.froz a z
       ·have hw:a≠Dl:=fun e=>nD6 (e▸z)
        exact(rep6.fl a z h0).same fun o e=>by rw[ag hw];exact e
       ·rw[List.map_append]
        refine IsAll.append ?_ ⟨yv,[],rfl,?_,rfl⟩
        ·have i5:IsAll H5 (msk g M' (aR rs)) (rs.map R.d) acc:=((isA.same s23).same e4.h).same e5.h
         refine(i5.weak fun a z=>(⟨M46 a (e4.m a z.1),fun e=>z.2 (by simp[aR]at e ⊢;exact e.1)⟩ : msk g M6 (aR (rs++[r])) a)).mono (kp5 _) fun _ _ _ z=>z
        ·refine(is6.weak fun a z=>?_:Is H5 (msk g M6 (aR (rs++[r]))) r.d yv).mono (kp5 _) fun _ _ _ z=>z
         rcases z with z|⟨j,_,z⟩
         ·exact⟨z.1,fun e=>z.2 (by simp[aR]at e;exact e.2)⟩
         ·exact(nρ _ _ z).elim
  ·have ei:i=s.xs.length:=by omega
   subst ei
   refine .inl ⟨wk.stop H2 kp,?_⟩
   rw[List.drop_length]at qr
   unfold cq at qr
   cases qr
   rw[List.append_nil]at efull
   subst efull
   have RM:Rep g (fun a=>M1 a\/(nl H1 H2 a/\M' a)) ρ env σ H2:=rep1.came sm M'
   have XM:Ext M1 H1 (fun a=>M1 a\/(nl H1 H2 a/\M' a)) H2:=⟨fun _=>.inl,sm,fun _ z=>z.imp id (·.1.1)⟩
   have nDl:¬ (M1 Dl\/(nl H1 H2 Dl/\M' Dl)):=fun z=>z.elim dm fun z=>nD z.2
   have nwD:∀ b,V.ref Dl=.ref b->H1 b=none:=fun b e=>by cases e;exact hDl
   unfold jb at p
   by_cases hfl:D.flats (full.map R.d)=true
   ·rw[if_pos hfl]at p
    exact p _ _ H2 XM RM ⟨Dl,acc,rfl,hD2,nDl,hDl,dow,IsAll.flat hfl isA⟩
   ·rw[if_neg hfl]at p
    by_cases hal:(s.al++caps.filter (isOwn env)).isEmpty=true
    ·rw[if_pos hal]at p
     refine p _ _ H2 XM RM ⟨Dl,acc,rfl,hD2,nDl,hDl,dow,isA.weak fun a z=>⟨?_,z.2⟩⟩
     rcases hMo a z.1 with(w|⟨j,hj,w⟩)|w
     ·exact .inl w
     ·exfalso
      have he:s.al++caps.filter (isOwn env)=[]:=by simpa using hal
      rcases List.mem_append.mp hj with hj|hj
      ·have:j∈s.al++caps.filter (isOwn env):=List.mem_append_left _ hj
       rw[he]at this;simp at this
      ·have:j∈s.al++caps.filter (isOwn env):=List.mem_append_right _ (List.mem_filter.mpr ⟨hj,rep1.ow j a w⟩)
       rw[he]at this;simp at this
     ·exact .inr ⟨⟨w,(fl2 a z.1 (rep1.same.free w)).elim id fun q=>(rep1.zz a q.1 w).elim⟩,z.1⟩
    ·rw[if_neg hal]at p
     refine p _ (fun a=>(M1 a\/(nl H1 H2 a/\M' a))\/a=Dl) H2 ⟨fun _ z=>.inl (.inl z),sm,fun a z=>z.elim (XM.n a) fun e=>.inr (e▸hDl)⟩ (RM.more hD2 d0 dow) ⟨Dl,acc,rfl,.inl ⟨hD2,.inl ⟨.inr rfl,fun _=>d0⟩⟩,isA.weak fun a z=>?_⟩
     rcases hMo a z.1 with(w|⟨j,hj,w⟩)|w
     ·exact .inl ⟨.inl (.inl w),z.2⟩
     ·refine .inr ⟨j,?_,w⟩
      rcases List.mem_append.mp hj with hj|hj
      ·exact List.mem_append_left _ hj
      ·exact List.mem_append_right _ (List.mem_filter.mpr ⟨hj,rep1.ow j a w⟩)
     ·exact .inl ⟨.inl (.inr ⟨⟨w,(fl2 a z.1 (rep1.same.free w)).elim id fun q=>(rep1.zz a q.1 w).elim⟩,z.1⟩),z.2⟩
theorem rD (si:F_ X.mg E wi src)(hix:∀ j∈ix,j<tN.length)(hg:∀ cl C s3 H3 fp,yW (bA X scope (tN++capN) cl C s3 H3 fp) ix tg asg)(ht:∀ cl C s3 H3 fp,tT (bA X scope (tN++capN) cl C s3 H3 fp) E0 ifs ft)(he:∀ cl C s3 H3 fp,PD (bA X scope (tN++capN) cl C s3 H3 fp) E0 elt fe) :
 Snd X.mg E (vV X scope tg tN capN caps elt ifs wi) (dv tN.length caps src asg ft fe):=by
 intro g M ρ env σ H Q rep p
 refine si g M ρ env σ H _ rep ?_
 unfold dv at p
 cases q:src env with
 |stuck=>rw[q]at p;exact p
 |exc c=>rw[q]at p;exact p
 |ok s=>
  rw[q]at p
  simp only[Res.bind_ok]at p
  intro J M1 H1 e1 rep1 wk Dl hDl cl C s3 fp
  by_cases hlim:s.xs.length<=lim
  ·rw[if_pos hlim]at p
   cases qc:cq (fun d=>asg d s.fr (cD env tN.length caps)) ft fe s.xs with
   |stuck=>rw[qc]at p;exact p.elim
   |exc c=>rw[qc]at p;exact p.elim
   |ok full=>
    rw[qc]at p
    have p:PostE X.mg E g M1 ρ env σ H1 Q (.ok (jb (full.map R.d) (aR full) (s.al++caps.filter (isOwn env)))):=PostE.ext e1 p
    exact jh hix hg ht he rep1 wk hlim qc p Dl hDl cl C s3 fp
  ·rw[if_neg hlim]at p;exact p.elim
theorem ip (hc:X.calm=true)(S:CScope X scope tN capN caps)(hi:Er X E tg iter src)(hix:∀ j∈ix,j<tN.length)(hg:∀ cl C s3 H3 fp,yW (bA X scope (tN++capN) cl C s3 H3 fp) ix tg asg)(ht:∀ cl C s3 H3 fp,tT (bA X scope (tN++capN) cl C s3 H3 fp) E0 ifs ft)(he:∀ cl C s3 H3 fp,PD (bA X scope (tN++capN) cl C s3 H3 fp) E0 elt fe)
 (hs:∀ x,foldedSetIterable iter X.env x=pure x:=by intro _;rfl):PD X E (.ListComp elt [⟨tg,iter,ifs,0⟩] scope pos) (dv tN.length caps src asg ft fe):=by
 obtain⟨wi,p1,s1⟩:=hi
 exact⟨vV X scope tg tN capN caps elt ifs wi,fun pins s σ H Q I h=>rC hc S I p1 h hs,rD s1 hix hg ht he⟩
theorem gh {i:Nat}{y:Str}{py spos:Pos}(hc:X.calm=true)(S:CScope X scope tN capN caps)(hN:X.N.Nodup)(hi':X.N[i]?=some y)(hy:X.env.scope.names.lookup y=some .local)
 (hi:Er X E tg iter src) (hix:∀ j∈ix,j<tN.length) (hg:∀ cl C s3 H3 fp,yW (bA X scope (tN++capN) cl C s3 H3 fp) ix tg asg) (ht:∀ cl C s3 H3 fp,tT (bA X scope (tN++capN) cl C s3 H3 fp) E0 ifs ft) (he:∀ cl C s3 H3 fp,PD (bA X scope (tN++capN) cl C s3 H3 fp) E0 elt fe)
 (hsw:swapsWith (.ListComp elt [⟨tg,iter,ifs,0⟩] scope pos) (some (.Name y py)) spos.line X.env=pure true:=by rfl) (hs:∀ x,foldedSetIterable iter X.env x=pure x:=by intro _;rfl) :
 jY X E (.Assign [.Name y py] (.ListComp elt [⟨tg,iter,ifs,0⟩] scope pos) spos) (bo i (dv tN.length caps src asg ft fe)):=by
 obtain⟨wi,p1,s1⟩:=hi
 exact⟨Bi (vV X scope tg tN capN caps elt ifs wi) (jC i),fun pins s σ H D I h=>y6 hc S hN hi' hy hsw I p1 h hs,vS (rD s1 hix hg ht he)⟩
end
end L3
namespace L3
open PySem PySem.Spec PyProof.Rows L2
def fC (N:List Str)(ds:List D):En:=ds.map (fun d=>some (.val d false))++List.replicate (N.length-ds.length) none
def vW:Res Fl->Res R
 | .ok (.nx _)=>.ok (.val .non true [])
 | .ok (.rt r)=>.ok r
 | .ok _=>.stuck
 | .exc c=>.exc c
 | .stuck=>.stuck
def d7 (N:List Str)(FB:En->Res Fl)(ds:List D):Res R:=vW (FB (fC N ds))
theorem ba {X:Cx}{E:XK}:kC jF X E:=fun _ _ _ _ _ _ _ h=>h.elim
theorem xp {H:Hp}{Ma:Addr->Prop}{ds:List D}{vs:List V}{N:List Str}(is:IsAll H Ma ds vs):Rep (F2 H Ma) (fun a=>Ma a/\H a≠none) (fun _ _=>False) (fC N ds) (L2.cJ N vs) H where
 same:=Same.refl H
 froz:=fun a z=>z.2
 inn:=fun a z=>.inr z.1
 fl:=fun a z h=>absurd h z.2
 slot:=fun i sl e=>by
  have hl:=is.length
  unfold fC at e
  by_cases hi:i<ds.length
  ·rw[List.getElem?_append_left (by simpa using hi),List.getElem?_map]at e
   obtain⟨v,ev,iv⟩:=is.get (i:=i) (d:=ds[i]) (by simp[hi])
   have e1:ds[i]?=some ds[i]:=by simp[hi]
   rw[e1]at e
   cases e
   refine⟨v,?_,Is.mono (fun _ _ q _=>q) (fun a o q z=>⟨⟨z,by rw[q];simp⟩,fun z=>by cases z⟩) iv⟩
   unfold L2.cJ
   rw[List.getElem?_append_left (by simp;omega),List.getElem?_map,ev];rfl
  ·rw[List.getElem?_append_right (by simpa using hi),List.getElem?_replicate]at e
   split at e<;>cases e
 priv:=fun _ _ z=>z.elim
 apart:=fun _ _ _ z=>z.elim
 ow:=fun _ _ z=>z.elim
 len:=by
  have hl:=is.length
  unfold fC L2.cJ
  simp[hl]
 zz:=fun _ z=>z.elim
section
variable {P:Program}{w:World}{K:PySem.W.Frag}{mg:Str->Option Value}{base:Heap}
theorem cV {x qual:Str}{st:Stmt}{f:Addr}{fd:FuncData}{N ps:List Str}{k:Nat}{FB:En->Res Fl}(F:Fun K x qual st f fd)(S:FnScope N ps (defScope st))
 (body:∀(cdv:Value)(A:Around)(outer:List Env)(s:Shared)(H:Hp)(E:XK),Room k (A.deeper (envOfC qual (defScope st) s.heap.objs.size f cdv))->k_ (qJ jF P w K mg base N qual (defScope st) f cdv A outer s H E).nox E (defBody st) FB) :
 FnOk P w K mg base jF (k+1) f fd ps (nh mg ps.length (d7 N FB)):=by
 refine F.ok S (fun vs H Q E h=>h.1) (fun cdv A outer s H vs Q E hr h=>?_)
 obtain⟨hl,ds,Ma,is,post⟩:=h
 obtain⟨t,p1,s1⟩:=body cdv A outer s H E hr
 refine⟨t,p1,s1 (F2 H Ma) _ _ (fC N ds) (L2.cJ N vs) H _ (xp is) ?_⟩
 unfold d7 at post
 cases q:FB (fC N ds) with
 |stuck=>rw[q]at post;exact post
 |exc c=>rw[q]at post;exact post
 |ok r=>
  rw[q]at post
  cases r with
  |nx env=>exact fun σ M' ρ' H' _ rep=>post .non H' rep.same rfl
  |rt r=>exact fun v M' H' _ s ro _=>post v H' s (ro fun _ z=>z)
  |rm r env=>exact post.elim
  |bk env=>exact post.elim
  |ct env=>exact post.elim
end
section
variable {X:Cx}{E:XK}
theorem BS:SlR X (fun x lo hi H Q=>∃ a xs,x=.ref a/\SqT X.K H a xs/\(HT.sIx xs.length 0 lo=0/\HT.sIx xs.length xs.length hi=xs.length)/\Q x H):=by
 intro pins s σ H x v vl vu lo hi sl Q I rx hs pl pu h
 obtain⟨a,xs,rfl,hx,hw,q⟩:=h
 cases rx
 obtain⟨its,r,ht,hz⟩:=I.tuple hx
 have bc:its.toArray.size=xs.length:=by rw[List.size_toArray];exact r.length.symm
 refine⟨"tuple",_,PyProof.Rows.slot_tuple_getitem.lookup,ht.typeIs,?_⟩
 obtain⟨os,hos,hcs,hds⟩:=id hs
 have hTs:s.TypeIs (.ref sl) "slice":=⟨os,hos,hcs⟩
 unfold getItem
 try with_reducible refine wpAny_holding ?_
 first|refine wpAny_bind (wpAny_pure ?_)|skip
 refine wpAny_bind (wpAny_sequenceKey ht.typeIs (by decide) ?_)
 refine wpAny_bind (wpAny_callSpecial?_slot (name:=Str.ofString "__getitem__") ht.typeIs PyProof.Rows.slot_tuple_getitem
  (wpAny_call_entry PyProof.Rows.slot_tuple_getitem ht.typeIs entry_tuple_getitem ?_ (args_tuple_getitem _ _)))
 show wpAny _ _ (Builtin.Tuple.tupleItemsOf (.ref a) >>= _) _ _ s
 refine wpAny_bind (tupleItemsOf_ ht ?_)
 refine wpAny_bind (wpAny_typeOf hTs ?_)
 rw[if_pos (by decide)]
 refine wpAny_bind (HT.sliceApplied_gen hs pl pu ?_)
 have hyes:((((HT.sIx its.toArray.size 0 lo:Nat):Int)==0&&(1:Int)==1&&(HT.sIx its.toArray.size its.toArray.size hi-HT.sIx its.toArray.size 0 lo)==its.toArray.size)=true):=by
  rw[bc,hw.1,hw.2];simp
 show wpAny _ _ (if (((HT.sIx its.toArray.size 0 lo:Nat):Int)==0&&(1:Int)==1&&(HT.sIx its.toArray.size its.toArray.size hi-HT.sIx its.toArray.size 0 lo)==its.toArray.size)=true then _ else _) _ _ s
 rw[if_pos hyes]
 have fin:EP X pins σ Q (.ref a) s:=⟨.ref a,H,I,rfl,q⟩
 refine wpAny_bind (m:=Builtin.Tuple.tupleIsExact (.ref a)) ?_
 unfold Builtin.Tuple.tupleIsExact
 refine wpAny_bind (wpAny_typeOf ht.typeIs ?_)
 refine wpAny_pure ?_
 rw[if_pos (by decide)]
 exact wpAny_bind (wpAny_rule (wpAny_pure ⟨_,rfl,wpAny_pure fin⟩))
end
end L3
namespace L3
open PySem PySem.Spec PyProof.Rows L2
section
variable {X:Cx}{E:XK}
def bU {α:Type}(xs:List α)(lo hi:Option Int):List α:=(xs.drop (HT.sIx xs.length 0 lo)).take (HT.sIx xs.length xs.length hi-HT.sIx xs.length 0 lo)
theorem IsAll.cut {H:Hp}{m:Addr->Prop}{ds:List D}{vs:List V}(h:IsAll H m ds vs)(lo hi:Option Int):IsAll H m (bU ds lo hi) (qL vs lo hi):=by
 unfold bU qL
 rw[h.length]
 exact(h.drop _).take _
def C0 (mg:Str->Option Value)(E:XK)(g:Gd)(M:Addr->Prop)(ρ:Pr)(env:En)(σ:St)(H:Hp)(Q:Option Int->Hp->Prop):Res (Option Int)->Prop
 | .stuck=>False
 | .exc c=>A_ mg E g c
 | .ok o=>∀ M' H',Ext M H M' H'->Rep g M' ρ env σ H'->Q o H'
def GM (X:Cx)(E:XK)(e:Option Expr)(f:En->Res (Option Int)):Prop:=∃ t,PO X e t/\∀ g M ρ env σ H Q,Rep g M ρ env σ H->C0 X.mg E g M ρ env σ H Q (f env)->t σ H Q
def nk:En->Res (Option Int):=fun _=>.ok none
def gM (f:En->Res R):En->Res (Option Int):=fun env=>(f env).bind fun r=>match r.d with
 | .int i=>.ok (some i)
 |_=>.stuck
theorem iq:GM X E none nk:=⟨_,Bo,fun g M ρ env σ H Q rep p=>p M H (Ext.refl _ _) rep⟩
theorem cM {e:Expr}{f:En->Res R}(h:PD X E e f):GM X E (some e) (gM f):=by
 obtain⟨t,p1,s1⟩:=h
 refine⟨_,Bp p1,fun g M ρ env σ H Q rep p=>s1.one rep (P:=fun M H r=>C0 X.mg E g M ρ env σ H Q r) p (fun _ _ z=>z) (fun _ _ _ z=>z) (fun M H M' H' r e p=>?_) fun r v M1 H1 e1 rep1 is q=>?_⟩
 ·cases r with
  |stuck=>exact p
  |exc c=>exact p
  |ok o=>exact fun M2 H2 e2=>p M2 H2 (e.trans e2)
 ·cases z:r.d with
  |int i=>
   rw[z]at is;simp only[z]at q
   cases is
   exact⟨i,rfl,q M1 H1 (Ext.refl _ _) rep1⟩
  |_=>simp only[z]at q;exact q.elim
def oH (r:R)(lo hi:Option Int):Res R:=match r.d with
 | .lst xs=>.ok (jb (bU xs lo hi) r.fr r.al)
 | .tup xs=>.ok (mkV (.tup (bU xs lo hi)) r.fr r.al)
 |_=>.stuck
def gk (fa:En->Res R)(fl fh:En->Res (Option Int)):En->Res R:=fun env=>(fa env).bind fun r=>(fl env).bind fun lo=>(fh env).bind fun hi=>oH r lo hi
theorem eQ {e:Expr}{lo hi:Option Expr}{fa:En->Res R}{fl fh:En->Res (Option Int)}{p2 pos:Pos}(ha:PD X E e fa)(hl:GM X E lo fl)(hh:GM X E hi fh):PD X E (.Subscript e (.Slice lo hi none p2) pos) (gk fa fl fh):=by
 obtain⟨ta,p1,s1⟩:=ha
 obtain⟨tl,p2,s2⟩:=hl
 obtain⟨th,p3,s3⟩:=hh
 refine⟨_,ye (sl_list.or (sl_tup.or BS)) p1 p2 p3,fun g M ρ env σ H Q rep p=>s1.oneE rep p fun r v M1 H1 e1 rep1 is q=>?_⟩
 refine s2 g M1 ρ env σ H1 _ rep1 ?_
 cases z1:fl env with
 |stuck=>rw[z1]at q;exact q
 |exc c=>rw[z1]at q;exact q
 |ok lo'=>
  rw[z1]at q
  intro M2 H2 e2 rep2
  have q2:PostE X.mg E g M2 ρ env σ H2 Q ((fh env).bind fun hi=>oH r lo' hi):=PostE.ext e2 q
  refine s3 g M2 ρ env σ H2 _ rep2 ?_
  cases z2:fh env with
  |stuck=>rw[z2]at q2;exact q2
  |exc c=>rw[z2]at q2;exact q2
  |ok hi'=>
   rw[z2]at q2
   intro M3 H3 e3 rep3
   have q3:PostE X.mg E g M3 ρ env σ H3 Q (oH r lo' hi'):=PostE.ext e3 q2
   have is3:=(is.ext e2).ext e3
   unfold oH at q3
   cases z:r.d with
   |lst xs=>
    rw[z]at q3 is3
    obtain⟨a,vs,rfl,h1,h2⟩:=is3.rd
    exact .inl ⟨a,vs,rfl,.inl h1,fun p hp=>q3.lst rep3 hp (h2.cut lo' hi')⟩
   |tup xs=>
    rw[z]at q3 is3
    have is4:=is3
    obtain⟨a,vs,rfl,h1,h2⟩:=is3
    by_cases hw:HT.sIx vs.length 0 lo'=0/\HT.sIx vs.length vs.length hi'=vs.length
    ·have ec:bU xs lo' hi'=xs:=by
      unfold bU
      rw[<- h2.length,hw.1,hw.2,h2.length]
      simp
     dsimp only at q3
     rw[ec]at q3
     exact .inr (.inr ⟨a,vs,rfl,SqT.of h1,hw,q3.val rep3 is4⟩)
    ·exact .inr (.inl ⟨a,vs,rfl,SqT.of h1,hw,fun p hp=>q3.tup rep3 hp (h2.cut lo' hi')⟩)
   |_=>rw[z]at q3;exact q3.elim
def D.ty:D->String
 | .non=>"NoneType" | .bl _=>"bool" | .int _=>"int" | .str _=>"str" | .tup _=>"tuple" | .lst _=>"list" | .dic _ _=>"dict"
def HH (K:PySem.W.Frag) (H:Hp) (x:V) (t:Value):Prop:=TyOf K H x t\/(t=.type "dict"/\∃ a,x=.ref a/\GK H a)
theorem Is.ty {H:Hp}{m:Addr->Prop}{d:D}{v:V}{K:PySem.W.Frag}(h:Is H m d v):HH K H v (.type d.ty):=by
 cases d with
 |non=>cases h;exact .inl .non
 |bl b=>cases h;exact .inl (.bl b)
 |int b=>cases h;exact .inl (.int b)
 |str b=>cases h;exact .inl (.str b)
 |tup ds=>obtain⟨a,vs,rfl,h1,_⟩:=h;exact .inl (.tup h1)
 |lst ds=>
  obtain⟨a,vs,rfl,h1,_⟩:=h
  rcases h1 with⟨h1,_⟩|⟨o,h1,_⟩
  ·exact .inl (.lst h1)
  ·exact .inl (.frz h1)
 |dic ks ds=>
  obtain⟨a,kvs,rfl,h1,_⟩:=h
  exact .inr ⟨rfl,a,rfl,h1.1.imp (fun⟨kvs,e,_⟩=>⟨kvs,e⟩) fun⟨kvs,e,_⟩=>⟨kvs,e⟩⟩
def BT (T:String)(d:D):Bool:=match d with
 | .non=>T=="NoneType"
 | .bl _=>T=="bool" || T=="int"
 | .int _=>T=="int"
 | .str _=>T=="str"
 | .tup _=>T=="tuple"
 | .lst _=>T=="list"
 | .dic _ _=>T=="dict"
def BU (T:String):Prop:=∀(K:PySem.W.Frag)(d:D),PySem.W.kitOne K (.type d.ty) (.type T)=some (BT T d)
theorem y8:BU "int":=fun K d=>by cases d<;>kernel_rfl
theorem xq:BU "bool":=fun K d=>by cases d<;>kernel_rfl
theorem lf:BU "tuple":=fun K d=>by cases d<;>kernel_rfl
def xr (T:String)(fa:En->Res R):En->Res R:=fun env=>(fa env).bind fun r=>.ok (.val (.bl (BT T r.d)) true [])
theorem y9:CallR X (.builtin "isinstance") (fun xs H Q=>∃ x T t b,xs=[x,.ty T]/\HH X.K H x t/\PySem.W.kitOne X.K t (.type T)=some b/\Q (.bl b) H):=by
 intro pins s σ H xs us Q I r h
 obtain⟨x,T,t,b,rfl,ty,e,q⟩:=h
 obtain⟨u,c,rfl,ru,rc⟩:=mO r
 obtain rfl:c=Value.type T:=rc
 rcases ty with ty|⟨rfl,a,rfl,hd⟩
 ·exact wP I ru ty e fun tk=>⟨.bl b,H,I.tok tk,rfl,q⟩
 ·obtain rfl:u=Value.ref a:=ru
  obtain⟨t1,_⟩:=yi I hd
  exact PySem.W.kia_one PySem.W.kitx_dict I.kIn t1 e (fun z=>nomatch z) fun tk=>⟨.bl b,H,I.tok tk,rfl,q⟩
theorem oJ {T:Str} {T':String} {e:Expr} {fa:En->Res R} {p q pos:Pos} (hK:BU T') (hg:Gl X "isinstance") (hm:X.mg "isinstance"=none) (hgT:Gl X T) (hmT:X.mg T=none) (hvT:bootBuiltins T=some (.type T')) (ha:PD X E e fa)
 (hnT:T≠"__name__":=by decide) (hdT:(T==("__debug__" : Str))=false:=by decide)
 (he:starEach [e,.Name T q] X.env=(false,eval e X.env)::starEach [.Name T q] X.env:=by rfl) (he2:starEach [.Name T q] X.env=(false,eval (.Name T q) X.env)::starEach [] X.env:=by rfl) (hpl:(backTo pos (starEach [.Name T q] X.env)).any (·.1)=false:=by rfl) :
 PD X E (.Call (.Name "isinstance" p) [e,.Name T q] [] pos) (xr T' fa):=by
 obtain⟨ta,p1,s1⟩:=ha
 refine⟨_,kE y9 hg hm (by decide +kernel) (be p1 (be (Bf hgT hmT hvT (v:=.ty T') rfl hnT hdT) di he2) he) (by decide) (by decide) he hpl,fun g M ρ env σ H Q rep p=>s1.oneE rep p fun r v M1 H1 e1 rep1 is q=>?_⟩
 exact⟨v,T',_,_,rfl,is.ty,hK X.K r.d,q _ M1 H1 (Ext.refl _ _) rep1 rfl⟩
end
end L3
namespace L3
open PySem PySem.Spec PyProof.Rows L2
section
variable {X:Cx}{E:XK}
def dz:List D->Option (List Bool)
 | []=>some []
 | .bl b::r=>(dz r).map fun bs=>b::bs
 |_::_=>none
def y_:List R->Res R
 | [r]=>match r.d with
  | .lst ds=>match dz ds with
   |some bs=>.ok (.val (.bl (bs.all id)) true [])
   |none=>.stuck
  |_=>.stuck
 |_=>.stuck
theorem nq:∀{ds:List D}{bs:List Bool}{i:Nat}{d:D},dz ds=some bs->ds[i]?=some d->∃ b,d=.bl b/\bs[i]?=some b
 | [],_,_,_,_,e=>by simp at e
 | .bl b::r,bs,0,d,h,e=>by
  simp at e;subst e
  unfold dz at h
  cases q:dz r with
  |none=>rw[q]at h;cases h
  |some bs'=>rw[q]at h;cases h;exact⟨b,rfl,rfl⟩
 | .bl b::r,bs,i+1,d,h,e=>by
  unfold dz at h
  cases q:dz r with
  |none=>rw[q]at h;cases h
  |some bs'=>
   rw[q]at h;cases h
   obtain⟨b',e1,e2⟩:=nq (i:=i) q (by simpa using e)
   exact⟨b',e1,by simpa using e2⟩
 | .non::_,_,_,_,h,_=>by cases h
 | .int _::_,_,_,_,h,_=>by cases h
 | .str _::_,_,_,_,h,_=>by cases h
 | .tup _::_,_,_,_,h,_=>by cases h
 | .lst _::_,_,_,_,h,_=>by cases h
theorem nr:∀{ds:List D}{bs:List Bool},dz ds=some bs->bs.length=ds.length
 | [],_,h=>by cases h;rfl
 | .bl b::r,bs,h=>by
  unfold dz at h
  cases q:dz r with
  |none=>rw[q]at h;cases h
  |some bs'=>rw[q]at h;cases h;simp[nr q]
 | .non::_,_,h=>by cases h
 | .int _::_,_,h=>by cases h
 | .str _::_,_,h=>by cases h
 | .tup _::_,_,h=>by cases h
 | .lst _::_,_,h=>by cases h
theorem xt (hc:X.calm=true):CallR X (.builtin "all") (fun xs H Q=>∃(p:Addr)(vs:List V)(bs:List Bool),xs=[.ref p]/\SqL X.K H p vs/\vs=bs.map V.bl/\Q (.bl (bs.all id)) H):=by
 intro pins s σ H xs us Q I r h
 obtain⟨p,vs,bs,rfl,hq,rfl,q⟩:=h
 obtain⟨u,rfl,rx⟩:=fX r
 cases rx
 obtain⟨its,rv,pl,hz⟩:=I.list hq
 have hh:X.A.in1.handled=none:=I.ok.hd hc
 obtain⟨o,ho,_⟩:=pl.isList
 have hlt:p<s.heap.objs.size:=Heap.lt_size ho
 refine call_all_walk (wpAny_pyIter_list pl.isList ?_)
 refine⟨s.heap.objs.size,_,_,_,_,_,fun i=>(bs[i]?).getD true,rfl,Walks.list hh s.heap.objs.size p (Nat.ne_of_lt hlt) its.toArray,⟨⟨_,Heap.get?_push_size _ rfl,rfl,rfl⟩,?_⟩,?_,fun h' tk hk=>?_⟩
 ·exact pl.isList.at fun o e=>Heap.get?_push_of_some _ e
 ·intro i v s' Q' E' hv hQ'
  have hv:its[i]?=some v:=by simpa using hv
  have hi:i<its.length:=(List.getElem?_eq_some_iff.mp hv).1
  have hl:=rv.length
  have hb:i<bs.length:=by simpa using (by rw[List.length_map]at hl;omega:i<bs.length)
  obtain⟨u',hu,ru⟩:=rv.get (i:=i) (x:=.bl bs[i]) (by simp[hb])
  rw[hv]at hu;cases hu
  cases ru
  have eb:bs[i]?=some bs[i]:=by simp[hb]
  dsimp only at hQ'
  rw[eb]at hQ'
  exact wpAny_truthy_bool hQ'
 ·have hl:=rv.length
  rw[List.length_map]at hl
  have e:((List.range its.toArray.size).all fun i=>(bs[i]?).getD true)=bs.all id:=by
   rw[List.size_toArray,<- hl]
   rw[Bool.eq_iff_iff,List.all_eq_true,List.all_eq_true]
   constructor
   ·intro h b hb
    obtain⟨i,hi⟩:=List.mem_iff_getElem?.mp hb
    have:=h i (by simp;exact(List.getElem?_eq_some_iff.mp hi).1)
    rw[hi]at this;exact this
   ·intro h i hi
    have hi:i<bs.length:=by simpa using hi
    have eb:bs[i]?=some bs[i]:=by simp[hi]
    rw[eb]
    exact h _ (List.getElem_mem hi)
  rw[e]
  refine⟨.bl _,H,?_,rfl,q⟩
  have I1:L2.Inv X pins σ H { s with heap:=s.heap.push { cls:=.type "list_iterator",data:=.fields #[.ref p,.int 0 0] } }:=I.kept (t':=s.toks) fun b o e=>Heap.get?_push_of_some _ e
  have fo:=I.fpOk (H':=H) (Nat.le_refl s.heap.objs.size) (I.hok.fresh (Nat.le_refl _))
  exact I1.turned (t':=tk) (it:=s.heap.objs.size) (fun b o hb e=>hk b o (by simpa using hb) e) fo.1 fo.2.1 fo.2.2.2.1 fo.2.2.2.2.1 fo.2.2.2.2.2
theorem za (hc:X.calm=true):fL X E (.builtin "all") y_:=by
 refine⟨_,xt hc,fun g M ρ env σ H Q rs vs rep i p=>?_⟩
 match rs,i,p with
 | [r],i,p=>
  obtain⟨v,w,rfl,i1,i2⟩:=i
  cases i2
  have i1:Is H (vmsk g M (aR [r]) ρ (aY [r])) r.d v:=i1
  unfold y_ at p
  dsimp only at p
  cases q:r.d with
  |lst ds=>
   rw[q]at p i1
   obtain⟨a,ws,rfl,h1,h2⟩:=i1.rd
   dsimp only at p
   cases qb:dz ds with
   |none=>rw[qb]at p;exact p.elim
   |some bs=>
    rw[qb]at p
    refine⟨a,ws,bs,rfl,.inl h1,?_,p _ M H (Ext.refl _ _) rep rfl⟩
    apply List.ext_getElem?
    intro j
    by_cases hj:j<ds.length
    ·obtain⟨b,e1,e2⟩:=nq (i:=j) (d:=ds[j]) qb (by simp[hj])
     obtain⟨v',ev,iv⟩:=h2.get (i:=j) (d:=ds[j]) (by simp[hj])
     rw[e1]at iv
     cases iv
     rw[ev,List.getElem?_map,e2];rfl
    ·have l1:=h2.length
     have l2:=nr qb
     rw[List.getElem?_eq_none (by omega),List.getElem?_eq_none (by simp;omega)]
  |_=>rw[q]at p;exact p.elim
 | [],_,p=>exact p.elim
 |_::_::_,_,p=>exact p.elim
def jK (i:Nat)(fk fv:En->Res R):En->Res Fl:=fun env=>match fM env i with
 |some (ds,fr)=>(fv env).bind fun r=>(fk env).bind fun k=>match k.d with
  | .int z=>match qM ds.length z with
   |some j=>if ¬ i∈r.al then .ok (.nx ((frz env r.al).set i (some (.own (ds.set j r.d) (fr&&r.fr))))) else .stuck
   |none=>.stuck
  |_=>.stuck
 |none=>.stuck
theorem lg {i:Nat}{o k v:Expr}{fk fv:En->Res R}{fJ pos:Pos}(ho:PE X o (fS i))(hk:PD X E k fk)(hv:PD X E v fv)
 (ha:∀ v,assign (.Subscript o k fJ) X.env v=(do
   let ov <- holding [v] (eval o X.env)
   let iv <- holding [v,ov] (eval k X.env)
   standAt fJ
   holding [v,ov,iv] (setItem ov iv v)
   release [v,ov,iv] []):=by intro _;rfl)
 (hs:swapsWithSole [.Subscript o k fJ] v pos.line X.env=pure false:=by rfl) (hw:swappedStores [.Subscript o k fJ] v X.env=pure none:=by rfl)
 (h1:(assignEach [.Subscript o k fJ] X.env).map (·.2)=[assign (.Subscript o k fJ) X.env]:=by rfl):jY X E (.Assign [.Subscript o k fJ] v pos) (jK i fk fv):=by
 obtain⟨tk,p1,s1⟩:=hk
 obtain⟨tv,p2,s2⟩:=hv
 refine⟨_,DF p2 (DE ho p1 yf ha) hs hw h1,fun g M ρ env σ H D rep p=>?_⟩
 unfold jK at p
 cases e1:fM env i with
 |none=>rw[e1]at p;exact p.elim
 |some q=>
  obtain⟨ds,fr⟩:=q
  rw[e1]at p
  dsimp only at p
  obtain⟨M0,ρ0,l,vs,m0,rep0,ev,k1,k2,k4,hi,_⟩:=rep.toOwn e1
  refine s2.oneS rep p fun r y M' H' e rep' ro p'=>?_
  obtain⟨M1,x1,x1m,rep1,is1⟩:=ro.is rep' e rep.same
  refine⟨_,ev,s1.oneS (D:=D) rep1 (PostS.frz ⟨x1m,fun _ _ q _=>q⟩ p') fun rk yk M5 H5 e5 rep5 rok p5=>?_⟩
  obtain⟨M6,x6,x6m,rep6,is6⟩:=rok.is rep5 e5 rep1.same
  cases z:rk.d with
  |int iz=>
   rw[z]at is6;simp only[z]at p5
   cases is6
   cases zj:qM ds.length iz with
   |none=>simp only[zj]at p5;exact p5.elim
   |some j=>
    simp only[zj]at p5
    by_cases hc:¬ i∈r.al
    ·rw[if_pos hc]at p5
     have is1':Is H5 (vmsk g M6 r.fr ρ r.al) r.d y:=(is1.ext e5).weak fun a z=>z.mono x6m
     obtain⟨M2,ρ2,x2,rep2,o2,k5,k6⟩:=Rep.frz r.al rep6
     have is2:Is H5 (msk g M2 r.fr) r.d y:=Is.frozen rep6 x2 o2 is1'
     have e2:fM (frz env r.al) i=some (ds,fr):=by
      unfold fM
      rw[oF _ hc]
      exact e1
     obtain⟨M3,ρ3,l3,vs3,m3,rep3,ev3,j1,j2,j4,hi3,_⟩:=rep2.toOwn e2
     rw[ev]at ev3;cases ev3
     have hl:H5 l=some (.lst vs):=e5.h _ _ (e.h _ _ k1)
     rw[hl]at j1;cases j1
     have pl:ρ3 i l:=(j2 l).mpr rfl
     obtain⟨nl3,_⟩:=rep3.priv i l pl
     have is4:IsAll H5 (msk g M3 (fr&&r.fr)) (ds.set j r.d) (vs.set j y):=
      IsAll.set j (IsAll.weak (fun b z=>⟨z.1,fun q=>z.2 (by cases fr<;>simp_all)⟩) j4) (Is.weak (fun b z=>⟨m3 b z.1,fun q=>z.2 (by cases fr<;>simp_all)⟩) is2)
     have kp:∀ b u,H5 b=some u->(msk g M3 (fr&&r.fr) b\/fixd u)->az H5 l (.lst (vs.set j y)) b=some u:=fun b u q z=>by
      rw[ag]
      ·exact q
      ·rintro rfl
       rcases z with z|z
       ·exact nl3 z.1
       ·rw[hl]at q;cases q;exact z
     obtain⟨f1,rep4⟩:=rep3.write (sl:=.own (ds.set j r.d) (fr&&r.fr)) (vs':=vs.set j y) pl (by rw[List.length_set];exact hi3) ev ⟨l,vs.set j y,rfl,ai,j2,IsAll.mono kp (fun _ _ _ z=>z) is4⟩
     rw[List.set_set]at rep4
     refine⟨l,vs,iz,j,rfl,rfl,hl,by rw[k4.length];exact zj,?_⟩
     exact p5 σ M3 ρ3 _ (Frz.trans ⟨fun a z=>m3 a (x2 a (x6m a z)),fun _ _ q _=>q⟩ f1) rep4
    ·rw[if_neg hc]at p5;exact p5.elim
  |_=>simp only[z]at p5;exact p5.elim
end
end L3
namespace L3
open PySem PySem.Spec PyProof.Rows L2
def Ho (K:PySem.W.Frag)(a:Addr):It:=
 ⟨fun i H=>∃ xs x,SqL K H a xs/\xs[i]?=some x,fun i H y H'=>∃ p x,H p=none/\y=.ref p/\H'=az H p (.tup [.int (i:Nat),x])/\∀ xs,SqL K H a xs->xs[i]?=some x,fun i H=>∃ xs,SqL K H a xs/\xs.length<=i⟩
theorem xu {P:Program}{w:World}{K:PySem.W.Frag}{es:List Expr}{k:Nat}{pos:Pos}(a it e:Addr)(hei:e≠it):Turn P w K (.Tuple es k pos) (Ho K a) [e,it] e (fun i h=>(∃ old,IsEnum h e it i old)/\h.IsListIter it a i) where
 mem:=by simp
 obj:=fun i h st b hb=>by
  obtain⟨⟨old,he⟩,o,ho,c,d⟩:=st
  rcases List.mem_cons.mp hb with rfl|hb
  ·exact⟨_,he,fun v z=>by cases z⟩
  ·have:b=it:=by simpa using hb
   subst this
   exact⟨o,ho,fun v z=>by rw[d]at z;cases z⟩
 keep:=fun i h h' st kk=>by
  obtain⟨⟨old,he⟩,hl⟩:=st
  exact⟨⟨old,kk e (by simp) _ he⟩,hl.at fun o q=>kk it (by simp) o q⟩
 item:=by
  intro X hP hw hK hc i pins s σ H E I hf st hg
  subst hP hw hK
  obtain⟨xs,x,hq,hx⟩:=hg
  obtain⟨⟨old,he⟩,hl⟩:=st
  obtain⟨its,rv,p,hz⟩:=I.list hq
  obtain⟨u,hu,ru⟩:=rv.get hx
  have fe:=hf e (by simp)
  have fi:=hf it (by simp)
  have hai:a≠it:=by
   intro z
   obtain⟨o1,e1,c1,_⟩:=p.isList
   obtain⟨o2,e2,c2,_⟩:=hl
   rw[z,e2]at e1;cases e1
   rw[c2]at c1;injection c1 with z;exact absurd z (by decide)
  have hae:a≠e:=by
   intro z
   obtain⟨o1,e1,c1,_⟩:=p.isList
   rw[z,he]at e1;cases e1;injection c1 with z;exact absurd z (by decide)
  have hh:X.A.in1.handled=none:=I.ok.hd hc
  have hil:i<its.length:=(List.getElem?_eq_some_iff.mp hu).1
  refine wpAny_pyNext_enum_itemD (Draws.list hh it a hai its.toArray) he ⟨hl,p.isList⟩ (by simpa using hil) hei (by simp;exact⟨hei,Ne.symm hae⟩) fun x' h' tk hx' ho hs' hT hsz hk=>?_
  have ex:x'=u:=by
   have:its[i]?=some x':=by simpa using hx'
   rw[hu]at this;exact(Option.some.inj this).symm
  subst ex
  refine⟨_,rfl,wpAny_letOwnedTupleGo_enum ho fun h'' he'' hs''=>?_⟩
  have keep2:∀ b o,b≠e->b≠it->s.heap.get? b=some o->h''.get? b=some o:=fun b o n1 n2 q=>(hs''.2 b n1).trans (hk b o n1 n2 q)
  have hTe:s.heap.objs.size≠e:=Nat.ne_of_gt (Heap.lt_size he)
  have hT'':h''.get? s.heap.objs.size=some { cls:=.type "tuple",data:=.seq #[.int i tk,x'] }:=(hs''.2 _ hTe).trans hT
  have I1:L2.Inv X pins σ (az H s.heap.objs.size (.tup [.int (i:Nat),x])) { s with heap:=h'',toks:=tk+1 }:=by
   refine I.step (g':=s.gens) (d':=s.drawn) (ch:=[e,it]) (fun b hb=>?_) (fun b o _ _ hn q _=>keep2 b o (fun z=>hn (by simp[z])) (fun z=>hn (by simp[z])) q)
    (fun b o _ _ hn q _=>⟨o.slots,keep2 b o (fun z=>hn (by simp[z])) (fun z=>hn (by simp[z])) q⟩) (fun b o _ q hH=>by rw[ag (Nat.ne_of_lt (Heap.lt_size q))];exact hH)
    (fun b o hn q=>⟨o,keep2 b o (fun z=>hn (by simp[z])) (fun z=>hn (by simp[z])) q⟩) (fun b ys q=>by rw[ag (ak q (I.hok.fresh (Nat.le_refl _)))];exact q)
    (fun b o' u' q=>by rw[ag (ak q (I.hok.fresh (Nat.le_refl _)))];exact q) (fun b ps q=>⟨#[],by rw[ag (ak q (I.hok.fresh (Nat.le_refl _)))];simp[q]⟩) (fun m hm=>?_) (fun b u' q=>?_) I.bare
   ·rcases List.mem_cons.mp hb with rfl|hb
    ·exact⟨fe.2.2.2.1,fe.2.1,fe.2.2.2.2.1,fe.2.2.2.2.2⟩
    ·have:b=it:=by simpa using hb
     subst this
     exact⟨fi.2.2.2.1,fi.2.1,fi.2.2.2.2.1,fi.2.2.2.2.2⟩
   ·obtain⟨o,es',ep,ho',r⟩:=hm
    exact⟨o,es',ep,keep2 _ o (Ne.symm fe.2.1) (Ne.symm fi.2.1) ho',r⟩
   ·by_cases hb:b=s.heap.objs.size
    ·subst hb
     rw[ai]at q;cases q
     refine⟨by show 2<=sizeLine;decide,[.int i tk,x'],.cons ⟨tk,rfl⟩ (.cons ru .nil),⟨_,hT'',rfl,0,rfl⟩⟩
    ·rw[ag hb]at q
     refine(I.hok b u' q).stay (fun c v hc' q'=>keep2 c v ?_ ?_ q') (fun c r=>by rw[ag (ak r (I.hok.fresh (Nat.le_refl _)))];exact r) fun c ys r=>by rw[ag (ak r (I.hok.fresh (Nat.le_refl _)))];exact r
     ·rcases hc' with z|z
      ·rw[z];exact ak q fe.1
      ·exact ak z fe.1
     ·rcases hc' with z|z
      ·rw[z];exact ak q fi.1
      ·exact ak z fi.1
  refine⟨.ref s.heap.objs.size,_,I1,rfl,⟨_,x,I.hok.fresh (Nat.le_refl _),rfl,rfl,fun ys hy=>by rw[I.list_inj hy hq];exact hx⟩,⟨⟨_,by simpa using he''⟩,?_⟩,fun b hb=>?_⟩
  ·obtain⟨o,q,r⟩:=hs'.1
   exact⟨o,(hs''.2 it (Ne.symm hei)).trans q,r⟩
  ·rcases List.mem_cons.mp hb with rfl|hb
   ·rw[ag (Nat.ne_of_lt (Heap.lt_size he))];exact fe.1
   ·have:b=it:=by simpa using hb
    subst this
    obtain⟨o,q,_⟩:=hl
    rw[ag (Nat.ne_of_lt (Heap.lt_size q))];exact fi.1
 done:=by
  intro X hP hw hK hc i pins s σ H E I hf st hg
  subst hP hw hK
  obtain⟨xs,hq,hx⟩:=hg
  obtain⟨⟨old,he⟩,hl⟩:=st
  obtain⟨its,rv,p,hz⟩:=I.list hq
  have fi:=hf it (by simp)
  have hai:a≠it:=by
   intro z
   obtain⟨o1,e1,c1,_⟩:=p.isList
   obtain⟨o2,e2,c2,_⟩:=hl
   rw[z,e2]at e1;cases e1
   rw[c2]at c1;injection c1 with z;exact absurd z (by decide)
  have hh:X.A.in1.handled=none:=I.ok.hd hc
  have hln:=rv.length
  have Dr:Draws X.prog X.w X.A.in1 it [it,a] 0 (fun _ _=>True) (fun _ h=>h.IsListIter it a i/\h.IsList a its.toArray):=
   { live:=fun _ _ st=>let ⟨o,ho,_⟩:=st.1;⟨o,ho⟩
     frame:=fun _ _ _ st hk=>⟨st.1.at fun o e=>hk it (by simp) o e,st.2.at fun o e=>hk a (by simp) o e⟩
     item:=fun i s Q E hi=>absurd hi (by omega)
     done:=fun s Q E st hE=>wpAny_nextOf_list_end hh st.1 st.2 (by simp;omega) hE }
  exact wpAny_pyNext_enum_endD Dr he ⟨hl,p.isList⟩ fun h' eb=>⟨rfl,I.turned (t':=s.toks) (fun b o hb e=>eb b o hb e) fi.1 fi.2.1 fi.2.2.2.1 fi.2.2.2.2.1 fi.2.2.2.2.2⟩
 self:=fun A i s Q E st h=>by
  obtain⟨⟨old,he⟩,_⟩:=st
  exact wpAny_pyIter_enum he h
section
variable {X:Cx}{E:XK}{es:List Expr}{k:Nat}{fJ:Pos}
def Ge (K:PySem.W.Frag)(ta:TA):TI:=fun σ H R=>ta σ H fun vs H1=>∃ a xs,vs=[.ref a]/\SqL K H1 a xs/\R (Ho K a) H1
theorem BV {l:Expr} {ta:TA} {p pos:Pos} (hg:Gl X "enumerate") (hm:X.mg "enumerate"=none) (ha:PA X [l] ta) (hs:starEach [l] X.env=[(false,eval l X.env)]:=by rfl):PI X (.Tuple es k fJ) (.Call (.Name "enumerate" p) [l] [] pos) (Ge X.K ta):=by
 intro pins s σ H R I h
 refine Call_ (fW I hg hm (by decide +kernel:bootBuiltins "enumerate"=some (.type "enumerate")) (PyProof.Rows.callWith_type1 (bS (ha pos pins s σ H _ I h) fun us s1 ⟨vs,H1,I1,r1,q1⟩=>?_) hs rfl))
 obtain⟨a,xs,e,hq,q⟩:=q1
 subst e
 cases r1 with
 |cons r rr=>
  cases rr
  cases r
  obtain⟨its,rv,pl,hz⟩:=I1.list hq
  refine call_enumerate_list pl.isList fun h' he hl hsz kp=>?_
  have I2:L2.Inv X pins σ H1 { s1 with heap:=h' }:=I1.kept (t':=s1.toks) kp
  refine wpAny_pyIter_enum he ?_
  refine⟨s1.heap.objs.size+1,[s1.heap.objs.size+1,s1.heap.objs.size],_,_,H1,rfl,I2,xu a s1.heap.objs.size (s1.heap.objs.size+1) (Nat.succ_ne_self _),⟨⟨_,by simpa using he⟩,hl⟩,fun b hb=>?_,q⟩
  rcases List.mem_cons.mp hb with rfl|hb
  ·exact I1.fpOk (Nat.le_succ _) (I1.hok.fresh (Nat.le_succ _))
  ·have e:b=s1.heap.objs.size:=by simpa using hb
   subst e
   exact I1.fpOk (Nat.le_refl _) (I1.hok.fresh (Nat.le_refl _))
def cW:Nat->List D->List D
 |_,[]=>[]
 |n,d::ds=>.tup [.int (n:Nat),d]::cW (n+1) ds
theorem nu:∀(ds:List D)(n i:Nat),(cW n ds)[i]?=(ds[i]?).map fun d=>.tup [.int ((n+i:Nat):Int),d]
 | [],_,_=>by simp[cW]
 |d::ds,n,0=>by simp[cW]
 |d::ds,n,i+1=>by
  have:=nu ds (n+1) i
  simp only[cW,List.getElem?_cons_succ,this]
  congr 1
  funext d
  have e:n+1+i=n+(i+1):=by omega
  rw[e]
theorem nv:∀(ds:List D)(n:Nat),(cW n ds).length=ds.length
 | [],_=>rfl
 |d::ds,n=>by simp[cW,nv ds]
theorem xw {K:PySem.W.Frag}{a:Addr}{m:Addr->Prop}{H:Hp}{ds:List D}{vs:List V}(h:(H a=some (.lst vs)/\m a)\/∃ o,H a=some (.frz o (.lst vs))/\m a)(is:IsAll H m ds vs):Walk (Ho K a) m H (cW 0 ds):=by
 have st:∀ H',(∀ a o,H a=some o->(m a\/fixd o)->H' a=some o)->SqL K H' a vs:=fun H' k=>by
  rcases h with⟨h,hm⟩|⟨o,h,_⟩
  ·exact .inl (.inl (k a _ h (.inl hm)))
  ·exact .inl (.inr ⟨o,k a _ h (.inr True.intro)⟩)
 refine⟨fun H' i d k e=>?_,fun H' k=>⟨vs,st H' k,by rw[is.length,nv];exact Nat.le_refl _⟩⟩
 rw[nu]at e
 cases q:ds[i]? with
 |none=>rw[q]at e;cases e
 |some d0=>
  rw[q]at e
  have e:D.tup [.int ((0+i:Nat):Int),d0]=d:=by simpa using e
  obtain⟨v,ev,iv⟩:=(is.mono k fun _ _ _ z=>z:IsAll H' m ds vs).get q
  refine⟨⟨vs,v,st H' k,ev⟩,fun x H'' y=>?_⟩
  obtain⟨p,x',hp,rfl,rfl,y⟩:=y
  have:=y vs (st _ k)
  rw[ev]at this;cases this
  have sm:Same H' (az H' p (.tup [.int (i:Nat),v])):=aU hp
  refine⟨sm,?_⟩
  rw[<- e,Nat.zero_add]
  exact⟨p,_,rfl,ai,.int (i:Nat),[v],rfl,rfl,v,[],rfl,Is.same sm iv,rfl⟩
def zb (fs:En->Res (List R)):En->Res Src:=fun env=>(fs env).bind fun rs=>match rs with
 | [r]=>match r.d with
  | .lst ds=>.ok ⟨cW 0 ds,r.fr,r.al⟩
  |_=>.stuck
 |_=>.stuck
theorem zd {l:Expr} {fs:En->Res (List R)} {p pos:Pos} (hg:Gl X "enumerate") (hm:X.mg "enumerate"=none) (ha:xV X E [l] fs) (hs:starEach [l] X.env=[(false,eval l X.env)]:=by rfl):Er X E (.Tuple es k fJ) (.Call (.Name "enumerate" p) [l] [] pos) (zb fs):=by
 obtain⟨t,p1,s1⟩:=ha
 refine⟨_,BV hg hm p1 hs,fun g M ρ env σ H Rq rep p=>s1.one rep (P:=fun M H r=>PostI X.mg E g M ρ env σ H Rq r) p (fun _ _ z=>z) (fun _ _ _ z=>z) (fun _ _ _ _ _ e p=>p.ext e) fun rs vs M1 H1 e1 rep1 is q=>?_⟩
 match rs,is,q with
 | [r],is,q=>
  obtain⟨v,w,rfl,i1,i2⟩:=is
  cases i2
  have i1:Is H1 (vmsk g M1 (aR [r]) ρ (aY [r])) r.d v:=i1
  replace i1:=i1.weak fun _ z=>j_ z
  dsimp only at q
  cases z:r.d with
  |lst ds=>
   rw[z]at i1;rw[z]at q
   dsimp only at q
   obtain⟨a,ws,rfl,h1,h2⟩:=i1
   exact⟨a,ws,rfl,.inl (h1.imp (·.1) fun⟨o,z,_⟩=>⟨o,z⟩),q _ M1 H1 (Ext.refl _ _) rep1 (xw h1 h2)⟩
  |_=>rw[z]at q;exact q.elim
 | [],_,q=>exact q.elim
 |_::_::_,_,q=>exact q.elim
end
end L3
namespace L3
open PySem PySem.Spec PyProof.Rows L2
def HI (osc:Scope)(N:List Str)(scope:Scope)(tN capN:List Str)(caps:List Nat):Bool:=
 (scope.kind==.function)&&scope.names.all (fun y=>y.2 != .cell)&&scope.names.all (fun y=>y.2 != .local || scope.names.lookup y.1==some .local)&&tN.all (fun x=>scope.names.lookup x==some .local) &&
 scope.names.all (fun y=>y.2 != .free || (osc.names.lookup y.1==some .cell || osc.names.lookup y.1==some .free))&&(capN.zip caps).all (fun p=>N[p.2]?==some p.1)&&(caps.length==capN.length) &&
 capN.all (fun y=>osc.names.lookup y==some .cell || osc.names.lookup y==some .free)&&capN.all (fun y=>scope.names.lookup y==some .free)&&decide (tN++capN).Nodup
theorem CScope.of {X:Cx}{osc:Scope}{N:List Str}{scope:Scope}{tN capN:List Str}{caps:List Nat}(h1:X.env.scope=osc)(h2:X.N=N)(h3:HI osc N scope tN capN caps=true):CScope X scope tN capN caps:=by
 unfold HI at h3
 simp only[Bool.and_eq_true,List.all_eq_true,Bool.or_eq_true,beq_iff_eq,bne_iff_ne,decide_eq_true_eq,ne_eq]at h3
 obtain⟨⟨⟨⟨⟨⟨⟨⟨⟨a1,a2⟩,a3⟩,a4⟩,a5⟩,a6⟩,a7⟩,a8⟩,a9⟩,a10⟩:=h3
 subst h1 h2
 refine⟨a1,a2,fun y hy hl=>(a3 y hy).resolve_left fun z=>z hl,a4,fun y hy hf=>(a5 y hy).resolve_left fun z=>z hf,⟨fun k y e=>?_,a8,a9,a7⟩,a10⟩
 have hk:k<capN.length:=(List.getElem?_eq_some_iff.mp e).1
 have hk2:k<caps.length:=by omega
 refine⟨caps[k],by simp[hk2],?_⟩
 have hm:(y,caps[k])∈capN.zip caps:=by
  have:(capN.zip caps)[k]?=some (y,caps[k]):=by
   rw[List.getElem?_zip_eq_some]
   exact⟨e,by simp[hk2]⟩
  exact List.mem_of_getElem? this
 exact a6 _ hm
structure Fn (K:PySem.W.Frag) (mg:Str->Option Value) (x:Str) (st:Stmt) (ps:List Str) (f:Addr) (fd:FuncData):Prop where
 fu:Fun K x x st f fd
 bi:Binds K fd ps []
 gl:mg x=some (.ref f)
end L3
namespace L3
open PySem PySem.Spec PyProof.Rows L2
section
variable {X:Cx}{E:XK}
end
end L3
namespace L3
open PySem PySem.Spec PyProof.Rows L2
def GN (F:List D->Res R):Sp:=fun vs H Q _=>vs.length=1/\∃ ds Ma r,IsAll H Ma ds vs/\F ds=.ok r/\∀ v H',Same H H'->RetOk (F2 H Ma) H' v r->Q v H'
def vX:Value->Bool
 | .type n=>n=="list"
 |_=>false
def Hq (K:PySem.W.Frag):Bool:=K.all fun p=>!vX p.2.cls
theorem ze {a:Addr} {o:Obj}:∀{K:PySem.W.Frag},Hq K=true->K.lookup a=some o->o.cls=.type "list"->False
 | [],_,e,_=>by cases e
 |(b,x)::r,h,e,c=>by
  unfold Hq at h
  rw[List.all_cons,Bool.and_eq_true]at h
  rw[List.lookup_cons]at e
  split at e
  ·cases e
   rw[c]at h
   have h1:=h.1
   simp[vX]at h1
  ·exact ze (K:=r) h.2 e c
theorem lh {H:Hp}{m:Addr->Prop}:∀ ns:List Int,IsAll H m (ns.map D.int) (ns.map V.int)
 | []=>rfl
 |n::r=>⟨.int n,r.map V.int,rfl,rfl,lh r⟩
theorem Es {K:PySem.W.Frag}{F:List D->Res R}(hF:∀ ns:List Int,ns.length<=63->∃ f al,F [.lst (ns.map .int)]=.ok (.val (.bl true) f al))(hK:Hq K=true)(H:Hp)(a:Addr)(ns:List Int)(hl:ns.length<=63)(hO:Bv H)(hS:SqL K H a (ns.map V.int)) :
 GN F [.ref a] H (fun v _=>v=.bl true) fun _ _ _=>False:=by
 obtain⟨f,al,e⟩:=hF ns hl
 refine⟨rfl,[.lst (ns.map .int)],fun b=>b=a,_,⟨_,[],rfl,⟨a,ns.map V.int,rfl,?_,lh ns⟩,rfl⟩,e,fun v H' _ h=>h⟩
 rcases hS with h|⟨o,its,n,h1,h2,_⟩
 ·rcases h with h|⟨o,h⟩
  ·exact .inl ⟨h,rfl⟩
  ·exact .inr ⟨o,h,rfl⟩
 ·exact(ze hK h1 h2).elim
section
variable {P:Program}{w:World}{K:PySem.W.Frag}{mg:Str->Option Value}{base:Heap}
theorem FnOk.top {CX:CXT}{k:Nat}{f:Addr}{fd:FuncData}{ps:List Str}{F:List D->Res R}(h:FnOk P w K mg base CX k f fd ps (nh mg 1 F)):FnOk P w K mg base CX k f fd ps (GN F):=
 h.imp fun vs H Q E ⟨hl,ds,Ma,r,is,e,q⟩=>⟨hl,ds,Ma,is,by rw[e];exact q⟩
end
end L3
namespace L3
open PySem PySem.Spec PyProof.Rows L2
section
variable {P:Program}{w:World}{K:PySem.W.Frag}{mg:Str->Option Value}{base:Heap}
end
section
variable {P:Program}{w:World}{K:PySem.W.Frag}{mg:Str->Option Value}{base:Heap}{N:List Str}{qual:Str}{scope:Scope}{f:Addr}{cd:Value}{A:Around}{outer:List Env}{s₀:Shared}{H₀:Hp}{E:XK}
end
section
variable {X:Cx}{E:XK}{hc:Str}{Ch:Addr}{cs:List Str}{np hpos pos epos p cpos:Pos}{b₀:Stmt}{suite:List Stmt}{fsu:En->Res Fl}{k:Nat}{f:Addr}{fd:FuncData}{ps:List Str}{F:List D->Res R}{x:Str}{e:Expr}{es:List Expr}{fs:En->Res (List R)}
end
end L3
namespace L3
open PySem PySem.Spec PyProof.Rows L2
section
variable {h:Heap}{z TI TO i1 i2 a b:Addr}{i:Nat}{its its2:Array Value}
end
section
variable {X:Cx}{E:XK}{es:List Expr}{k:Nat}{fJ:Pos}
end
section
variable {X:Cx}{E:XK}
def GO (k:Int->Int->Int):List R->Res R
 | [r,q]=>match r.d,q.d with
  | .int i,.int j=>.ok (.val (.int (k i j)) true [])
  |_,_=>.stuck
 |_=>.stuck
def Et:List R->Res R:=GO fun i j=>if j>i then j else i
def BW:List R->Res R:=GO fun i j=>if j<i then j else i
theorem C1 {f:Value}{k:Int->Int->Int}(h:CallR X f (fun xs H Q=>∃ i j,xs=[.int i,.int j]/\Q (.int (k i j)) H)):fL X E f (GO k):=by
 refine⟨_,h,fun g M ρ env σ H Q rs vs rep i p=>?_⟩
 match rs,i,p with
 | [r,q],i,p=>
  obtain⟨v,w,rfl,i1,v2,w2,rfl,i2,i3⟩:=i
  cases i3
  have i1:Is H (vmsk g M (aR [r,q]) ρ (aY [r,q])) r.d v:=i1
  have i2:Is H (vmsk g M (aR [r,q]) ρ (aY [r,q])) q.d v2:=i2
  unfold GO at p
  dsimp only at p
  cases z:r.d with
  |int a=>
   cases z2:q.d with
   |int b=>
    rw[z]at i1;rw[z2]at i2;rw[z,z2]at p
    cases i1;cases i2
    exact⟨a,b,rfl,p _ M H (Ext.refl _ _) rep rfl⟩
   |_=>rw[z,z2]at p;exact p.elim
  |_=>rw[z]at p;exact p.elim
 | [],_,p=>exact p.elim
 | [_],_,p=>exact p.elim
 |_::_::_::_,_,p=>exact p.elim
theorem Eu (hc:X.calm=true):fL X E (.builtin "max") Et:=C1 (wM hc)
theorem Ev (hc:X.calm=true):fL X E (.builtin "min") BW:=C1 (wN hc)
end
end L3
namespace L3
open PySem PySem.Spec PyProof.Rows L2
section
variable {X:Cx}{E:XK}
def zf (fa:En->Res R):En->Res Bool:=fun env=>(fa env).bind fun ra=>.ok ra.d.isNon
theorem oK {a:Expr}{fa:En->Res R}{pos pos':Pos}{j:Nat}(ha:PD X E a fa):xh X E (.Compare a [.Is] [.Constant .none j pos'] pos) (zf fa):=BI ha
open Classical in
noncomputable def bJ (H:Hp)(m:Addr->Prop)(x:D)(u:Value):Bool:=decide (∃ d v,RelV v u/\Is H m d v/\cB d x=true)
theorem ji {H:Hp}{m:Addr->Prop}{x d:D}{v:V}{u:Value}(r:RelV v u)(h:Is H m d v):bJ H m x u=cB d x:=by
 unfold bJ
 cases q:cB d x with
 |true=>exact @decide_eq_true _ (Classical.propDecidable _) ⟨d,v,r,h,q⟩
 |false=>
  refine @decide_eq_false _ (Classical.propDecidable _) fun⟨d',v',r',h',q'⟩=>?_
  have e:=L2.RelV.inj r r'
  subst e
  have e:=Is.inj h h'
  subst e
  rw[q]at q';cases q'
theorem eR {H:Hp}{m:Addr->Prop}{x:D}:∀{ds:List D}{vs:List V}{us:List Value},IsAll H m ds vs->Vals vs us->us.any (bJ H m x)=ds.any fun d=>cB d x
 | [],_,_,h,r=>by cases h;cases r;rfl
 |d::ds,_,_,h,r=>by
  obtain⟨v,w,rfl,h1,h2⟩:=h
  cases r with
  |cons r1 r2=>rw[List.any_cons,List.any_cons,ji r1 h1,eR h2 r2]
def Ew (neg:Bool)(K:PySem.W.Frag):R2:=fun x y H Q=>∃ p ds vs d m m',y=.ref p/\(SqL K H p vs\/SqT K H p vs)/\IsAll H m ds vs/\Is H m' d x/\(D.deps ds<=50/\d.dep<=50)/\Q (.bl (if neg then !(ds.any fun e=>cB e d) else ds.any fun e=>cB e d)) H
theorem c_ {pins:List (Addr×Obj)}{σ:St}{H:Hp}{s:Shared}{m m':Addr->Prop}{d:D}{x:V}{v:Value}{A:Around}(I:L2.Inv X pins σ H s)(hu:A.units+50<cLine)(hx:Is H m' d x)(hE:d.dep<=50)(rx:RelV x v) :
 ∀{ds:List D}{vs:List V}{us:List Value},IsAll H m ds vs->Vals vs us->D.deps ds<=50->∀ u∈us,SeqAt.EqAt A s u v (bJ H m d u)
 | [],_,_,h,r,_=>fun u hu=>by cases h;cases r;cases hu
 |e::ds,_,_,h,r,hd=>fun u hm=>by
  obtain⟨y,w,rfl,h1,h2⟩:=h
  have hd':max e.dep (D.deps ds)<=50:=hd
  cases r with
  |cons r1 r2=>
   rcases List.mem_cons.mp hm with rfl|hm
   ·rw[ji r1 h1]
    exact yM I.hok 50 A hu (by omega) (by omega) (by omega) h1 hx r1 rx
   ·exact c_ I hu hx hE rx h2 r2 (by omega) u hm
theorem Ex (hu:X.A.units+64<cLine):OpR X (compareOp .In) (Ew false X.K):=by
 intro pins s σ H x y v u Q I rx ry h
 obtain⟨p,ds,vs,d,m,m',rfl,hq,hi,hx,hd,q⟩:=h
 cases ry
 rcases hq with hq|hq
 ·obtain⟨its,r,pl,hz⟩:=I.list hq
  refine SeqAt.in_listAt (bJ H m d) pl.isList (fun w hw=>c_ I (by show X.A.units+1+50<cLine;omega) hx hd.2 rx hi r hd.1 w (by simpa using hw)) ⟨.bl _,H,I,rfl,?_⟩
  rw[show its.toArray.any (bJ H m d)=its.any (bJ H m d) by simp,eR hi r]
  exact q
 ·obtain⟨its,r,pl,hz⟩:=I.tuple hq
  refine SeqAt.in_tupleAt (bJ H m d) pl (fun w hw=>c_ I (by show X.A.units+1+50<cLine;omega) hx hd.2 rx hi r hd.1 w (by simpa using hw)) ⟨.bl _,H,I,rfl,?_⟩
  rw[show its.toArray.any (bJ H m d)=its.any (bJ H m d) by simp,eR hi r]
  exact q
theorem xx (hu:X.A.units+64<cLine):OpR X (compareOp .NotIn) (Ew true X.K):=by
 intro pins s σ H x y v u Q I rx ry h
 obtain⟨p,ds,vs,d,m,m',rfl,hq,hi,hx,hd,q⟩:=h
 cases ry
 rcases hq with hq|hq
 ·obtain⟨its,r,pl,hz⟩:=I.list hq
  refine SeqAt.notIn_listAt (bJ H m d) pl.isList (fun w hw=>c_ I (by show X.A.units+1+50<cLine;omega) hx hd.2 rx hi r hd.1 w (by simpa using hw)) ⟨.bl _,H,I,rfl,?_⟩
  rw[show its.toArray.any (bJ H m d)=its.any (bJ H m d) by simp,eR hi r]
  exact q
 ·obtain⟨its,r,pl,hz⟩:=I.tuple hq
  refine SeqAt.notIn_tupleAt (bJ H m d) pl (fun w hw=>c_ I (by show X.A.units+1+50<cLine;omega) hx hd.2 rx hi r hd.1 w (by simpa using hw)) ⟨.bl _,H,I,rfl,?_⟩
  rw[show its.toArray.any (bJ H m d)=its.any (bJ H m d) by simp,eR hi r]
  exact q
def Fx (neg:Bool)(x:D)(ds:List D):Res R:=if D.deps ds<=50/\x.dep<=50 then .ok (.val (.bl (if neg then !(ds.any fun e=>cB e x) else ds.any fun e=>cB e x)) true []) else .stuck
def tU (neg:Bool)(a b:R):Res R:=match b.d with
 | .lst ds=>Fx neg a.d ds
 | .tup ds=>Fx neg a.d ds
 |_=>.stuck
def HS:R->R->Res R:=tU false
def Ey:R->R->Res R:=tU true
theorem zg {neg:Bool}{f:Value->Value->Sem Value}(h:OpR X f (Ew neg X.K)):mD X E f (tU neg):=by
 refine⟨_,h,fun g M ρ env σ H Q ra rb x y rep i1 i2 p=>?_⟩
 unfold tU at p
 have key:∀ ds,PostE X.mg E g M ρ env σ H Q (Fx neg ra.d ds)->(D.deps ds<=50/\ra.d.dep<=50)/\Q (.bl (if neg then !(ds.any fun e=>cB e ra.d) else ds.any fun e=>cB e ra.d)) H:=fun ds p=>by
  unfold Fx at p
  by_cases hd:D.deps ds<=50/\ra.d.dep<=50
  ·rw[if_pos hd]at p;exact⟨hd,p _ M H (Ext.refl _ _) rep rfl⟩
  ·rw[if_neg hd]at p;exact p.elim
 cases e2:rb.d with
 |lst ds=>
  rw[e2]at p i2
  obtain⟨a,vs,rfl,h1,h2⟩:=i2.rd
  obtain⟨k1,k2⟩:=key ds p
  exact⟨a,ds,vs,ra.d,_,_,rfl,.inl (.inl h1),h2,i1,k1,k2⟩
 |tup ds=>
  rw[e2]at p i2
  obtain⟨a,vs,rfl,h1,h2⟩:=i2
  obtain⟨k1,k2⟩:=key ds p
  exact⟨a,ds,vs,ra.d,_,_,rfl,.inr (SqT.of h1),h2,i1,k1,k2⟩
 |_=>rw[e2]at p;exact p.elim
theorem Gf (hu:X.A.units+64<cLine):mD X E (compareOp .In) HS:=zg (Ex hu)
theorem zh (hu:X.A.units+64<cLine):mD X E (compareOp .NotIn) Ey:=zg (xx hu)
end
end L3
namespace L2
open PySem PySem.Spec PySem.Calls PyProof.Rows
section
variable {K:PySem.W.Frag}{x C:Addr}{c:Value}
end
section
variable {X:Cx}{pins:List (Addr×Obj)}{σ:St}{H:Hp}{s:Shared}{x:Addr}{o:Obj}
theorem vY {M:Model}{A:Around}{E:Value->Shared->Prop}{i:Nat}{n:Str}{pos:Pos}{Q:Unit->Shared->Prop}(I:Inv X pins σ H s)(hN:X.N.Nodup)(hi:X.N[i]?=some n)(hk:X.env.scope.names.lookup n=some .local)
 (h:∀ s',Inv X pins (σ.set i none) H s'->Q () s'):wpAny M A (do bindName X.env n .none;unbindBehindTheSuite X.env n pos) Q E s:=by
 obtain⟨m,hn,hl⟩:=id I.loc
 have hcls:(X.env.scope.kind==.class || (X.env.scope.kind==.module&&X.env.locals != X.env.globals))=false:=by rw[I.ok.kind];rfl
 have hiσ:i<σ.length:=by rw[I.len];exact(List.getElem?_eq_some_iff.mp hi).1
 have cne:=I.cne
 have tracked:∀{a:Addr}{h':Heap},(∃ o,s.heap.get? a=some o/\H a=none)->Heap.SameBut a s.heap h'->HOk X.prog X.w H h':=fun{a h'} ha hs b ob e=>by
  obtain⟨_,_,hfree⟩:=ha
  refine(I.hok b ob e).stay (fun c w' hc q=>(hs.2 c ?_).trans q) (fun _ q=>q) fun _ _ q=>q
  rintro rfl
  rcases hc with rfl|hc
  ·rw[hfree]at e;cases e
  ·rw[hfree]at hc;cases hc
 refine wpAny_nameGoes_keeps hk hn hcls fun h' v hn' hs=>?_
 obtain⟨oL,_,_,hoL,_⟩:=id hn
 refine h _ ⟨I.ok,I.os,I.bare,⟨fun b o e n hb hx=>?_,fun b o e n hb hx=>?_,I.base.free,fun b o e hx=>?_,I.base.tups,I.base.frzs,I.base.tbls⟩,⟨_,hn',fun j y v' e1 e2 e3=>?_⟩,fun y c e=>?_,I.free,I.freeC,fun p hp=>?_,tracked ⟨oL,hoL,I.free⟩ hs,by simpa using I.len⟩
 ·exact(hs.2 b (Nat.ne_of_lt (Nat.lt_of_lt_of_le (Heap.lt_size e) I.ok.above))).trans (I.base.keep b o e n hb hx)
 ·obtain⟨sl,e1⟩:=I.base.slot b o e n hb hx
  exact⟨sl,(hs.2 b (Nat.ne_of_lt (Nat.lt_of_lt_of_le (Heap.lt_size e) I.ok.above))).trans e1⟩
 ·obtain⟨o',e1⟩:=I.base.there b o e hx
  exact⟨o',(hs.2 b (Nat.ne_of_lt (Nat.lt_of_lt_of_le (Heap.lt_size e) I.ok.above))).trans e1⟩
 ·by_cases hj:j=i
  ·subst hj
   rw[List.getElem?_set_self hiσ]at e2
   cases e2
  ·rw[List.getElem?_set_ne (Ne.symm hj)]at e2
   obtain⟨u',r',q⟩:=hl j y v' e1 e2 e3
   refine⟨u',r',?_⟩
   rcases q with⟨k,e⟩|⟨k,c,e,z⟩
   ·refine .inl ⟨k,?_⟩
    have:y≠n:=fun e=>hj (kw hN e1 (e▸hi))
    simp[this,e]
   ·exact .inr ⟨k,c,e,z.sameBut hs (cne y c e)⟩
 ·obtain⟨w',z⟩:=I.cell y c e
  exact⟨w',z.sameBut hs (cne y c e)⟩
 ·obtain⟨e,n,ne,nf,d⟩:=I.pin p hp
  exact⟨(hs.2 p.1 ne).trans e,n,ne,nf,d⟩
end
section
variable {X:Cx}{hc:Str}{Ch:Addr}{np hpos pos epos:Pos}{b₀:Stmt}{suite:List Stmt}{ts:Addr->Addr->TS}{te:TX}{e:Expr}{i:Nat}{n:Str}
end
end L2
namespace L2
open PySem PySem.Spec PySem.Calls PyProof.Rows
section
variable {X:Cx}{i iw:Nat}{n y b1 b2:Str}{s1 s2:Str}{py p1 p2 p3 p4 p5 p6 p7 p8 p9 p10 p11 p12 p13 p14 p15 lp:Pos}{j1 j2}{T1:String}{Ch2:Addr}
end
end L2
namespace L3
open PySem PySem.Spec PyProof.Rows L2
section
variable {X:Cx}{E:XK}{i iw:Nat}{n y b1 b2:Str}{s1 s2:Str}{py p1 p2 p3 p4 p5 p6 p7 p8 p9 p10 p11 p12 p13 p14 p15 lp:Pos}{j1 j2}{T1:String}{Ch2:Addr}
variable {hc:Str}{Ch:Addr}{cs:List Str}{np hpos pos epos p cpos:Pos}{k:Nat}{f:Addr}{fd:FuncData}{ps:List Str}{F:List D->Res R}{x:Str}{e:Expr}{es:List Expr}{fs:En->Res (List R)}
end
end L3
namespace L3
open PySem PySem.Spec PyProof.Rows L2
def zi:D->Option Key
 | .int i=>some (.inl i)
 | .str x=>some (.inr x)
 |_=>none
def jL:List D->Option (List Key)
 | []=>some []
 |d::ds=>match zi d,jL ds with
  |some k,some ks=>some (k::ks)
  |_,_=>none
def keyT:D->Option (List Key)
 | .tup ds=>jL ds
 |_=>none
def zk:D->Option (List Key×D)
 | .tup [k,v]=>(keyT k).map fun ks=>(ks,v)
 |_=>none
def jj:List D->Option (List (List Key×D))
 | []=>some []
 |d::ds=>match zk d,jj ds with
  |some p,some ps=>some (p::ps)
  |_,_=>none
def zl (t:List (List Key×D))(k:List Key)(d:D):List (List Key×D):=if (t.any fun x=>decide (x.1=k))=true then t.map (fun x=>if x.1=k then (x.1,d) else x) else t++[(k,d)]
def rE (t ps:List (List Key×D)):List (List Key×D):=ps.foldl (fun t x=>zl t x.1 x.2) t
def Gg (ps:List (List Key×D)):D:=.dic ((rE [] ps).map fun p=>.inr p.1) ((rE [] ps).map Prod.snd)
def zn:List R->Res R
 | [r]=>match r.d with
  | .lst ds=>match jj ds with
   |some ps=>if D.flats ((rE [] ps).map Prod.snd) then .ok (.fre (Gg ps)) else .stuck
   |none=>.stuck
  |_=>.stuck
 |_=>.stuck
section
variable {H:Hp}{m:Addr->Prop}
theorem Is.key {d:D}{v:V}{k:Key}(h:Is H m d v)(e:zi d=some k):v=kV k:=by
 cases d with
 |int i=>cases e;exact h
 |str x=>cases e;exact h
 |_=>cases e
theorem IsAll.keys:∀{ds:List D}{vs:List V}{ks:List Key},IsAll H m ds vs->jL ds=some ks->vs=ks.map kV
 | [],_,_,h,e=>by cases h;cases e;rfl
 |d::ds,_,ks,h,e=>by
  obtain⟨v,r,rfl,h1,h2⟩:=h
  unfold jL at e
  cases q:zi d with
  |none=>rw[q]at e;cases e
  |some k=>
   cases q2:jL ds with
   |none=>rw[q,q2]at e;cases e
   |some ks'=>
    rw[q,q2]at e;cases e
    rw[h1.key q,IsAll.keys h2 q2];rfl
theorem Is.keyT {d:D}{v:V}{k:List Key}(h:Is H m d v)(e:L3.keyT d=some k):∃ b,v=.ref b/\H b=some (.tup (k.map kV)):=by
 cases d with
 |tup ds=>
  obtain⟨a,vs,rfl,h1,h2⟩:=h
  have e:jL ds=some k:=e
  rw[IsAll.keys h2 e]at h1
  exact⟨a,rfl,h1⟩
 |_=>cases e
def RKV (H:Hp)(m:Addr->Prop):List (List Key×V)->List (List Key×D)->Prop:=Paired fun a b=>a.1=b.1/\Is H m b.2 a.2
theorem RKV.fst {a:List (List Key×V)}{b:List (List Key×D)}(r:RKV H m a b):a.map Prod.fst=b.map Prod.fst:=by
 induction r with
 |nil=>rfl
 |cons h _ ih=>rw[List.map_cons,List.map_cons,ih,h.1]
theorem RKV.snd {a:List (List Key×V)}{b:List (List Key×D)}(r:RKV H m a b):IsAll H m (b.map Prod.snd) (a.map Prod.snd):=by
 induction r with
 |nil=>rfl
 |cons h _ ih=>exact⟨_,_,rfl,h.2,ih⟩
theorem RKV.append {a c:List (List Key×V)}{b d:List (List Key×D)}(r:RKV H m a b)(s:RKV H m c d):RKV H m (a++c) (b++d):=by
 induction r with
 |nil=>exact s
 |cons h _ ih=>exact .cons h ih
theorem RKV.any {a:List (List Key×V)}{b:List (List Key×D)}(r:RKV H m a b)(k:List Key):(a.any fun x=>decide (x.1=k))=(b.any fun x=>decide (x.1=k)):=by
 induction r with
 |nil=>rfl
 |cons h _ ih=>rw[List.any_cons,List.any_cons,ih,h.1]
theorem RKV.repl {a:List (List Key×V)}{b:List (List Key×D)}{k:List Key}{v:V}{d:D}(r:RKV H m a b)(h:Is H m d v):RKV H m (a.map fun x=>if x.1=k then (x.1,v) else x) (b.map fun x=>if x.1=k then (x.1,d) else x):=by
 induction r with
 |nil=>exact .nil
 | @cons p q ps qs hq t ih=>
  refine .cons ?_ ih
  dsimp only
  by_cases e:p.1=k
  ·rw[if_pos e,if_pos (hq.1▸e)];exact⟨hq.1,h⟩
  ·rw[if_neg e,if_neg (fun z=>e (hq.1.trans z))];exact hq
theorem RKV.put {a:List (List Key×V)}{b:List (List Key×D)}{k:List Key}{v:V}{d:D}(r:RKV H m a b)(h:Is H m d v):RKV H m (bu a k v) (zl b k d):=by
 unfold bu zl
 rw[r.any k]
 split
 ·exact r.repl h
 ·exact r.append (.cons ⟨rfl,h⟩ .nil)
theorem rF:∀{ds:List D}{vs:List V}{ps:List (List Key×D)},IsAll H m ds vs->jj ds=some ps->∃ kvs,n9 H vs kvs/\∀ a b,RKV H m a b->RKV H m (fZ a kvs) (rE b ps)
 | [],_,_,h,e=>by cases h;cases e;exact⟨[],.nil,fun a b r=>r⟩
 |d::ds,_,ps,h,e=>by
  obtain⟨v,r,rfl,h1,h2⟩:=h
  unfold jj at e
  cases q:zk d with
  |none=>rw[q]at e;cases e
  |some p=>
   cases q2:jj ds with
   |none=>rw[q,q2]at e;cases e
   |some ps'=>
    rw[q,q2]at e;cases e
    obtain⟨kvs,k1,k2⟩:=rF h2 q2
    unfold zk at q
    split at q
    ·rename_i kd vd
     obtain⟨a,vs2,rfl,g1,g2⟩:=h1
     obtain⟨y1,r1,rfl,i1,y2,r2,rfl,i2,i3⟩:=g2
     cases i3
     cases q3:keyT kd with
     |none=>rw[q3]at q;cases q
     |some kk=>
      rw[q3]at q;cases q
      obtain⟨ka,rfl,hka⟩:=i1.keyT q3
      exact⟨(kk,y2)::kvs,.cons ⟨a,ka,rfl,g1,hka⟩ k1,fun a b r=>k2 _ _ (r.put i2)⟩
    ·cases q
end
section
variable {X:Cx}{E:XK}
theorem oM {g:Gd}{M:Addr->Prop}{ρ:Pr}{env:En}{σ:St}{H H':Hp}{b:Addr}{d:D}(rep:Rep g M ρ env σ H)(hb:H b=none)(is:Is H' (fun a=>a=b) d (.ref b))(mu:Mu H' b):ROk g M ρ H H' (.ref b) (.fre d):=by
 obtain⟨h0,hm,ho⟩:=rep.free hb
 exact⟨fun a=>a=b,fun a e=>by subst e;exact⟨hm,hb,mu,ho⟩,is⟩
theorem gz {pos:Pos}:PD X E (.Dict [] [] pos) (fun _=>.ok (.fre (.dic [] []))):=by
 refine⟨_,kH,fun g M ρ env σ H Q rep p b hb=>?_⟩
 have s:Same H (az H b (.dK [])):=aU hb
 exact p _ M _ ⟨fun _ z=>z,s,fun _ z=>.inl z⟩ (rep.grow s) (oM rep hb ⟨b,[],rfl,⟨.inl ⟨[],.inl ai,rfl,rfl⟩,rfl⟩,rfl⟩ ⟨_,ai,True.intro⟩)
theorem BX (hc:X.calm=true) (hu:X.A.units+64<cLine):fL X E (.type "dict") zn:=by
 refine⟨_,sU hc hu,fun g M ρ env σ H Q rs vs rep i p=>?_⟩
 match rs,i,p with
 | [r],i,p=>
  obtain⟨v,w,rfl,i1,i2⟩:=i
  cases i2
  have i1:Is H (vmsk g M (aR [r]) ρ (aY [r])) r.d v:=i1
  replace i1:=i1.weak fun _ z=>j_ z
  unfold zn at p
  dsimp only at p
  cases q:r.d with
  |lst ds=>
   rw[q]at p i1
   dsimp only at p
   cases q2:jj ds with
   |none=>rw[q2]at p;exact p.elim
   |some ps=>
    rw[q2]at p
    obtain⟨a,ws,rfl,h1,h2⟩:=i1.rd
    obtain⟨kvs,k1,k2⟩:=rF h2 q2
    refine⟨a,ws,kvs,rfl,h1,k1,fun b hb=>?_⟩
    have rk:=k2 [] [] .nil
    have s:Same H (az H b (.dT (fZ [] kvs))):=aU hb
    dsimp only at p
    by_cases hf:D.flats ((rE [] ps).map Prod.snd)=true
    ·rw[if_pos hf]at p
     refine p _ M _ ⟨fun _ z=>z,s,fun _ z=>.inl z⟩ (rep.grow s) (oM rep hb ⟨b,_,rfl,⟨.inr ⟨fZ [] kvs,.inl ai,?_,rfl⟩,rfl⟩,IsAll.flat hf (IsAll.same s rk.snd)⟩ ⟨_,ai,True.intro⟩)
     have:=congrArg (List.map fun k:List Key=>(Sum.inr k:DK)) rk.fst
     rw[List.map_map,List.map_map]at this
     exact this.symm
    ·rw[if_neg hf]at p;exact p.elim
  |_=>rw[q]at p;exact p.elim
 | [],_,p=>exact p.elim
 |_::_::_,_,p=>exact p.elim
def keyX:D->Option DK
 | .int i=>some (.inl (.inl i))
 | .str x=>some (.inl (.inr x))
 | .tup ds=>(jL ds).map .inr
 |_=>none
def kin:DK->DK->Bool
 | .inl _,.inl _=>true
 | .inr _,.inr _=>true
 |_,_=>false
def fD (ks:List DK)(k:DK):Bool:=ks.any fun x=>decide (x=k)
def rG (neg:Bool)(a:D)(ks:List DK):Res R:=match keyX a with
 |some k=>if ks.all (kin k) then .ok (.val (.bl (if neg then !fD ks k else fD ks k)) true []) else .stuck
 |none=>.stuck
def xy (neg:Bool)(a b:R):Res R:=match b.d with
 | .dic ks _=>rG neg a.d ks
 |_=>tU neg a b
def rH:R->R->Res R:=xy false
def dS:R->R->Res R:=xy true
def Ez (neg:Bool):R2:=fun x y H Q=>∃ a o,y=.ref a/\kJ H a x o/\Q (.bl (if neg then !o.isSome else o.isSome)) H
theorem EA (hu:X.A.units+64<cLine):OpR X (compareOp .In) (Ez false):=by
 intro pins s σ H x y v u Q I rx ry h
 obtain⟨a,o,rfl,g,q⟩:=h
 cases ry
 exact FY (by omega) I g rx fun s' I'=>⟨.bl _,H,I',rfl,q⟩
theorem xz (hu:X.A.units+64<cLine):OpR X (compareOp .NotIn) (Ez true):=by
 intro pins s σ H x y v u Q I rx ry h
 obtain⟨a,o,rfl,g,q⟩:=h
 cases ry
 exact ym (by omega) I g rx fun s' I'=>⟨.bl _,H,I',rfl,q⟩
theorem li {κ:Type}[DecidableEq κ]{kvs:List (κ×V)}(inj:κ->DK)(hi:∀ a b,inj a=inj b->a=b)(k:κ):(fT kvs k).isSome=fD (kvs.map fun p=>inj p.1) (inj k):=by
 unfold fD
 induction kvs with
 |nil=>rfl
 |cons p r ih=>
  rw[List.map_cons,List.any_cons]
  by_cases e:p.1=k
  ·rw[eI e,decide_eq_true (congrArg inj e)];rfl
  ·rw[eJ e,ih,decide_eq_false (fun z=>e (hi _ _ z)),Bool.false_or]
theorem Is.keyX {H:Hp}{m:Addr->Prop}{d:D}{v:V}{k:DK}(h:Is H m d v)(e:L3.keyX d=some k):(∃ k0,k=.inl k0/\v=kV k0)\/∃ k0 b,k=.inr k0/\v=.ref b/\H b=some (.tup (k0.map kV)):=by
 cases d with
 |int i=>cases e;exact .inl ⟨_,rfl,h⟩
 |str x=>cases e;exact .inl ⟨_,rfl,h⟩
 |tup ds=>
  have e:(jL ds).map Sum.inr=some k:=e
  obtain⟨k0,hk,rfl⟩:=Option.map_eq_some_iff.mp e
  obtain⟨b,e1,e2⟩:=Is.keyT (d:=.tup ds) h hk
  exact .inr ⟨k0,b,rfl,e1,e2⟩
 |_=>cases e
theorem BY {H:Hp}{a:Addr}{ks:List DK}{vs:List V}{m:Addr->Prop}{d:D}{x:V}{k:DK}(h:DAt H a ks vs)(hx:Is H m d x)(e:L3.keyX d=some k)(hk:ks.all (kin k)=true):∃ o,kJ H a x o/\o.isSome=fD ks k:=by
 rcases hx.keyX e with⟨k0,rfl,rfl⟩|⟨k0,b,rfl,rfl,hb⟩
 ·rcases h with⟨kvs,e1,rfl,rfl⟩|⟨kvs,e1,rfl,rfl⟩
  ·exact⟨_,.inl (.inl ⟨kvs,k0,e1,rfl,rfl⟩),li Sum.inl (fun _ _ z=>Sum.inl.inj z) k0⟩
  ·cases kvs with
   |nil=>exact⟨none,.inr (.inl ⟨e1,⟨k0,rfl⟩,rfl⟩),rfl⟩
   |cons p r=>simp[kin]at hk
 ·rcases h with⟨kvs,e1,rfl,rfl⟩|⟨kvs,e1,rfl,rfl⟩
  ·cases kvs with
   |nil=>exact⟨none,.inr (.inr ⟨e1,⟨b,k0,rfl,hb⟩,rfl⟩),rfl⟩
   |cons p r=>simp[kin]at hk
  ·exact⟨_,.inl (.inr ⟨kvs,k0,b,e1,rfl,hb,rfl⟩),li Sum.inr (fun _ _ z=>Sum.inr.inj z) k0⟩
theorem zp {neg:Bool}{f:Value->Value->Sem Value}(h1:mD X E f (tU neg))(h2:OpR X f (Ez neg)):mD X E f (xy neg):=by
 obtain⟨r,o1,s1⟩:=h1
 refine⟨_,o1.or h2,fun g M ρ env σ H Q ra rb x y rep i1 i2 p=>?_⟩
 unfold xy at p
 cases q:rb.d with
 |dic ks ds=>
  right
  rw[q]at p i2
  dsimp only at p
  unfold rG at p
  cases q2:keyX ra.d with
  |none=>rw[q2]at p;exact p.elim
  |some k=>
   rw[q2]at p
   dsimp only at p
   by_cases hk:ks.all (kin k)=true
   ·rw[if_pos hk]at p
    obtain⟨a,vs,rfl,h1,h2⟩:=i2
    obtain⟨o,g1,g2⟩:=BY h1.1 i1 q2 hk
    refine⟨a,o,rfl,g1,?_⟩
    rw[g2]
    exact p _ M H (Ext.refl _ _) rep rfl
   ·rw[if_neg hk]at p;exact p.elim
 |_=>
  left
  refine s1 g M ρ env σ H Q ra rb x y rep i1 i2 ?_
  rw[q]at p
  exact p
theorem hI (hu:X.A.units+64<cLine):mD X E (compareOp .In) rH:=zp (Gf hu) (EA hu)
theorem cg (hu:X.A.units+64<cLine):mD X E (compareOp .NotIn) dS:=zp (zh hu) (xz hu)
def C2:List DK->List D->DK->D->List D
 |k'::ks,d'::ds,k,d=>(if k'=k then d else d')::C2 ks ds k d
 |_,_,_,_=>[]
def cT (ks:List DK)(ds:List D)(k:DK)(d:D):D:=if fD ks k then .dic ks (C2 ks ds k d) else .dic (ks++[k]) (ds++[d])
theorem vZ {κ:Type}[DecidableEq κ](inj:κ->DK)(hi:∀ a b,inj a=inj b->a=b){H:Hp}{m:Addr->Prop}{kvs:List (κ×V)}{ds:List D}{k:κ}{v:V}{d:D}(h:IsAll H m ds (kvs.map Prod.snd))(hv:Is H m d v) :
 ∃ ks' ds',cT (kvs.map fun p=>inj p.1) ds (inj k) d=.dic ks' ds'/\ks'=(bu kvs k v).map (fun p=>inj p.1)/\IsAll H m ds' ((bu kvs k v).map Prod.snd):=by
 have hany:fD (kvs.map fun p=>inj p.1) (inj k)=kvs.any fun p=>decide (p.1=k):=by
  unfold fD
  rw[List.any_map]
  congr 1
  funext p
  exact decide_eq_decide.mpr ⟨hi _ _,congrArg inj⟩
 unfold cT bu
 rw[hany]
 by_cases e:(kvs.any fun p=>decide (p.1=k))=true
 ·rw[if_pos e,if_pos e]
  refine⟨_,_,rfl,?_,?_⟩
  ·rw[List.map_map]
   refine List.map_congr_left fun p _=>?_
   show inj p.1=inj (if p.1=k then (p.1,v) else p).1
   split<;>rfl
  ·clear e hany
   induction kvs generalizing ds with
   |nil=>
    cases ds with
    |nil=>exact rfl
    |cons d0 r=>obtain⟨_,_,z,_⟩:=h;cases z
   |cons p r ih=>
    cases ds with
    |nil=>cases h
    |cons d0 ds=>
     obtain⟨v0,r0,z,i1,i2⟩:=h
     cases z
     have:=ih i2
     refine⟨_,_,rfl,?_,this⟩
     dsimp only
     by_cases e:p.1=k
     ·rw[if_pos (congrArg inj e),if_pos e];exact hv
     ·rw[if_neg (fun z=>e (hi _ _ z)),if_neg e];exact i1
 ·rw[if_neg e,if_neg e]
  exact⟨_,_,rfl,by simp,by rw[List.map_append];exact h.append ⟨v,[],rfl,hv,rfl⟩⟩
def rJ (i:Nat)(env:En)(ks:List DK)(ds:List D)(d:D)(k:R):Res Fl:=match keyX k.d with
 |some x=>if ks.all (kin x)/\ks.length<lim then .ok (.nx (env.set i (some (.tre (cT ks ds x d))))) else .stuck
 |none=>.stuck
def v3 (i:Nat)(fk:En->Res R)(env:En)(ks:List DK)(ds:List D)(r:R):Res Fl:=if r.d.flat then (fk env).bind (rJ i env ks ds r.d) else .stuck
def lj (i:Nat)(env:En)(ks:List DK)(ds:List D)(d:D)(k:R):Res Fl:=match keyX k.d with
 |some x=>if ks.all (kin x)/\ks.length<lim then .ok (.nx (env.set i (some (.pin (cT ks ds x d))))) else .stuck
 |none=>.stuck
def oN (i:Nat)(fk:En->Res R)(env:En)(ks:List DK)(ds:List D)(r:R):Res Fl:=if r.d.flat then (fk env).bind (lj i env ks ds r.d) else .stuck
def ir (i:Nat)(fk fv:En->Res R):En->Res Fl:=fun env=>match env[i]? with
 |some (some (.tre (.dic ks ds)))=>(fv env).bind (v3 i fk env ks ds)
 |some (some (.pin (.dic ks ds)))=>(fv env).bind (oN i fk env ks ds)
 |_=>.stuck
def zq (mk:D->Sl)(i:Nat)(env:En)(ks:List DK)(ds:List D)(d:D)(k:R):Res Fl:=match keyX k.d with
 |some x=>if ks.all (kin x)/\ks.length<lim then .ok (.nx (env.set i (some (mk (cT ks ds x d))))) else .stuck
 |none=>.stuck
def zr (mk:D->Sl)(i:Nat)(fk:En->Res R)(env:En)(ks:List DK)(ds:List D)(r:R):Res Fl:=if r.d.flat then (fk env).bind (zq mk i env ks ds r.d) else .stuck
theorem rK {i:Nat}{tk tv:TE}{fk fv:En->Res R}{g:Gd}{M:Addr->Prop}{ρ:Pr}{env:En}{σ:St}{H:Hp}{D:Ends}{ks:List DK}{ds:List L3.D}(mk:L3.D->Sl)(P0:Gd->V->Prop)(hmk:∀(g:Gd)(M T:Addr->Prop)(H:Hp)(v:V)(d:L3.D),SlOk g M T H v (mk d)↔Is H T d v/\P0 g v)(hmo':∀ d,(mk d).isO=true)
 (s1:Snd X.mg E tk fk) (s2:Snd X.mg E tv fv) (rep:Rep g M ρ env σ H) (hq:env[i]?=some (some (mk (.dic ks ds)))) (p:PostS X.mg E g M H D ((fv env).bind (zr mk i fk env ks ds))):sX (fS i) tk tv D σ H:=by
 have hi:i<env.length:=(List.getElem?_eq_some_iff.mp hq).1
 refine s2.oneS rep p fun r v M1 H1 e1 rep1 ro p1=>?_
 obtain⟨M1',x1,x1m,rep1',is1⟩:=ro.is rep1 e1 rep.same
 unfold zr at p1
 by_cases hf:r.d.flat=true
 ·rw[if_pos hf]at p1
  obtain⟨va,ev,ka⟩:=rep1'.slot i _ hq
  obtain⟨ka,hroot⟩:=(hmk g M1' (ρ i) H1 va (.dic ks ds)).mp ka
  obtain⟨a,vs,rfl,⟨dat,pa⟩,hall⟩:=ka
  refine⟨.ref a,ev,s1.oneS rep1' (PostS.frz ⟨x1m,fun _ _ q _=>q⟩ p1) fun rk y M2 H2 e2 rep2 rok p2=>?_⟩
  obtain⟨M2',x2,x2m,rep2',is2⟩:=rok.is rep2 e2 rep1'.same
  unfold zq at p2
  cases qk:keyX rk.d with
  |none=>rw[qk]at p2;exact p2.elim
  |some x=>
   rw[qk]at p2
   dsimp only at p2
   by_cases hc:ks.all (kin x)=true/\ks.length<lim
   ·rw[if_pos hc]at p2
    have dat2:DAt H2 a ks vs:=dat.keep fun o e=>e2.h _ _ e
    have hall2:IsAll H2 (ρ i) ds vs:=hall.same e2.h
    have hv2:Is H2 (ρ i) r.d v:=Is.flat hf (is1.same e2.h)
    have kd:Is H2 (ρ i) (.dic ks ds) (.ref a):=⟨a,vs,rfl,⟨dat2,pa⟩,hall2⟩
    have inner:IsAll H2 (fun b=>ρ i b/\b≠a) ds vs:=IsAll.avoid kd (by simp only[L3.D.sz];omega) hall2
    have hv3:Is H2 (fun b=>ρ i b/\b≠a) r.d v:=Is.flat hf hv2
    have nofz:∀ o u,H2 a≠some (.frz o u):=fun o u z=>by
     obtain⟨_,_,uo,q,qm⟩:=rep2'.priv i a pa
     rw[z]at q;cases q;exact qm
    obtain⟨uo,huo,hmo⟩:=dat2.mu nofz
    have rdn:∀ u,Rd H2 a u->H2 a=some u:=fun u z=>z.elim id fun⟨o,z⟩=>(nofz _ _ z).elim
    have nfx:∀ u,H2 a=some u->¬ fixd u:=fun u e z=>by
     rw[huo]at e;cases e
     cases uo<;>first|exact z|exact hmo
    have fin:∀(u':HO)(ks':List DK)(ds':List L3.D)(vs':List V),Ed u'->DAt (az H2 a u') a ks' vs'->cT ks ds x r.d=.dic ks' ds'->IsAll H2 (fun b=>ρ i b/\b≠a) ds' vs'->D.nx σ (az H2 a u'):=fun u' ks' ds' vs' hu' hd he hall'=>by
     rw[he]at p2
     have hall3:IsAll (az H2 a u') (ρ i) ds' vs':=hall'.mono (fun b u q z=>by
      rw[ag]
      ·exact q
      ·rintro rfl
       rcases z with z|z
       ·exact z.2 rfl
       ·exact nfx u q z) fun _ _ _ z=>z.1
     obtain⟨f1,rep3⟩:=rep2'.writeO (u':=u') hu' pa hi ev (sl:=mk (.dic ks' ds')) ((hmk g M2' (ρ i) _ _ _).mpr ⟨⟨a,vs',rfl,⟨hd,pa⟩,hall3⟩,hroot⟩) (hmo' _)
     exact p2 σ M2' ρ _ (Frz.trans ⟨x2m,fun _ _ q _=>q⟩ f1) rep3
    refine⟨a,?_⟩
    rcases is2.keyX qk with⟨k0,rfl,rfl⟩|⟨k0,b,rfl,rfl,hb⟩
    ·rcases dat2 with⟨kvs,e1,rfl,rfl⟩|⟨kvs,e1,rfl,rfl⟩
     ·obtain⟨ks',ds',g1,g2,g3⟩:=vZ Sum.inl (fun _ _ z=>Sum.inl.inj z) (k:=k0) inner hv3
      refine⟨_,rfl,.inl (DPut.k (rdn _ e1) (by have:=hc.2;rw[List.length_map]at this;exact k7 this)),fin _ ks' ds' _ True.intro (.inl ⟨_,.inl ai,g2,rfl⟩) g1 g3⟩
     ·cases kvs with
      |nil=>
       cases ds with
       |nil=>exact⟨_,rfl,.inr (.inl ⟨rdn _ e1,k0,rfl,rfl⟩),fin (.dK [(k0,v)]) [.inl k0] [r.d] [v] True.intro (.inl ⟨_,.inl ai,rfl,rfl⟩) rfl ⟨v,[],rfl,hv3,rfl⟩⟩
       |cons d0 ds0=>obtain⟨_,_,z,_⟩:=inner;cases z
      |cons q r0=>simp[kin]at hc
    ·rcases dat2 with⟨kvs,e1,rfl,rfl⟩|⟨kvs,e1,rfl,rfl⟩
     ·cases kvs with
      |nil=>
       cases ds with
       |nil=>exact⟨_,rfl,.inr (.inr ⟨rdn _ e1,b,k0,rfl,hb,rfl⟩),fin (.dT [(k0,v)]) [.inr k0] [r.d] [v] True.intro (.inr ⟨_,.inl ai,rfl,rfl⟩) rfl ⟨v,[],rfl,hv3,rfl⟩⟩
       |cons d0 ds0=>obtain⟨_,_,z,_⟩:=inner;cases z
      |cons q r0=>simp[kin]at hc
     ·obtain⟨ks',ds',g1,g2,g3⟩:=vZ Sum.inr (fun _ _ z=>Sum.inr.inj z) (k:=k0) inner hv3
      refine⟨_,rfl,.inl (DPut.t (rdn _ e1) hb (by have:=hc.2;rw[List.length_map]at this;exact k7 this)),fin _ ks' ds' _ True.intro (.inr ⟨_,.inl ai,g2,rfl⟩) g1 g3⟩
   ·rw[if_neg hc]at p2;exact p2.elim
 ·rw[if_neg hf]at p1;exact p1.elim
theorem oO {i:Nat}{o ki value:Expr}{fk fv:En->Res R}{pos pos':Pos}(hu:X.A.units+64<cLine)(ho:PE X o (fS i))(hk:PD X E ki fk)(hv:PD X E value fv)
 (hs:swapsWith value (some (.Subscript o ki pos')) pos.line X.env=pure false:=by rfl):jY X E (.Assign [.Subscript o ki pos'] value pos) (ir i fk fv):=by
 obtain⟨tk,p1,s1⟩:=hk
 obtain⟨tv,p2,s2⟩:=hv
 refine⟨_,qR (by omega) ho p1 p2 hs,fun g M ρ env σ H D rep p=>?_⟩
 unfold ir at p
 split at p
 ·rename_i ks ds hq
  exact rK .tre (fun _ _=>True) (fun _ _ _ _ _ _=>⟨fun z=>⟨z,True.intro⟩,fun z=>z.1⟩) (fun _=>rfl) s1 s2 rep hq p
 ·rename_i ks ds hq
  exact rK .pin (fun g v=>g.root=some v) (fun _ _ _ _ _ _=>Iff.rfl) (fun _=>rfl) s1 s2 rep hq p
 ·exact p.elim
end
end L3
namespace L3
open PySem PySem.Spec PyProof.Rows L2
section
variable {X:Cx}{E:XK}
def EB:R->R->Res R:=oI (fun _ j=>decide (0<=j)) fun i j=>.int (i / 2 ^ j.toNat)
def zt:R->R->Res R:=oI (fun _ _=>true) fun i j=>.int (Builtin.bitAnd i j)
theorem EC:mD X E (binaryOp .RShift) EB:=rp _ _ DN (fun i j h=>by simpa using h) fun _ _ _ _=>rfl
theorem BZ:mD X E (binaryOp .BitAnd) zt:=tO _ DO fun _ _ _ _=>rfl
end
end L3
namespace L3
open PySem PySem.Spec PyProof.Rows L2
def fE (i:Nat)(fk fv:En->Res R)(env:En):Option (Option Sl)->Res Fl
 |some (some (.tre (.dic _ _)))=>ir i fk fv env
 |some (some (.pin (.dic _ _)))=>ir i fk fv env
 |_=>jK i fk fv env
def rL (i:Nat)(fk fv:En->Res R):En->Res Fl:=fun env=>fE i fk fv env env[i]?
theorem ln {X:Cx}{E:XK}{i:Nat}{fk fv:En->Res R}{st:Stmt}(h1:jY X E st (jK i fk fv))(h2:jY X E st (ir i fk fv)):jY X E st (rL i fk fv):=by
 obtain⟨t1,p1,s1⟩:=h1
 obtain⟨t2,p2,s2⟩:=h2
 refine⟨fun D σ H=>t1 D σ H\/t2 D σ H,fun pins s σ H D I h=>h.elim (p1 pins s σ H D I) (p2 pins s σ H D I),fun g M ρ env σ H D rep p=>?_⟩
 unfold rL fE at p
 split at p
 ·exact .inr (s2 g M ρ env σ H D rep p)
 ·exact .inr (s2 g M ρ env σ H D rep p)
 ·exact .inl (s1 g M ρ env σ H D rep p)
end L3
namespace L3
open PySem PySem.Spec PyProof.Rows L2
def getD:List DK->List D->DK->Option D
 |k'::ks,d::ds,k=>if k'=k then some d else getD ks ds k
 |_,_,_=>none
def gO (ra rk:R):Res R:=match ra.d with
 | .dic ks ds=>match keyX rk.d with
  |some x=>if ks.all (kin x) then (match getD ks ds x with
   |some d=>.ok (mkV d ra.fr ra.al)
   |none=>.stuck) else .stuck
  |none=>.stuck
 |_=>.stuck
theorem ke {κ:Type}[DecidableEq κ](inj:κ->DK)(hi:∀ a b,inj a=inj b->a=b){H:Hp}{m:Addr->Prop}{k:κ}{d:D}:∀{kvs:List (κ×V)}{ds:List D},IsAll H m ds (kvs.map Prod.snd)->getD (kvs.map fun p=>inj p.1) ds (inj k)=some d->∃ v,fT kvs k=some v/\Is H m d v
 | [],ds,_,e=>by cases ds<;>cases e
 |p::r,[],h,e=>by cases h
 |p::r,d0::ds,h,e=>by
  obtain⟨v0,r0,z,i1,i2⟩:=h
  cases z
  rw[List.map_cons]at e
  unfold getD at e
  by_cases hk:p.1=k
  ·rw[if_pos (congrArg inj hk)]at e
   cases e
   exact⟨p.2,eI hk,i1⟩
  ·rw[if_neg (fun z=>hk (hi _ _ z))]at e
   obtain⟨v,e1,e2⟩:=ke inj hi i2 e
   exact⟨v,by rw[eJ hk];exact e1,e2⟩
section
variable {X:Cx}{E:XK}
theorem gA {o k:Expr}{fa fk:En->Res R}{pos:Pos}(hu:X.A.units+64<cLine)(ho:PD X E o fa)(hk:PD X E k fk)(hs:Bs k):PD X E (.Subscript o k pos) (v2 gO fa fk):=by
 obtain⟨ta,p1,s1⟩:=ho
 obtain⟨tk,p2,s2⟩:=hk
 refine⟨_,Bu (by omega) p1 p2 hs,fun g M ρ env σ H Q rep p=>s1.twoE s2 rep p fun ra rk x y M1 H1 rep1 i1 i2 q=>?_⟩
 unfold gO at q
 cases qa:ra.d with
 |dic ks ds=>
  rw[qa]at q i1
  dsimp only at q
  cases qk:keyX rk.d with
  |none=>rw[qk]at q;exact q.elim
  |some kx=>
   rw[qk]at q
   dsimp only at q
   by_cases hc:ks.all (kin kx)=true
   ·rw[if_pos hc]at q
    obtain⟨a,vs,rfl,⟨dat,_⟩,hall⟩:=i1
    cases qd:getD ks ds kx with
    |none=>rw[qd]at q;exact q.elim
    |some d=>
     rw[qd]at q
     refine⟨a,?_⟩
     rcases i2.keyX qk with⟨k0,rfl,rfl⟩|⟨k0,b,rfl,rfl,hb⟩
     ·rcases dat with⟨kvs,e1,rfl,rfl⟩|⟨kvs,e1,rfl,rfl⟩
      ·obtain⟨v,g1,g2⟩:=ke Sum.inl (fun _ _ z=>Sum.inl.inj z) hall qd
       exact⟨v,rfl,by rw[<- g1];exact .inl ⟨kvs,k0,e1,rfl,rfl⟩,q.val rep1 g2⟩
      ·cases kvs with
       |nil=>cases ds<;>cases qd
       |cons p r=>simp[kin]at hc
     ·rcases dat with⟨kvs,e1,rfl,rfl⟩|⟨kvs,e1,rfl,rfl⟩
      ·cases kvs with
       |nil=>cases ds<;>cases qd
       |cons p r=>simp[kin]at hc
      ·obtain⟨v,g1,g2⟩:=ke Sum.inr (fun _ _ z=>Sum.inr.inj z) hall qd
       exact⟨v,rfl,by rw[<- g1];exact .inr ⟨kvs,k0,b,e1,rfl,hb,rfl⟩,q.val rep1 g2⟩
   ·rw[if_neg hc]at q;exact q.elim
 |_=>rw[qa]at q;exact q.elim
def iu (i:Nat)(fb:En->Res R)(env:En):Option (Option Sl)->Res R
 |some (some (.tre (.dic _ _)))=>v2 gO (ad i) fb env
 |some (some (.val (.dic _ _) _))=>v2 gO (ad i) fb env
 |some (some (.pin (.dic _ _)))=>v2 gO (ad i) fb env
 |_=>k9 i fb env
def aN (i:Nat)(fb:En->Res R):En->Res R:=fun env=>iu i fb env env[i]?
theorem jl {e:Expr}{i:Nat}{fb:En->Res R}(h1:PD X E e (k9 i fb))(h2:PD X E e (v2 gO (ad i) fb)):PD X E e (aN i fb):=by
 obtain⟨t1,p1,s1⟩:=h1
 obtain⟨t2,p2,s2⟩:=h2
 refine⟨fun σ H Q=>t1 σ H Q\/t2 σ H Q,fun pins s σ H Q I h=>h.elim (p1 pins s σ H Q I) (p2 pins s σ H Q I),fun g M ρ env σ H Q rep p=>?_⟩
 unfold aN iu at p
 split at p
 ·exact .inr (s2 g M ρ env σ H Q rep p)
 ·exact .inr (s2 g M ρ env σ H Q rep p)
 ·exact .inr (s2 g M ρ env σ H Q rep p)
 ·exact .inl (s1 g M ρ env σ H Q rep p)
def ED (ra:R)(ks:List DK)(ds:List D)(rk rz:R):Res R:=match keyX rk.d with
 |some x=>if ks.all (kin x) then (match getD ks ds x with
  |some d=>.ok (mkV d ra.fr ra.al)
  |none=>.ok (mkV rz.d rz.fr rz.al)) else .stuck
 |none=>.stuck
def Fy (fx:En->Res R)(env:En)(ra:R)(ks:List DK)(ds:List D)(rk:R):Res R:=(fx env).bind (ED ra ks ds rk)
def C3 (fk fx:En->Res R)(env:En)(ra:R):Res R:=match ra.d with
 | .dic ks ds=>(fk env).bind (Fy fx env ra ks ds)
 |_=>.stuck
def rM (fa fk fx:En->Res R):En->Res R:=fun env=>(fa env).bind (C3 fk fx env)
theorem DAt.isD {H:Hp}{a:Addr}{ks:List DK}{vs:List V}(h:DAt H a ks vs):GK H a:=h.imp (fun⟨kvs,e,_⟩=>⟨kvs,e⟩) fun⟨kvs,e,_⟩=>⟨kvs,e⟩
theorem v4:∀{ks:List DK}{ds:List D}{k:DK},ks.length=ds.length->fD ks k=(getD ks ds k).isSome
 | [],ds,k,_=>by cases ds<;>rfl
 |k'::ks,[],k,h=>by cases h
 |k'::ks,d::ds,k,h=>by
  have ih:=v4 (ks:=ks) (ds:=ds) (k:=k) (by simpa using h)
  unfold fD getD
  unfold fD at ih
  rw[List.any_cons]
  by_cases e:k'=k
  ·rw[if_pos e,decide_eq_true e];rfl
  ·rw[if_neg e,decide_eq_false e,Bool.false_or];exact ih
theorem zu {H:Hp}{a:Addr}{ks:List DK}{vs:List V}{ds:List D}{m m':Addr->Prop}{d:D}{x:V}{k:DK}(h:DAt H a ks vs)(hall:IsAll H m ds vs)(hx:Is H m' d x)(e:L3.keyX d=some k)(hk:ks.all (kin k)=true) :
 ∃ o,kJ H a x o/\(match getD ks ds k with|some d=>∃ v,o=some v/\Is H m d v|none=>o=none):=by
 have key:∀{κ:Type} [DecidableEq κ] (inj:κ->DK) (hi:∀ a b,inj a=inj b->a=b) (kvs:List (κ×V)) (k0:κ),IsAll H m ds (kvs.map Prod.snd)->(match getD (kvs.map fun p=>inj p.1) ds (inj k0) with|some d=>∃ v,fT kvs k0=some v/\Is H m d v|none=>fT kvs k0=none):=by
  intro κ _ inj hi kvs k0 hl
  have bc:(kvs.map fun p=>inj p.1).length=ds.length:=by have:=hl.length;rw[List.length_map]at this ⊢;exact this
  have h1:=v4 (k:=inj k0) bc
  have h2:=li (kvs:=kvs) inj hi k0
  cases q:getD (kvs.map fun p=>inj p.1) ds (inj k0) with
  |some d=>exact ke inj hi hl q
  |none=>
   rw[q]at h1
   rw[h1]at h2
   cases z:fT kvs k0 with
   |none=>rfl
   |some v=>rw[z]at h2;cases h2
 rcases hx.keyX e with⟨k0,rfl,rfl⟩|⟨k0,b,rfl,rfl,hb⟩
 ·rcases h with⟨kvs,e1,rfl,rfl⟩|⟨kvs,e1,rfl,rfl⟩
  ·exact⟨_,.inl (.inl ⟨kvs,k0,e1,rfl,rfl⟩),key Sum.inl (fun _ _ z=>Sum.inl.inj z) kvs k0 hall⟩
  ·cases kvs with
   |nil=>exact⟨none,.inr (.inl ⟨e1,⟨k0,rfl⟩,rfl⟩),by cases ds<;>rfl⟩
   |cons p r=>simp[kin]at hk
 ·rcases h with⟨kvs,e1,rfl,rfl⟩|⟨kvs,e1,rfl,rfl⟩
  ·cases kvs with
   |nil=>exact⟨none,.inr (.inr ⟨e1,⟨b,k0,rfl,hb⟩,rfl⟩),by cases ds<;>rfl⟩
   |cons p r=>simp[kin]at hk
  ·exact⟨_,.inl (.inr ⟨kvs,k0,b,e1,rfl,hb,rfl⟩),key Sum.inr (fun _ _ z=>Sum.inr.inj z) kvs k0 hall⟩
theorem oP {o k x:Expr} {fa fk fx:En->Res R} {apos cpos:Pos} (hu:X.A.units+64<cLine) (ho:PD X E o fa) (hk:PD X E k fk) (hx:PD X E x fx) (m:M2 X o "get" apos k x cpos):PD X E (.Call (.Attribute o "get" apos) [k,x] [] cpos) (rM fa fk fx):=by
 obtain⟨ta,p1,s1⟩:=ho
 obtain⟨tk,p2,s2⟩:=hk
 obtain⟨tx,p3,s3⟩:=hx
 refine⟨_,wW (by omega) p1 p2 p3 m,fun g M ρ env σ H Q rep p=>s1.oneE rep p fun ra v M1 H1 e1 rep1 i1 q1=>?_⟩
 unfold C3 at q1
 cases qa:ra.d with
 |dic ks ds=>
  rw[qa]at q1 i1
  dsimp only at q1
  obtain⟨a,vs,rfl,⟨dat,ma⟩,hall⟩:=i1
  refine⟨a,rfl,dat.isD,s2.oneE rep1 q1 fun rk y M2 H2 e2 rep2 i2 q2=>?_⟩
  refine s3.oneE rep2 q2 fun rz z M3 H3 e3 rep3 i3 q3=>?_
  unfold ED at q3
  cases qk:keyX rk.d with
  |none=>rw[qk]at q3;exact q3.elim
  |some kx=>
   rw[qk]at q3
   dsimp only at q3
   by_cases hc:ks.all (kin kx)=true
   ·rw[if_pos hc]at q3
    have dat3:DAt H3 a ks vs:=dat.keep fun o e=>e3.h _ _ (e2.h _ _ e)
    have hall3:IsAll H3 (vmsk g M3 ra.fr ρ ra.al) ds vs:=(hall.ext e2).ext e3
    obtain⟨ov,g1,g2⟩:=zu dat3 hall3 (i2.ext e3) qk hc
    refine⟨ov,g1,?_⟩
    cases qd:getD ks ds kx with
    |some d=>
     rw[qd]at q3 g2
     obtain⟨v,rfl,iv⟩:=g2
     exact q3.val rep3 iv
    |none=>
     rw[qd]at q3 g2
     have g2:ov=none:=g2
     subst g2
     exact q3.val rep3 i3
   ·rw[if_neg hc]at q3;exact q3.elim
 |_=>rw[qa]at q1;exact q1.elim
end
end L3
namespace L3
open PySem PySem.Spec PyProof.Rows L2
def gP:List D->Option (List Int)
 | []=>some []
 | .int i::r=>(gP r).map (i::·)
 |_::_=>none
def EE:D->Option (List Int)
 | .tup ds=>gP ds
 |_=>none
def tupsI:List D->Option (List (List Int))
 | []=>some []
 |d::r=>match EE d,tupsI r with
  |some k,some ks=>some (k::ks)
  |_,_=>none
def rN (k:List Int):D:=.tup (k.map .int)
def mK (k:List Int):List (List Int)->List (List Int)
 | []=>[k]
 |h::t=>if k=h then h::t else if lexB k h then k::h::t else h::mK k t
def dA:List (List Int)->List (List Int)
 | []=>[]
 |k::ks=>mK k (dA ks)
def EF (r:R):Res R:=match r.d with
 | .lst ds=>match tupsI ds with
  |some ks=>if decide (ds.length<=63)&&ks.all (fun k=>!k.isEmpty) then .ok (.new ((dA ks).map rN) true) else .stuck
  |none=>.stuck
 |_=>.stuck
def Hr (f:En->Res R):En->Res R:=fun env=>(f env).bind EF
theorem oQ (k x:List Int):∀ l,x∈mK k l↔x=k\/x∈l
 | []=>by simp[mK]
 |h::t=>by
  unfold mK
  split
  ·rename_i e;subst e;simp
  ·split
   ·simp
   ·rw[List.mem_cons,oQ k x t,List.mem_cons]
    constructor
    ·rintro (z|z|z)
     ·exact .inr (.inl z)
     ·exact .inl z
     ·exact .inr (.inr z)
    ·rintro (z|z|z)
     ·exact .inr (.inl z)
     ·exact .inl z
     ·exact .inr (.inr z)
theorem zv (k:List Int):∀ l,l.Pairwise (fun x y=>lexB x y=true)->(mK k l).Pairwise (fun x y=>lexB x y=true)
 | [],_=>List.pairwise_singleton _ _
 |h::t,p=>by
  obtain⟨p1,p2⟩:=List.pairwise_cons.mp p
  unfold mK
  split
  ·exact p
  ·rename_i hne
   split
   ·rename_i hlt
    refine List.pairwise_cons.mpr ⟨fun y hy=>?_,p⟩
    rcases List.mem_cons.mp hy with rfl|hy
    ·exact hlt
    ·exact om _ _ _ hlt (p1 y hy)
   ·rename_i hlt
    refine List.pairwise_cons.mpr ⟨fun y hy=>?_,zv k t p2⟩
    rcases (oQ k y t).mp hy with rfl|hy
    ·exact(oo _ _ hne).resolve_left hlt
    ·exact p1 y hy
theorem gm (x:List Int):∀ ks,x∈dA ks↔x∈ks
 | []=>by simp[dA]
 |k::ks=>by unfold dA;rw[oQ,gm x ks,List.mem_cons]
theorem oR:∀ ks,(dA ks).Pairwise (fun x y=>lexB x y=true)
 | []=>List.Pairwise.nil
 |k::ks=>by unfold dA;exact zv k _ (oR ks)
theorem zw {a b:List Int}(h:lexB a b=true):lexB b a=false:=by
 cases q:lexB b a with
 |false=>rfl
 |true=>have:=om _ _ _ h q;rw[gx]at this;cases this
theorem lq:∀(a b:List (List Int)),a.Pairwise (fun x y=>lexB x y=true)->b.Pairwise (fun x y=>lexB x y=true)->(∀ x,x∈a↔x∈b)->a=b
 | [],[],_,_,_=>rfl
 | [],y::b,_,_,h=>by have:=(h y).mpr List.mem_cons_self;simp at this
 |x::a,[],_,_,h=>by have:=(h x).mp List.mem_cons_self;simp at this
 |x::a,y::b,pa,pb,h=>by
  obtain⟨a1,a2⟩:=List.pairwise_cons.mp pa
  obtain⟨b1,b2⟩:=List.pairwise_cons.mp pb
  have hxy:x=y:=by
   rcases List.mem_cons.mp ((h x).mp List.mem_cons_self) with e|e
   ·exact e
   ·rcases List.mem_cons.mp ((h y).mpr List.mem_cons_self) with e'|e'
    ·exact e'.symm
    ·have:=zw (a1 y e');rw[b1 x e]at this;cases this
  subst hxy
  rw[lq a b a2 b2 fun z=>?_]
  constructor
  ·intro hz
   rcases List.mem_cons.mp ((h z).mp (List.mem_cons_of_mem _ hz)) with e|e
   ·have:=a1 z hz;rw[e,gx]at this;cases this
   ·exact e
  ·intro hz
   rcases List.mem_cons.mp ((h z).mpr (List.mem_cons_of_mem _ hz)) with e|e
   ·have:=b1 z hz;rw[e,gx]at this;cases this
   ·exact e
section
variable {H:Hp}{m:Addr->Prop}
theorem IsAll.ints:∀{ds:List D}{vs:List V}{k:List Int},IsAll H m ds vs->gP ds=some k->vs=(iK k).map kV
 | [],_,_,h,e=>by cases h;cases e;rfl
 |d::ds,_,k,h,e=>by
  obtain⟨v,r,rfl,h1,h2⟩:=h
  cases d with
  |int i=>
   unfold gP at e
   obtain⟨k',e1,rfl⟩:=Option.map_eq_some_iff.mp e
   rw[IsAll.ints h2 e1,show v=V.int i from h1];rfl
  |_=>cases e
theorem lr:∀(k:List Int),IsAll H m (k.map .int) ((iK k).map kV)
 | []=>rfl
 |i::k=>⟨.int i,_,rfl,rfl,lr k⟩
theorem IsAll.tupsI:∀{ds:List D}{vs:List V}{ks:List (List Int)},IsAll H m ds vs->L3.tupsI ds=some ks->∃ its:List TItem,TupsIn H vs its/\its.map (·.1)=ks
 | [],_,_,h,e=>by cases h;cases e;exact⟨[],.nil,rfl⟩
 |d::ds,_,ks,h,e=>by
  obtain⟨v,r,rfl,h1,h2⟩:=h
  unfold L3.tupsI at e
  cases q:EE d with
  |none=>rw[q]at e;cases e
  |some k=>
   cases q2:L3.tupsI ds with
   |none=>rw[q,q2]at e;cases e
   |some ks'=>
    rw[q,q2]at e;cases e
    obtain⟨its,t1,t2⟩:=IsAll.tupsI h2 q2
    cases d with
    |tup es=>
     obtain⟨a,ws,rfl,g1,g2⟩:=h1
     have q:gP es=some k:=q
     rw[IsAll.ints g2 q]at g1
     exact⟨(k,a)::its,.cons ⟨rfl,g1⟩ t1,by rw[List.map_cons,t2]⟩
    |_=>cases q
end
theorem lu {H:Hp}:∀{vs:List V}{its:List TItem},TupsIn H vs its->vs.length=its.length
 |_,_,.nil=>rfl
 |_,_,.cons _ t=>by simp[lu t]
theorem nw {H:Hp}:∀{vs:List V}{its:List TItem},TupsIn H vs its->∀ x∈its,H x.2=some (.tup ((iK x.1).map kV))
 |_,_,.nil,x,hx=>nomatch hx
 |_,_,.cons q t,x,hx=>by
  rcases List.mem_cons.mp hx with rfl|hx
  ·exact q.2
  ·exact nw t x hx
theorem jM {H:Hp}{m:Addr->Prop}:∀{ys:List TItem},(∀ y∈ys,H y.2=some (.tup ((iK y.1).map kV)))->IsAll H m (ys.map (rN ∘ fun y=>y.1)) (ys.map fun y=>.ref y.2)
 | [],_=>rfl
 |y::ys,h=>⟨.ref y.2,_,rfl,⟨y.2,_,rfl,h y List.mem_cons_self,lr y.1⟩,jM fun z hz=>h z (List.mem_cons_of_mem _ hz)⟩
section
variable {X:Cx}{E:XK}
theorem oS {e:Expr}{f:En->Res R}{x1 x2:Str}{p1 p2 pos1 pos2:Pos}(hc:X.calm=true)(hu:X.A.units+64<cLine)(h:PD X E e f)
 (hg1:Gl X x1) (hm1:X.mg x1=none) (hv1:bootBuiltins x1=some (.builtin "sorted")) (hg2:Gl X x2) (hm2:X.mg x2=none) (hv2:bootBuiltins x2=some (.type "set"))
 (hn1:x1≠"__name__":=by decide) (hdb1:(x1==("__debug__" : Str))=false:=by decide) (hn2:x2≠"__name__":=by decide) (hdb2:(x2==("__debug__" : Str))=false:=by decide)
 (he2:starEach [e] X.env=(false,eval e X.env)::starEach [] X.env:=by rfl) (hpl2:(backTo pos2 (starEach [] X.env)).any (·.1)=false:=by rfl)
 (he1:starEach [.Call (.Name x2 p2) [e] [] pos2] X.env=(false,eval (.Call (.Name x2 p2) [e] [] pos2) X.env)::starEach [] X.env:=by rfl) (hpl1:(backTo pos1 (starEach [] X.env)).any (·.1)=false:=by rfl) :
 PD X E (.Call (.Name x1 p1) [.Call (.Name x2 p2) [e] [] pos2] [] pos1) (Hr f):=by
 obtain⟨t,p1,s1⟩:=h
 refine⟨_,kE (ou hc) hg1 hm1 hv1 (be (mT (xa hc hu) hg2 hm2 hv2 (be p1 di he2) hn2 hdb2 he2 hpl2) di he1) hn1 hdb1 he1 hpl1,fun g M ρ env σ H Q rep p=>?_⟩
 refine s1.oneE rep p fun r v M1 H1 e1 rep1 i1 q1=>?_
 unfold EF at q1
 cases qd:r.d with
 |lst ds=>
  rw[qd]at q1 i1
  dsimp only at q1
  cases qt:tupsI ds with
  |none=>rw[qt]at q1;exact q1.elim
  |some ks=>
   rw[qt]at q1
   dsimp only at q1
   by_cases hcond:(decide (ds.length<=63)&&ks.all (fun k=>!k.isEmpty))=true
   ·rw[if_pos hcond]at q1
    simp only[Bool.and_eq_true,decide_eq_true_eq,List.all_eq_true]at hcond
    obtain⟨hl,hne⟩:=hcond
    obtain⟨a,vs,rfl,h1,h2⟩:=i1.rd
    obtain⟨its,t1,t2⟩:=h2.tupsI qt
    have hvl:vs.length<=63:=by rw[h2.length];exact hl
    have tat:=nw t1
    refine⟨a,vs,its,rfl,h1,t1,hvl,fun b es hb v=>?_⟩
    refine⟨b,es,its,rfl,ai,v,fun x hx=>?_,fun x hx z=>?_,by rw[<- lu t1];exact hvl,fun l ys hl so=>?_⟩
    ·rw[ag (ak (tat x hx) hb)];exact tat x hx
    ·have:x.1∈ks:=by rw[<- t2];exact List.mem_map.mpr ⟨x,hx,rfl⟩
     have:=hne _ this
     rw[z]at this;simp at this
    ·have hlb:l≠b:=fun z=>by rw[z,ai]at hl;cases hl
     have hl1:H1 l=none:=by rw[ag hlb]at hl;exact hl
     have sm1:Same H1 (az H1 b (.ext fun h=>SetAt X.w h b es)):=aU hb
     have sm2:Same (az H1 b (.ext fun h=>SetAt X.w h b es)) (az (az H1 b (.ext fun h=>SetAt X.w h b es)) l (.lst (ys.map fun y=>.ref y.2))):=aU hl
     have sm:=sm1.trans sm2
     obtain⟨z0,zm,zo⟩:=rep1.free hl1
     refine q1 _ M1 _ ⟨fun _ z=>z,sm,fun _ z=>.inl z⟩ (rep1.grow sm) ⟨l,_,rfl,ai,zm,hl1,zo,?_⟩
     have ek:ys.map (·.1)=dA ks:=by
      refine lq _ _ ?_ (oR ks) fun k=>?_
      ·rw[List.pairwise_map];exact so.pw
      ·rw[gm,<- t2]
       constructor
       ·intro hk
        obtain⟨y,hy,rfl⟩:=List.mem_map.mp hk
        exact List.mem_map.mpr ⟨y,so.sub y hy,rfl⟩
       ·intro hk
        obtain⟨x,hx,rfl⟩:=List.mem_map.mp hk
        obtain⟨y,y1,y2⟩:=so.all x hx
        exact List.mem_map.mpr ⟨y,y1,y2⟩
     rw[<- ek,List.map_map]
     exact jM (fun x hx=>sm _ _ (tat x (so.sub x hx)))
   ·rw[if_neg hcond]at q1;exact q1.elim
 |_=>rw[qd]at q1;exact q1.elim
end
end L3
namespace L3
open PySem PySem.Spec PyProof.Rows L2
section
variable {H H':Hp}{m m':Addr->Prop}
mutual
theorem Is.view (hl:∀ a vs,H a=some (.lst vs)->H' a=some (.lst vs))(hf:∀ a o vs,H a=some (.frz o (.lst vs))->H' a=some (.frz o (.lst vs)))(ht:∀ a vs,H a=some (.tup vs)->H' a=some (.tup vs))(hd:∀ a u,dj u->Rd H a u->Rd H' a u)(mm:∀ a,m a->m' a):∀{d:D}{v:V},Is H m d v->Is H' m' d v
 | .non,_,h=>h
 | .bl _,_,h=>h
 | .int _,_,h=>h
 | .str _,_,h=>h
 | .tup ds,_,h=>by
  obtain⟨a,vs,e,h1,h2⟩:=h
  exact⟨a,vs,e,ht a _ h1,IsAll.view hl hf ht hd mm h2⟩
 | .lst ds,_,h=>by
  obtain⟨a,vs,e,h1,h2⟩:=h
  refine⟨a,vs,e,?_,IsAll.view hl hf ht hd mm h2⟩
  rcases h1 with⟨h1,h3⟩|⟨o,h1,h3⟩
  ·exact .inl ⟨hl a _ h1,mm a h3⟩
  ·exact .inr ⟨o,hf a o _ h1,mm a h3⟩
 | .dic ks ds,_,h=>by
  obtain⟨a,vs,e,h1,h2⟩:=h
  refine⟨a,vs,e,⟨?_,mm a h1.2⟩,IsAll.view hl hf ht hd mm h2⟩
  exact h1.1.imp (fun⟨kvs,e,r⟩=>⟨kvs,hd a _ True.intro e,r⟩) fun⟨kvs,e,r⟩=>⟨kvs,hd a _ True.intro e,r⟩
theorem IsAll.view (hl:∀ a vs,H a=some (.lst vs)->H' a=some (.lst vs))(hf:∀ a o vs,H a=some (.frz o (.lst vs))->H' a=some (.frz o (.lst vs)))(ht:∀ a vs,H a=some (.tup vs)->H' a=some (.tup vs))(hd:∀ a u,dj u->Rd H a u->Rd H' a u)(mm:∀ a,m a->m' a):∀{ds:List D}{vs:List V},IsAll H m ds vs->IsAll H' m' ds vs
 | [],_,h=>h
 |d::ds,_,h=>by
  obtain⟨v,r,e,h1,h2⟩:=h
  exact⟨v,r,e,Is.view hl hf ht hd mm h1,IsAll.view hl hf ht hd mm h2⟩
end
mutual
theorem IsSh.view (hl:∀ a vs,H a=some (.lst vs)->H' a=some (.lst vs))(ht:∀ a vs,H a=some (.tup vs)->H' a=some (.tup vs)):∀{d:D}{v:V},IsSh H m d v->IsSh H' m d v
 | .non,_,h=>h
 | .bl _,_,h=>h
 | .int _,_,h=>h
 | .str _,_,h=>h
 | .tup ds,_,h=>by
  obtain⟨a,vs,e,h1,h2⟩:=h
  exact⟨a,vs,e,ht a _ h1,IsShs.view hl ht h2⟩
 | .lst ds,_,h=>by
  obtain⟨a,vs,e,h1,h2⟩:=h
  exact⟨a,vs,e,hl a _ h1,h2⟩
 | .dic _ _,_,h=>h
theorem IsShs.view (hl:∀ a vs,H a=some (.lst vs)->H' a=some (.lst vs))(ht:∀ a vs,H a=some (.tup vs)->H' a=some (.tup vs)):∀{ds:List D}{vs:List V},IsShs H m ds vs->IsShs H' m ds vs
 | [],_,h=>h
 |d::ds,_,h=>by
  obtain⟨v,r,e,h1,h2⟩:=h
  exact⟨v,r,e,IsSh.view hl ht h1,IsShs.view hl ht h2⟩
end
end
section
variable {g:Gd}{M:Addr->Prop}{ρ:Pr}{env:En}{σ:St}{H:Hp}{d:Addr}{o:Obj}{u:HO}
open Classical in
noncomputable def cE (g:Gd)(d:Addr)(o:Obj)(u:HO):Gd:=⟨if g.H₀ d=none then g.H₀ else az g.H₀ d (.frz o u),g.Ma,fun a=>g.Z a\/a=d,g.root⟩
theorem iA {b:Addr}(hb:b≠d):(cE g d o u).H₀ b=g.H₀ b:=by
 unfold cE
 dsimp only
 split
 ·rfl
 ·exact ag hb
theorem bN (b:Addr):(cE g d o u).H₀ b=none↔g.H₀ b=none:=by
 by_cases hb:b=d
 ·subst hb
  unfold cE
  dsimp only
  split
  ·exact Iff.rfl
  ·rename_i h
   rw[ai]
   exact⟨fun z=>(by cases z),fun z=>(h z).elim⟩
 ·rw[iA hb]
theorem B0 (h:g.H₀ d≠none):(cE g d o u).H₀ d=some (.frz o u):=by
 unfold cE
 dsimp only
 rw[if_neg h,ai]
theorem nz (hu:dj u)(hd:H d=some u):(∀ a vs,H a=some (.lst vs)->a≠d)/\(∀ a o vs,H a=some (.frz o (.lst vs))->a≠d)/\∀ a vs,H a=some (.tup vs)->a≠d:=by
 refine⟨fun a vs e z=>?_,fun a o vs e z=>?_,fun a vs e z=>?_⟩<;>(subst z;rw[hd]at e;cases e;exact hu)
theorem msk_still {fr:Bool}{a:Addr}:msk (cE g d o u) M fr a↔msk g M fr a:=by
 unfold msk
 rw[bN]
theorem Rep.still (rep:Rep g M ρ env σ H)(hd:H d=some u)(hu:dj u)(hm:M d):Rep (cE g d o u) M ρ env σ (az H d (.frz o u)):=by
 obtain⟨k1,k2,k3⟩:=nz hu hd
 have vl:∀ a vs,H a=some (.lst vs)->az H d (.frz o u) a=some (.lst vs):=fun a vs e=>by rw[ag (k1 a vs e)];exact e
 have vf:∀ a o' vs,H a=some (.frz o' (.lst vs))->az H d (.frz o u) a=some (.frz o' (.lst vs)):=fun a o' vs e=>by rw[ag (k2 a o' vs e)];exact e
 have vt:∀ a vs,H a=some (.tup vs)->az H d (.frz o u) a=some (.tup vs):=fun a vs e=>by rw[ag (k3 a vs e)];exact e
 have vd:∀ a u',dj u'->Rd H a u'->Rd (az H d (.frz o u)) a u':=fun a u' hu' e=>by
  by_cases ha:a=d
  ·subst ha
   rcases e with e|⟨o',e⟩
   ·rw[hd]at e;cases e;exact .inr ⟨o,ai⟩
   ·rw[hd]at e;cases e;exact hu.elim
  ·exact g_ e fun o' q=>by rw[ag ha];exact q
 have pn:∀ i a,ρ i a->a≠d:=fun i a h z=>(rep.priv i a h).1 (z▸hm)
 refine⟨fun b x e=>?_,fun a ha=>?_,fun a ha=>(rep.inn a ha).imp (bN a).mpr id,fun a ha h0=>?_,fun i sl e=>?_,fun i a h=>?_,rep.apart,rep.ow,rep.len,fun a z=>?_⟩
 ·by_cases hb:b=d
  ·subst hb
   have hn:g.H₀ b≠none:=fun z=>by rw[(bN b).mpr z]at e;cases e
   rw[B0 hn]at e;cases e;exact ai
  ·rw[iA hb]at e
   rw[ag hb];exact rep.same b x e
 ·by_cases hb:a=d
  ·rw[hb,ai];simp
  ·rw[ag hb];exact rep.froz a ha
 ·by_cases hb:a=d
  ·rw[hb];exact .inr ⟨.inr rfl,o,u,ai⟩
  ·rcases rep.fl a ha ((bN a).mp h0) with q|⟨q,o',u',e⟩
   ·exact .inl (q.same fun o' e=>by rw[ag hb];exact e)
   ·exact .inr ⟨.inl q,o',u',by rw[ag hb];exact e⟩
 ·obtain⟨v,ev,k⟩:=rep.slot i sl e
  refine⟨v,ev,?_⟩
  cases sl with
  |val d' fr=>exact Is.view vl vf vt vd (fun a z=>msk_still.mpr z) k
  |own ds fr=>
   obtain⟨a,vs,rfl,h1,h2,h3⟩:=k
   exact⟨a,vs,rfl,vl _ _ h1,h2,IsAll.view vl vf vt vd (fun a z=>msk_still.mpr z) h3⟩
  |tre d'=>exact Is.view vl vf vt vd (fun a z=>z) k
  |pin d'=>exact⟨Is.view vl vf vt vd (fun a z=>z) k.1,k.2⟩
  |mes d'=>exact IsSh.view vl vt k
 ·obtain⟨q1,q2,q3⟩:=rep.priv i a h
  exact⟨q1,(bN a).mpr q2,q3.same fun o' e=>by rw[ag (pn i a h)];exact e⟩
 ·by_cases hb:a=d
  ·rw[hb,ai];simp
  ·rw[ag hb];exact rep.zz a (z.resolve_right hb)
theorem Rep.unstill (rep:Rep (cE g d o u) M ρ env σ H)(hd:H d=some (.frz o u))(hu:dj u)(hm:M d)(hx:∀ x,g.H₀ d=some x->x=u):Rep g M ρ env σ (az H d u):=by
 have n1:∀ a vs,H a=some (.lst vs)->a≠d:=fun a vs e z=>by subst z;rw[hd]at e;cases e
 have n2:∀ a o' vs,H a=some (.frz o' (.lst vs))->a≠d:=fun a o' vs e z=>by subst z;rw[hd]at e;cases e;exact hu
 have n3:∀ a vs,H a=some (.tup vs)->a≠d:=fun a vs e z=>by subst z;rw[hd]at e;cases e
 have vl:∀ a vs,H a=some (.lst vs)->az H d u a=some (.lst vs):=fun a vs e=>by rw[ag (n1 a vs e)];exact e
 have vf:∀ a o' vs,H a=some (.frz o' (.lst vs))->az H d u a=some (.frz o' (.lst vs)):=fun a o' vs e=>by rw[ag (n2 a o' vs e)];exact e
 have vt:∀ a vs,H a=some (.tup vs)->az H d u a=some (.tup vs):=fun a vs e=>by rw[ag (n3 a vs e)];exact e
 have vd:∀ a u',dj u'->Rd H a u'->Rd (az H d u) a u':=fun a u' hu' e=>by
  by_cases ha:a=d
  ·subst ha
   rcases e with e|⟨o',e⟩
   ·rw[hd]at e;cases e;exact hu'.elim
   ·rw[hd]at e;cases e;exact .inl ai
  ·exact g_ e fun o' q=>by rw[ag ha];exact q
 have muu:Mu (az H d u) d:=⟨u,ai,by cases u<;>first|exact True.intro|exact hu.elim⟩
 have pn:∀ i a,ρ i a->a≠d:=fun i a h z=>(rep.priv i a h).1 (z▸hm)
 refine⟨fun b x e=>?_,fun a ha=>?_,fun a ha=>(rep.inn a ha).imp (bN a).mp id,fun a ha h0=>?_,fun i sl e=>?_,fun i a h=>?_,rep.apart,rep.ow,rep.len,fun a z=>?_⟩
 ·by_cases hb:b=d
  ·subst hb
   rw[hx x e,ai]
  ·rw[ag hb]
   exact rep.same b x (by rw[iA hb];exact e)
 ·by_cases hb:a=d
  ·rw[hb];exact muu.some
  ·rw[ag hb];exact rep.froz a ha
 ·by_cases hb:a=d
  ·rw[hb];exact .inl muu
  ·rcases rep.fl a ha ((bN a).mpr h0) with q|⟨q,o',u',e⟩
   ·exact .inl (q.same fun o' e=>by rw[ag hb];exact e)
   ·exact .inr ⟨q.resolve_right hb,o',u',by rw[ag hb];exact e⟩
 ·obtain⟨v,ev,k⟩:=rep.slot i sl e
  refine⟨v,ev,?_⟩
  cases sl with
  |val d' fr=>exact Is.view vl vf vt vd (fun a z=>msk_still.mp z) k
  |own ds fr=>
   obtain⟨a,vs,rfl,h1,h2,h3⟩:=k
   exact⟨a,vs,rfl,vl _ _ h1,h2,IsAll.view vl vf vt vd (fun a z=>msk_still.mp z) h3⟩
  |tre d'=>exact Is.view vl vf vt vd (fun a z=>z) k
  |pin d'=>exact⟨Is.view vl vf vt vd (fun a z=>z) k.1,k.2⟩
  |mes d'=>exact IsSh.view vl vt k
 ·obtain⟨q1,q2,q3⟩:=rep.priv i a h
  exact⟨q1,(bN a).mp q2,q3.same fun o' e=>by rw[ag (pn i a h)];exact e⟩
 ·by_cases hb:a=d
  ·rw[hb];exact muu.some
  ·rw[ag hb];exact rep.zz a (.inl z)
end
def kD:Key->D
 | .inl i=>.int i
 | .inr x=>.str x
def gn:List DK->Option (List D)
 | []=>some []
 | .inl k::r=>(gn r).map (kD k::·)
 | .inr _::_=>none
def dL (asg:D->Bool->En->Option En)(body:En->Res Fl):List D->En->Res Fl
 | [],env=>.ok (.nx env)
 |x::xs,env=>match asg x true env with
  |none=>.stuck
  |some dO=>match body dO with
   | .ok (.nx aB)=>dL asg body xs aB
   | .ok (.ct aB)=>dL asg body xs aB
   | .ok (.bk aB)=>.ok (.nx aB)
   |_=>.stuck
def v5 (asg:D->Bool->En->Option En)(body:En->Res Fl)(env:En)(r:R):Res Fl:=match r.d with
 | .dic ks _=>match gn ks with
  |some xs=>dL asg body xs (frz env r.al)
  |none=>.stuck
 |_=>.stuck
def rO (f:En->Res R)(asg:D->Bool->En->Option En)(body:En->Res Fl):En->Res Fl:=fun env=>(f env).bind (v5 asg body env)
theorem iB:∀{kvs:List (Key×V)}{xs:List D},gn (kvs.map fun p=>.inl p.1)=some xs->xs=kvs.map fun p=>kD p.1
 | [],_,e=>by cases e;rfl
 |p::r,_,e=>by
  rw[List.map_cons]at e
  unfold gn at e
  obtain⟨y,e1,rfl⟩:=Option.map_eq_some_iff.mp e
  rw[iB e1];rfl
theorem v6 {H:Hp}{m:Addr->Prop}(k:Key):Is H m (kD k) (kV k):=by cases k<;>exact rfl
section
variable {X:Cx}{E:XK}{tg:Expr}
theorem zx {ix:List Nat}{l:Expr}{body:List Stmt}{f:En->Res R}{asg:D->Bool->En->Option En}{fb:En->Res Fl}{pos:Pos}(hp:PassesOwn (model X.prog X.w) X.A X.env X.xe)(hc:X.calm=true)
 (hl:PD X E l f) (hg:yW X ix tg asg) (hb:k_ X E body fb) (hs:∀ x,foldedSetIterable l X.env x=pure x:=by intro _;rfl):jY X E (.For tg l body [] pos) (rO f asg fb):=by
 obtain⟨tl,p1,s1⟩:=hl
 obtain⟨u,p2,s2⟩:=hg
 obtain⟨tb,p3,s3⟩:=hb
 refine⟨_,D0 (nX hp hc (vG p1) p2 p3 hs),fun g M ρ env σ H D rep p=>?_⟩
 refine s1.oneS rep p fun r v M0 H1 e1 rep0 ro p0=>?_
 obtain⟨M1,x1,x1m,rep1,is1⟩:=ro.is rep0 e1 rep.same
 obtain⟨M2,ρ2,x2,rep2,o2,_,_⟩:=Rep.frz r.al rep1
 have is2:Is H1 (msk g M2 r.fr) r.d v:=Is.frozen rep1 x2 o2 is1
 have p2':=PostS.frz (⟨fun a z=>x2 a (x1m a z),fun _ _ q _=>q⟩ : Frz M0 H1 M2 H1) p0
 clear p0 p
 unfold v5 at p2'
 cases qd:r.d with
 |dic ks ds=>
  rw[qd]at p2' is2
  dsimp only at p2'
  cases qk:gn ks with
  |none=>rw[qk]at p2';exact p2'.elim
  |some xs=>
   rw[qk]at p2'
   dsimp only at p2'
   obtain⟨d,vs,rfl,⟨dat,md⟩,_⟩:=is2
   have md:M2 d:=md.1
   have shape:∃ kvs u,(u=.dK kvs\/(u=.dT []/\kvs=[]))/\Rd H1 d u/\xs=kvs.map fun p=>kD p.1:=by
    rcases dat with⟨kvs,e,rfl,_⟩|⟨kvs,e,rfl,_⟩
    ·exact⟨kvs,_,.inl rfl,e,iB qk⟩
    ·cases kvs with
     |nil=>cases qk;exact⟨[],_,.inr ⟨rfl,rfl⟩,e,rfl⟩
     |cons p r=>cases qk
   obtain⟨kvs,u',hu',hrd,rfl⟩:=shape
   have dI:dj u':=by rcases hu' with rfl|⟨rfl,_⟩<;>exact True.intro
   have loop:∀(g':Gd)(o:Obj)(H2:Hp),Rep g' M2 ρ2 (frz env r.al) σ H2->H2 d=some (.frz o u')->
    (∀ aB,dL asg fb (kvs.map fun p=>kD p.1) (frz env r.al)=.ok (.nx aB)->∀ σ' M' ρ' H',Frz M2 H2 M' H'->Rep g' M' ρ' aB σ' H'->(unD X D).nx σ' H')->
    ∃ W:Nat->Nat->St->Hp->Prop,(∃ m,W 0 m σ H2)/\∀ i m σ H,W i m σ H->((CS d o u' kvs).stop i H/\(unD X D).nx σ H)\/((CS d o u' kvs).go i H/\∃ N:St->Hp->Prop,(∀ σ' H',N σ' H'->∃ m',m'<m/\W (i+1) m' σ' H')/\∀ x H',(CS d o u' kvs).yld i H x H'->u x σ H' fun σ2 H2=>tb { unD X D with nx:=N,ct:=N,bk:=(unD X D).nx } σ2 H2):=by
    intro g' o H2 repL hz fin
    have nst:dL asg fb (kvs.map fun p=>kD p.1) (frz env r.al)≠.stuck:=fun z=>by rw[z]at p2';exact p2'
    have shp:∀(ys:List L3.D)(en:En),dL asg fb ys en=.stuck\/∃ en',dL asg fb ys en=.ok (.nx en'):=by
     intro ys
     induction ys with
     |nil=>intro en;exact .inr ⟨en,rfl⟩
     |cons y ys ih=>
      intro en
      unfold dL
      cases asg y true en with
      |none=>exact .inl rfl
      |some e1=>
       dsimp only
       cases fb e1 with
       |stuck=>exact .inl rfl
       |exc c=>exact .inl rfl
       |ok fl=>
        cases fl with
        |nx e2=>exact ih e2
        |ct e2=>exact ih e2
        |bk e2=>exact .inr ⟨e2,rfl⟩
        |rt r=>exact .inl rfl
        |rm r e2=>exact .inl rfl
    obtain⟨envE,hE⟩:=(shp (kvs.map fun p=>kD p.1) (frz env r.al)).resolve_left nst
    refine⟨fun i m σ' H'=>m=kvs.length-i/\i<=kvs.length/\∃ M' ρ' aB,Rep g' M' ρ' aB σ' H'/\Frz M2 H2 M' H'/\dL asg fb ((kvs.drop i).map fun p=>kD p.1) aB=.ok (.nx envE),⟨_,rfl,Nat.zero_le _,M2,ρ2,_,repL,Frz.refl _ _,hE⟩,?_⟩
    rintro i m σ' H' ⟨rfl,hle,M',ρ',aB,rep',f',q'⟩
    have hd':H' d=some (.frz o u'):=f'.h d _ hz (.inl md)
    by_cases hlt:i<kvs.length
    ·have edrop:kvs.drop i=kvs[i]::kvs.drop (i+1):=List.drop_eq_getElem_cons hlt
     rw[edrop,List.map_cons]at q'
     unfold dL at q'
     cases qa:asg (kD kvs[i].1) true aB with
     |none=>simp only[qa]at q';cases q'
     |some dO=>
      simp only[qa]at q'
      refine .inr ⟨⟨hd',hlt⟩,fun σ'' H''=>∃ M'' ρ'' env'',Rep g' M'' ρ'' env'' σ'' H''/\Frz M2 H2 M'' H''/\dL asg fb ((kvs.drop (i+1)).map fun p=>kD p.1) env''=.ok (.nx envE),fun σ'' H'' z=>⟨kvs.length-(i+1),by omega,rfl,hlt,z⟩,fun x H'' y=>?_⟩
      obtain⟨rfl,k,v,ek,rfl⟩:=y
      have ek':kvs[i].1=k:=by
       have:kvs[i]?=some kvs[i]:=by simp[hlt]
       exact congrArg Prod.fst (Option.some.inj (this.symm.trans ek))
      rw[ek']at qa
      refine s2 g' M' ρ' aB dO σ' _ _ true (kV k) _ rep' (v6 k) qa fun σ1 ρ1 rep1' _ _=>?_
      refine s3 g' M' ρ1 dO σ1 _ _ rep1' ?_
      cases qb:fb dO with
      |stuck=>rw[qb]at q';cases q'
      |exc c=>rw[qb]at q';cases q'
      |ok fl=>
       rw[qb]at q'
       cases fl with
       |nx e3=>exact fun σ3 M3 ρ3 H3 f3 rep3=>⟨M3,ρ3,e3,rep3,f'.trans f3,q'⟩
       |ct e3=>exact fun σ3 M3 ρ3 H3 f3 rep3=>⟨M3,ρ3,e3,rep3,f'.trans f3,q'⟩
       |bk e3=>
        simp only[Res.ok.injEq,Fl.nx.injEq]at q'
        subst q'
        exact fun σ3 M3 ρ3 H3 f3 rep3=>fin _ hE σ3 M3 ρ3 H3 (f'.trans f3) rep3
       |rt r=>cases q'
       |rm r e2=>cases q'
    ·have e:i=kvs.length:=by omega
     subst e
     rw[List.drop_length]at q'
     simp only[List.map_nil]at q'
     unfold dL at q'
     simp only[Res.ok.injEq,Fl.nx.injEq]at q'
     subst q'
     exact .inl ⟨⟨hd',Nat.le_refl _⟩,fin _ hE σ' M' ρ' H' f' rep'⟩
   refine⟨d,kvs,u',rfl,hu',?_⟩
   rcases hrd with hrd|⟨o,hrd⟩
   ·right
    refine⟨hrd,fun o hnf=>loop (cE g d o u') o _ (rep2.still hrd dI md) ai fun aB hE σ' M' ρ' H' f' rep'=>?_⟩
    rw[hE]at p2'
    have hd':H' d=some (.frz o u'):=f'.h d _ ai (.inl md)
    have hx:∀ x,g.H₀ d=some x->x=u':=fun x e=>by
     have:=rep2.same d x e
     rw[hrd]at this;cases this;rfl
    have rep3:=rep'.unstill hd' dI (f'.m d md) hx
    refine .inr ⟨d,o,u',hd',dI,hnf,p2' σ' M' ρ' _ ⟨f'.m,fun a x e z=>?_⟩ rep3⟩
    by_cases ha:a=d
    ·subst ha
     rw[hrd]at e;cases e;exact ai
    ·rw[ag ha]
     exact f'.h a x (by rw[ag ha];exact e) z
   ·left
    refine⟨o,hrd,loop g o H1 rep2 hrd fun aB hE σ' M' ρ' H' f' rep'=>?_⟩
    rw[hE]at p2'
    exact .inl (p2' σ' M' ρ' H' f' rep')
 |_=>rw[qd]at p2';exact p2'.elim
end
end L3
namespace L3
open PySem PySem.Spec PyProof.Rows L2
def zy:List R->Res Src
 | [r]=>match r.d with
  | .lst ds=>.ok ⟨ds.reverse,r.fr,r.al⟩
  |_=>.stuck
 |_=>.stuck
def EG (fs:En->Res (List R)):En->Res Src:=fun env=>(fs env).bind zy
section
variable {X:Cx}{E:XK}{tg:Expr}
theorem zA {K:PySem.W.Frag}{a:Addr}{m:Addr->Prop}{H:Hp}{ds:List D}{vs:List V}(h:(H a=some (.lst vs)/\m a)\/∃ o,H a=some (.frz o (.lst vs))/\m a)(is:IsAll H m ds vs):Walk (Hd K a vs.length) m H ds.reverse:=by
 have st:∀ H',(∀ a o,H a=some o->(m a\/fixd o)->H' a=some o)->SqL K H' a vs:=fun H' k=>by
  rcases h with⟨h,hm⟩|⟨o,h,_⟩
  ·exact .inl (.inl (k a _ h (.inl hm)))
  ·exact .inl (.inr ⟨o,k a _ h (.inr True.intro)⟩)
 have hl:=is.length
 refine⟨fun H' i d k e=>?_,fun H' k=>by show vs.length<=ds.reverse.length;rw[List.length_reverse,hl];exact Nat.le_refl _⟩
 have hi:i<ds.length:=by have:=(List.getElem?_eq_some_iff.mp e).1;simpa using this
 rw[List.getElem?_reverse hi]at e
 obtain⟨v,ev,iv⟩:=(is.mono k fun _ _ _ z=>z:IsAll H' m ds vs).get e
 refine⟨⟨vs,st H' k,rfl,by omega⟩,fun x H'' y=>?_⟩
 obtain⟨rfl,y⟩:=y
 have:=y vs (st _ k)
 rw[hl,ev]at this;cases this
 exact⟨Same.refl _,iv⟩
theorem B1 {l:Expr} {fs:En->Res (List R)} {p pos:Pos} (hg:Gl X "reversed") (hm:X.mg "reversed"=none) (ha:xV X E [l] fs) (hs:starEach [l] X.env=[(false,eval l X.env)]:=by rfl):Er X E tg (.Call (.Name "reversed" p) [l] [] pos) (EG fs):=by
 obtain⟨t,p1,s1⟩:=ha
 refine⟨_,D6 hg hm p1 hs,fun g M ρ env σ H Rq rep p=>s1.one rep (P:=fun M H r=>PostI X.mg E g M ρ env σ H Rq r) p (fun _ _ z=>z) (fun _ _ _ z=>z) (fun _ _ _ _ _ e p=>p.ext e) fun rs vs M1 H1 e1 rep1 is q=>?_⟩
 match rs,is,q with
 | [r],is,q=>
  obtain⟨v,w,rfl,i1,i2⟩:=is
  cases i2
  have i1:Is H1 (vmsk g M1 (aR [r]) ρ (aY [r])) r.d v:=i1
  replace i1:=i1.weak fun _ z=>j_ z
  unfold zy at q
  dsimp only at q
  cases z:r.d with
  |lst ds=>
   rw[z]at i1 q
   obtain⟨a,ws,rfl,h1,h2⟩:=i1
   exact⟨a,ws,rfl,.inl (h1.imp (·.1) fun⟨o,z,_⟩=>⟨o,z⟩),q _ M1 H1 (Ext.refl _ _) rep1 (zA h1 h2)⟩
  |_=>rw[z]at q;exact q.elim
 | [],_,q=>exact q.elim
 |_::_::_,_,q=>exact q.elim
end
def zB:D->Option (Key×D)
 | .tup [k,v]=>(zi k).map fun k=>(k,v)
 |_=>none
def gp:List D->Option (List (Key×D))
 | []=>some []
 |d::ds=>match zB d,gp ds with
  |some p,some ps=>some (p::ps)
  |_,_=>none
def tV (t:List (Key×D))(k:Key)(d:D):List (Key×D):=if (t.any fun x=>decide (x.1=k))=true then t.map (fun x=>if x.1=k then (x.1,d) else x) else t++[(k,d)]
def iC (t ps:List (Key×D)):List (Key×D):=ps.foldl (fun t x=>tV t x.1 x.2) t
def B2 (t:List (Key×D)):D:=.dic (t.map fun p=>.inl p.1) (t.map Prod.snd)
def jm:List R->Res R
 | [r]=>match r.d with
  | .lst ds=>match gp ds with
   |some ps=>if D.flats ((iC [] ps).map Prod.snd) then .ok (.fre (B2 (iC [] ps))) else .stuck
   |none=>zn [r]
  |_=>.stuck
 |_=>.stuck
section
variable {H:Hp}{m:Addr->Prop}
def REK (H:Hp)(m:Addr->Prop):List (Key×V)->List (Key×D)->Prop:=Paired fun a b=>a.1=b.1/\Is H m b.2 a.2
theorem REK.fst {a:List (Key×V)}{b:List (Key×D)}(r:REK H m a b):a.map Prod.fst=b.map Prod.fst:=by
 induction r with
 |nil=>rfl
 |cons h _ ih=>rw[List.map_cons,List.map_cons,ih,h.1]
theorem REK.snd {a:List (Key×V)}{b:List (Key×D)}(r:REK H m a b):IsAll H m (b.map Prod.snd) (a.map Prod.snd):=by
 induction r with
 |nil=>rfl
 |cons h _ ih=>exact⟨_,_,rfl,h.2,ih⟩
theorem REK.of:∀{a:List (Key×V)}{b:List (Key×D)},a.map Prod.fst=b.map Prod.fst->IsAll H m (b.map Prod.snd) (a.map Prod.snd)->REK H m a b
 | [],[],_,_=>.nil
 | [],_::_,e,_=>by cases e
 |_::_,[],e,_=>by cases e
 |p::a,q::b,e,h=>by
  obtain⟨v,r,z,h1,h2⟩:=h
  cases z
  simp only[List.map_cons,List.cons.injEq]at e
  exact .cons ⟨e.1,h1⟩ (REK.of e.2 h2)
theorem REK.append {a c:List (Key×V)}{b d:List (Key×D)}(r:REK H m a b)(s:REK H m c d):REK H m (a++c) (b++d):=by
 induction r with
 |nil=>exact s
 |cons h _ ih=>exact .cons h ih
theorem REK.any {a:List (Key×V)}{b:List (Key×D)}(r:REK H m a b)(k:Key):(a.any fun x=>decide (x.1=k))=(b.any fun x=>decide (x.1=k)):=by
 induction r with
 |nil=>rfl
 |cons h _ ih=>rw[List.any_cons,List.any_cons,ih,h.1]
theorem REK.repl {a:List (Key×V)}{b:List (Key×D)}{k:Key}{v:V}{d:D}(r:REK H m a b)(h:Is H m d v):REK H m (a.map fun x=>if x.1=k then (x.1,v) else x) (b.map fun x=>if x.1=k then (x.1,d) else x):=by
 induction r with
 |nil=>exact .nil
 | @cons p q ps qs hq t ih=>
  refine .cons ?_ ih
  dsimp only
  by_cases e:p.1=k
  ·rw[if_pos e,if_pos (hq.1▸e)];exact⟨hq.1,h⟩
  ·rw[if_neg e,if_neg (fun z=>e (hq.1.trans z))];exact hq
theorem REK.put {a:List (Key×V)}{b:List (Key×D)}{k:Key}{v:V}{d:D}(r:REK H m a b)(h:Is H m d v):REK H m (bu a k v) (tV b k d):=by
 unfold bu tV
 rw[r.any k]
 split
 ·exact r.repl h
 ·exact r.append (.cons ⟨rfl,h⟩ .nil)
theorem REK.merge {a c:List (Key×V)}{b d:List (Key×D)}(r:REK H m a b)(s:REK H m c d):REK H m (d6 a c) (iC b d):=by
 induction s generalizing a b with
 |nil=>exact r
 | @cons p q ps qs hq t ih=>
  have:=ih (r.put (k:=p.1) hq.2)
  show REK H m (d6 (bu a p.1 p.2) ps) (iC (tV b q.1 q.2) qs)
  rw[<- hq.1]
  exact this
theorem nB:∀{ds:List D}{vs:List V}{ps:List (Key×D)},IsAll H m ds vs->gp ds=some ps->∃ kvs,oa H vs kvs/\REK H m kvs ps
 | [],_,_,h,e=>by cases h;cases e;exact⟨[],.nil,.nil⟩
 |d::ds,_,ps,h,e=>by
  obtain⟨v,r,rfl,h1,h2⟩:=h
  unfold gp at e
  cases q:zB d with
  |none=>rw[q]at e;cases e
  |some p=>
   cases q2:gp ds with
   |none=>rw[q,q2]at e;cases e
   |some ps'=>
    rw[q,q2]at e;cases e
    obtain⟨kvs,k1,k2⟩:=nB h2 q2
    unfold zB at q
    split at q
    ·rename_i kd vd
     obtain⟨a,vs2,rfl,g1,g2⟩:=h1
     obtain⟨y1,r1,rfl,i1,y2,r2,rfl,i2,i3⟩:=g2
     cases i3
     cases q3:zi kd with
     |none=>rw[q3]at q;cases q
     |some kk=>
      rw[q3]at q;cases q
      have:=i1.key q3
      subst this
      exact⟨(kk,y2)::kvs,.cons ⟨a,rfl,g1⟩ k1,.cons ⟨rfl,i2⟩ k2⟩
    ·cases q
theorem B3 {b:Addr}{u:HO}{kvs:List (Key×V)}{t:List (Key×D)}(e:H b=some (.dK kvs))(r:REK H m kvs t)(hb:m b):Is H m (B2 t) (.ref b):=by
 refine⟨b,_,rfl,⟨.inl ⟨kvs,.inl e,?_,rfl⟩,hb⟩,r.snd⟩
 have:=congrArg (List.map fun k:Key=>(Sum.inl k:DK)) r.fst
 rw[List.map_map,List.map_map]at this
 exact this.symm
theorem REK.flat {m':Addr->Prop}{a:List (Key×V)}{b:List (Key×D)}(hf:D.flats (b.map Prod.snd)=true)(r:REK H m a b):REK H m' a b:=REK.of r.fst (IsAll.flat hf r.snd)
theorem REK.same {H':Hp}(s:Same H H'){a:List (Key×V)}{b:List (Key×D)}(r:REK H m a b):REK H' m a b:=REK.of r.fst (IsAll.same s r.snd)
end
section
variable {X:Cx}{E:XK}
theorem zC (hc:X.calm=true) (hu:X.A.units+64<cLine):fL X E (.type "dict") jm:=by
 obtain⟨r0,c0,s0⟩:=BX (X:=X) (E:=E) hc hu
 refine⟨fun xs H Q=>(∃ l vs kvs,xs=[.ref l]/\Rd H l (.lst vs)/\oa H vs kvs/\∀ p,H p=none->Q (.ref p) (az H p (.dK (d6 [] kvs))))\/r0 xs H Q,fun pins s σ H xs us Q I r h=>h.elim (sY hc pins s σ H xs us Q I r) (c0 pins s σ H xs us Q I r),fun g M ρ env σ H Q rs vs rep i p=>?_⟩
 match rs,i,p with
 | [r],i,p=>
  unfold jm at p
  dsimp only at p
  cases q:r.d with
  |lst ds=>
   rw[q]at p
   dsimp only at p
   cases q2:gp ds with
   |none=>rw[q2]at p;exact .inr (s0 g M ρ env σ H Q [r] vs rep i p)
   |some ps=>
    rw[q2]at p
    dsimp only at p
    left
    obtain⟨v,w,rfl,i1,i2⟩:=i
    cases i2
    have i1:Is H (vmsk g M (aR [r]) ρ (aY [r])) r.d v:=i1
    rw[q]at i1
    obtain⟨a,ws,rfl,h1,h2⟩:=i1.rd
    obtain⟨kvs,k1,k2⟩:=nB h2 q2
    refine⟨a,ws,kvs,rfl,h1,k1,fun b hb=>?_⟩
    have rk:REK H _ (d6 [] kvs) (iC [] ps):=REK.merge .nil k2
    have s:Same H (az H b (.dK (d6 [] kvs))):=aU hb
    by_cases hf:D.flats ((iC [] ps).map Prod.snd)=true
    ·rw[if_pos hf]at p
     exact p _ M _ ⟨fun _ z=>z,s,fun _ z=>.inl z⟩ (rep.grow s) (oM rep hb (B3 (u:=.dK []) ai ((rk.flat hf).same s) rfl) ⟨_,ai,True.intro⟩)
    ·rw[if_neg hf]at p;exact p.elim
  |_=>rw[q]at p;exact p.elim
 | [],_,p=>exact p.elim
 |_::_::_,_,p=>exact p.elim
end
end L3
namespace L3
open PySem PySem.Spec PyProof.Rows L2
section
variable {X:Cx}{E:XK}
end
end L3
namespace L3
open PySem PySem.Spec PyProof.Rows L2
abbrev Tri:=Int×Int×Int
def dd (l:List Int)(x:Int):List Int:=if x∈l then l else l++[x]
def aF (xs:List Int):List Int:=xs.foldl dd []
def g1 (ts:List Tri):List Int:=aF (ts.map (·.1))
def g2 (ts:List Tri)(x:Int):List Int:=aF ((ts.filter fun t=>decide (t.1=x)).map (·.2.1))
def g3 (ts:List Tri)(x y:Int):List Int:=(ts.filter fun t=>decide (t.1=x)&&decide (t.2.1=y)).map (·.2.2)
def ik (i:Int):DK:=.inl (.inl i)
theorem jn (xs:List Int)(x:Int):aF (xs++[x])=dd (aF xs) x:=by unfold aF;rw[List.foldl_append];rfl
theorem cU (l:List Int)(x y:Int):y∈dd l x↔y∈l\/y=x:=by
 unfold dd
 split
 ·rename_i h
  exact⟨.inl,fun z=>z.elim id fun e=>e▸h⟩
 ·simp
theorem c5 (ts:List Tri)(x y z:Int):g1 (ts++[(x,y,z)])=dd (g1 ts) x:=by
 unfold g1;rw[List.map_append];exact jn _ _
theorem cr (ts:List Tri)(x y z u:Int):g2 (ts++[(x,y,z)]) u=if x=u then dd (g2 ts u) y else g2 ts u:=by
 unfold g2
 rw[List.filter_append,List.map_append]
 by_cases h:x=u
 ·rw[if_pos h]
  have:([(x,y,z)]:List Tri).filter (fun t=>decide (t.1=u))=[(x,y,z)]:=by simp[h]
  rw[this];exact jn _ _
 ·rw[if_neg h]
  have:([(x,y,z)]:List Tri).filter (fun t=>decide (t.1=u))=[]:=by simp[h]
  rw[this];simp
theorem oT (ts:List Tri)(x y z u v:Int):g3 (ts++[(x,y,z)]) u v=if x=u/\y=v then g3 ts u v++[z] else g3 ts u v:=by
 unfold g3
 rw[List.filter_append,List.map_append]
 by_cases h:x=u/\y=v
 ·rw[if_pos h]
  have:([(x,y,z)]:List Tri).filter (fun t=>decide (t.1=u)&&decide (t.2.1=v))=[(x,y,z)]:=by simp[h.1,h.2]
  rw[this];rfl
 ·rw[if_neg h]
  have:([(x,y,z)]:List Tri).filter (fun t=>decide (t.1=u)&&decide (t.2.1=v))=[]:=by
   rw[List.filter_cons,if_neg,List.filter_nil]
   simpa using h
  rw[this];simp
theorem iD (y:Int):∀(xs:List Int)(l:List Int),y∈xs.foldl dd l↔y∈l\/y∈xs
 | [],l=>by simp
 |x::xs,l=>by
  rw[List.foldl_cons,iD y xs,cU,List.mem_cons,or_assoc]
theorem tW (ts:List Tri)(x:Int):x∈g1 ts↔∃ t∈ts,t.1=x:=by
 unfold g1 aF;rw[iD];simp
theorem jo (ts:List Tri)(x y:Int):y∈g2 ts x↔∃ t∈ts,t.1=x/\t.2.1=y:=by
 unfold g2 aF;rw[iD,List.mem_map]
 constructor
 ·rintro (h|⟨t,h1,h2⟩)
  ·simp at h
  ·rw[List.mem_filter]at h1
   exact⟨t,h1.1,by simpa using h1.2,h2⟩
 ·rintro⟨t,h1,h2,h3⟩
  exact .inr ⟨t,List.mem_filter.mpr ⟨h1,by simpa using h2⟩,h3⟩
theorem oU {ts:List Tri}{x:Int}(h:x∉g1 ts):g2 ts x=[]:=by
 rw[List.eq_nil_iff_forall_not_mem]
 intro y hy
 obtain⟨t,h1,h2,_⟩:=(jo ts x y).mp hy
 exact h ((tW ts x).mpr ⟨t,h1,h2⟩)
theorem v7 {ts:List Tri}{x y:Int}(h:y∉g2 ts x):g3 ts x y=[]:=by
 unfold g3
 rw[List.map_eq_nil_iff,List.filter_eq_nil_iff]
 intro t ht z
 simp only[Bool.and_eq_true,decide_eq_true_eq]at z
 exact h ((jo ts x y).mpr ⟨t,ht,z.1,z.2⟩)
theorem EH (l:List Int)(x:Int):(dd l x).length<=l.length+1:=by unfold dd;split<;>simp
theorem iE:∀(xs l:List Int),(xs.foldl dd l).length<=l.length+xs.length
 | [],l=>by simp
 |x::xs,l=>by
  rw[List.foldl_cons]
  have:=iE xs (dd l x)
  have h2:=EH l x
  simp only[List.length_cons];omega
theorem EI (ts:List Tri):(g1 ts).length<=ts.length:=by unfold g1 aF;have:=iE (ts.map (·.1)) [];simpa using this
theorem EJ (ts:List Tri)(x:Int):(g2 ts x).length<=ts.length:=by
 unfold g2 aF
 have:=iE ((ts.filter fun t=>decide (t.1=x)).map (·.2.1)) []
 have h2:=List.length_filter_le (fun t:Tri=>decide (t.1=x)) ts
 simp at this ⊢;omega
theorem lw (ts:List Tri)(x y:Int):(g3 ts x y).length<=ts.length:=by
 unfold g3;rw[List.length_map];exact List.length_filter_le _ _
def kvI (l:List Int)(A:Int->Addr):List (Key×V):=l.map fun x=>(.inl x,.ref (A x))
theorem kg (l:List Int)(A:Int->Addr)(x:Int):fT (kvI l A) (.inl x)=if x∈l then some (.ref (A x)) else none:=by
 induction l with
 |nil=>rfl
 |cons y l ih=>
  unfold kvI at ih ⊢
  rw[List.map_cons]
  by_cases h:y=x
  ·rw[eI (by rw[h]),if_pos (by rw[h];exact List.mem_cons_self),h]
  ·rw[eJ (by intro z;exact h (Sum.inl.inj z)),ih]
   by_cases hx:x∈l
   ·rw[if_pos hx,if_pos (List.mem_cons_of_mem _ hx)]
   ·rw[if_neg hx,if_neg]
    intro z
    rcases List.mem_cons.mp z with z|z
    ·exact h z.symm
    ·exact hx z
theorem v8 {l:List Int}{A:Int->Addr}{x:Int}{b:Addr}(h:x∉l):bu (kvI l A) (.inl x) (.ref b)=kvI (l++[x]) (fun u=>if u=x then b else A u):=by
 have e:kvI l (fun u=>if u=x then b else A u)=kvI l A:=by
  unfold kvI
  refine List.map_congr_left fun u hu=>?_
  show(_:Key×V)=_
  dsimp only
  rw[if_neg (show ¬ u=x from fun z=>h (by rw[<- z];exact hu))]
 unfold bu
 rw[if_neg]
 ·show _=kvI (l++[x]) _
  unfold kvI at e ⊢
  rw[List.map_append,e]
  simp
 ·intro z
  obtain⟨p,hp,hq⟩:=List.any_eq_true.mp z
  obtain⟨u,hu,rfl⟩:=List.mem_map.mp hp
  have:(Sum.inl u:Key)=.inl x:=of_decide_eq_true hq
  exact h (Sum.inl.inj this▸hu)
def sH (a:Addr)(ts:List Tri)(A:Int->Addr)(B:Int->Int->Addr)(b:Addr):Prop:=b=a\/(∃ x∈g1 ts,b=A x)\/∃ x y,y∈g2 ts x/\b=B x y
theorem Gh {ts:List Tri}{x y:Int}(h:y∈g2 ts x):x∈g1 ts:=by
 obtain⟨t,h1,h2,_⟩:=(jo ts x y).mp h
 exact(tW ts x).mpr ⟨t,h1,h2⟩
section
variable {H:Hp}{a:Addr}{ts:List Tri}{A:Int->Addr}{B:Int->Int->Addr}{x y z:Int}
end
theorem gB {H:Hp}{m:Addr->Prop}{F:Int->D}{G:Int->V}:∀{l:List Int},(∀ x∈l,Is H m (F x) (G x))->IsAll H m (l.map F) (l.map G)
 | [],_=>rfl
 |x::l,h=>⟨_,_,rfl,h x List.mem_cons_self,gB fun y hy=>h y (List.mem_cons_of_mem _ hy)⟩
end L3
namespace L3
open PySem PySem.Spec PyProof.Rows L2
def B4:D->Option Tri
 | .tup [.int x,.int y,.int z]=>some (x,y,z)
 |_=>none
def eS:List D->Option (List Tri)
 | []=>some []
 |d::r=>match B4 d,eS r with
  |some t,some ts=>some (t::ts)
  |_,_=>none
end L3
namespace L3
open PySem PySem.Spec PyProof.Rows L2
theorem nC:∀{ds:List D}{ts:List Tri},eS ds=some ts->ds.length=ts.length
 | [],_,e=>by cases e;rfl
 |d::ds,ts,e=>by
  unfold eS at e
  cases q:B4 d with
  |none=>rw[q]at e;cases e
  |some t=>
   cases q2:eS ds with
   |none=>rw[q,q2]at e;cases e
   |some ts'=>rw[q,q2]at e;cases e;simp[nC q2]
theorem rP {H:Hp}{m:Addr->Prop}:∀{ds:List D}{vs:List V}{ts:List Tri}{j:Nat}{v:V},IsAll H m ds vs->eS ds=some ts->vs[j]?=some v->∃ x y z p,ts[j]?=some (x,y,z)/\v=.ref p/\H p=some (.tup [.int x,.int y,.int z])
 | [],_,_,_,_,h,_,ev=>by cases h;simp at ev
 |d::ds,_,ts,j,v,h,e,ev=>by
  obtain⟨w,r,rfl,h1,h2⟩:=h
  unfold eS at e
  cases q:B4 d with
  |none=>rw[q]at e;cases e
  |some t=>
   cases q2:eS ds with
   |none=>rw[q,q2]at e;cases e
   |some ts'=>
    rw[q,q2]at e;cases e
    cases j with
    |zero=>
     simp at ev;subst ev
     unfold B4 at q
     split at q
     ·rename_i x y z
      cases q
      obtain⟨p,us,rfl,g1,w1,r1,rfl,i1,w2,r2,rfl,i2,w3,r3,rfl,i3,i4⟩:=h1
      cases i1;cases i2;cases i3;cases i4
      exact⟨x,y,z,p,rfl,rfl,g1⟩
     ·cases q
    |succ j=>exact rP (j:=j) h2 q2 (by simpa using ev)
section
variable {X:Cx}{E:XK}{tg:Expr}
end
end L3
namespace L3
open PySem PySem.Spec PyProof.Rows L2
def zD:Res R->Bool
 | .ok (.val (.dic _ _) _ _)=>true
 | .ok (.fre (.dic _ _))=>true
 |_=>false
def lz (f:En->Res R)(asg:D->Bool->En->Option En)(fb:En->Res Fl):En->Res Fl:=fun env=>if zD (f env) then rO f asg fb env else gJ (gc f) asg fb env
theorem zE {X:Cx}{E:XK}{st:Stmt}{f:En->Res R}{asg:D->Bool->En->Option En}{fb:En->Res Fl}(h1:jY X E st (gJ (gc f) asg fb))(h2:jY X E st (rO f asg fb)):jY X E st (lz f asg fb):=by
 obtain⟨t1,p1,s1⟩:=h1
 obtain⟨t2,p2,s2⟩:=h2
 refine⟨fun D σ H=>t1 D σ H\/t2 D σ H,fun pins s σ H D I h=>h.elim (p1 pins s σ H D I) (p2 pins s σ H D I),fun g M ρ env σ H D rep p=>?_⟩
 unfold lz at p
 split at p
 ·exact .inr (s2 g M ρ env σ H D rep p)
 ·exact .inl (s1 g M ρ env σ H D rep p)
end L3
namespace L3
open PySem PySem.Spec PyProof.Rows L2
section
variable {X:Cx}
def HJ (X:Cx)(Q:VK):VK:=fun v H=>Q v H\/∃ d o u,H d=some (.frz o u)/\dj u/\(∀ o v,X.H₀ d≠some (.frz o v))/\Q v (az H d u)
theorem EK {e:Expr}{t:TE}(h:PE X e t):PE X e (fun σ H Q=>t σ H (HJ X Q)):=by
 intro pins s σ H Q I q
 refine bS (h pins s σ H _ I q) fun v s' r=>?_
 obtain⟨x,H',I',rv,r⟩:=r
 rcases r with r|⟨d,o,u,e,hu,hn,r⟩
 ·exact⟨x,H',I',rv,r⟩
 ·exact⟨x,_,I'.unfrz e hu hn,rv,r⟩
def Hs (X:Cx)(D:Ends):Ends where
 nx:=fun σ H=>D.nx σ H\/∃ d o u,H d=some (.frz o u)/\dj u/\(∀ o v,X.H₀ d≠some (.frz o v))/\D.nx σ (az H d u)
 rt:=HJ X D.rt
 bk:=D.bk
 ct:=D.ct
theorem EL {st:Stmt}{t:TS}(h:PS X st t):PS X st (fun D σ H=>t (Hs X D) σ H):=by
 intro pins s σ H D I q
 refine bS (h pins s σ H _ I q) fun f s' r=>?_
 cases f with
 |next=>
  obtain⟨σ',H',I',r⟩:=r
  rcases r with r|⟨d,o,u,e,hu,hn,r⟩
  ·exact⟨σ',H',I',r⟩
  ·exact⟨σ',_,I'.unfrz e hu hn,r⟩
 |ret v=>
  obtain⟨x,σ',H',I',rv,r⟩:=r
  rcases r with r|⟨d,o,u,e,hu,hn,r⟩
  ·exact⟨x,σ',H',I',rv,r⟩
  ·exact⟨x,σ',_,I'.unfrz e hu hn,rv,r⟩
 |brk=>exact r
 |cont=>exact r
end
section
variable {g:Gd}{M M2 M':Addr->Prop}{ρ:Pr}{env:En}{σ:St}{H H1 H':Hp}{d:Addr}{o:Obj}{u:HO}{m m':Addr->Prop}
theorem Is.thaw {x:D}{v:V}(hd:H d=some (.frz o u))(hu:dj u)(mm:∀ a,m a->m' a)(h:Is H m x v):Is (az H d u) m' x v:=by
 refine Is.view (fun a vs e=>?_) (fun a o' vs e=>?_) (fun a vs e=>?_) (fun a u' hu' e=>?_) mm h
 ·rw[ag (fun z=>by subst z;rw[hd]at e;cases e)];exact e
 ·rw[ag (fun z=>by subst z;rw[hd]at e;cases e;exact hu)];exact e
 ·rw[ag (fun z=>by subst z;rw[hd]at e;cases e)];exact e
 ·by_cases ha:a=d
  ·subst ha
   rcases e with e|⟨o',e⟩
   ·rw[hd]at e;cases e;exact hu'.elim
   ·rw[hd]at e;cases e;exact .inl ai
  ·exact g_ e fun o' q=>by rw[ag ha];exact q
theorem Is.still {x:D}{v:V}(hd:H d=some u)(hu:dj u)(mm:∀ a,m a->m' a)(h:Is H m x v):Is (az H d (.frz o u)) m' x v:=by
 obtain⟨k1,k2,k3⟩:=nz hu hd
 refine Is.view (fun a vs e=>?_) (fun a o' vs e=>?_) (fun a vs e=>?_) (fun a u' hu' e=>?_) mm h
 ·rw[ag (k1 a vs e)];exact e
 ·rw[ag (k2 a o' vs e)];exact e
 ·rw[ag (k3 a vs e)];exact e
 ·by_cases ha:a=d
  ·subst ha
   rcases e with e|⟨o',e⟩
   ·rw[hd]at e;cases e;exact .inr ⟨o,ai⟩
   ·rw[hd]at e;cases e;exact hu.elim
  ·exact g_ e fun o' q=>by rw[ag ha];exact q
theorem IsAll.of_each:∀{ds:List D}{vs:List V}{P:D->V->Prop},(∀ x v,Is H m x v->Is H' m' x v)->IsAll H m ds vs->IsAll H' m' ds vs
 | [],_,_,_,h=>h
 |d::ds,_,P,f,h=>by
  obtain⟨v,r,e,h1,h2⟩:=h
  exact⟨v,r,e,f _ _ h1,IsAll.of_each (P:=P) f h2⟩
theorem xA (s:Same (az H1 d (.frz o u)) H')(hrd:H1 d=some u):Same H1 (az H' d u):=fun a x e=>by
 by_cases ha:a=d
 ·subst ha;rw[hrd]at e;cases e;exact ai
 ·rw[ag ha];exact s a x (by rw[ag ha];exact e)
theorem rQ (rep:Rep g M ρ env σ H1)(hrd:H1 d=some u):∀ x,g.H₀ d=some x->x=u:=fun x e=>by
 have:=rep.same d x e
 rw[hrd]at this;cases this;rfl
end
theorem nE {d:Addr}{o:Obj}{u:HO}{kvs:List (Key×V)}{m:Addr->Prop}{H:Hp}(hd:H d=some (.frz o u)):Walk (CS d o u kvs) m H (kvs.map fun p=>kD p.1):=by
 refine⟨fun H' i x k e=>?_,fun H' k=>⟨k d _ hd (.inr True.intro),by simp⟩⟩
 have hi:i<kvs.length:=by have:=(List.getElem?_eq_some_iff.mp e).1;simpa using this
 refine⟨⟨k d _ hd (.inr True.intro),hi⟩,fun y H'' z=>?_⟩
 obtain⟨rfl,k',v,ek,rfl⟩:=z
 rw[List.getElem?_map,ek]at e
 cases e
 exact⟨Same.refl _,v6 k'⟩
def jZ:List DK->List D->Option (List D)
 | [],[]=>some []
 | .inl k::r,x::ds=>(jZ r ds).map (.tup [kD k,x]::·)
 |_,_=>none
theorem rR:∀{kvs:List (Key×V)}{ds xs:List D},jZ (kvs.map fun p=>.inl p.1) ds=some xs->xs.length=kvs.length/\∀(i:Nat)(x:D),xs[i]?=some x->∃ p y,kvs[i]?=some p/\ds[i]?=some y/\x=.tup [kD p.1,y]
 | [],[],_,e=>by cases e;exact⟨rfl,fun i x e=>by simp at e⟩
 | [],_::_,_,e=>by cases e
 |_::_,[],_,e=>by cases e
 |p::r,y::ds,xs,e=>by
  rw[List.map_cons]at e
  unfold jZ at e
  obtain⟨ys,e1,rfl⟩:=Option.map_eq_some_iff.mp e
  obtain⟨l,f⟩:=rR e1
  refine⟨by simp[l],fun i x ex=>?_⟩
  cases i with
  |zero=>simp at ex;subst ex;exact⟨p,y,rfl,rfl,rfl⟩
  |succ i=>
   obtain⟨p',y',a,b,c⟩:=f i x (by simpa using ex)
   exact⟨p',y',by simpa using a,by simpa using b,c⟩
theorem lA {d:Addr}{o:Obj}{u:HO}{kvs:List (Key×V)}{ds xs:List D}{m:Addr->Prop}{H:Hp}(hd:H d=some (.frz o u))(is:IsAll H m ds (kvs.map Prod.snd))(e0:jZ (kvs.map fun p=>.inl p.1) ds=some xs):Walk (F1 d o u kvs) m H xs:=by
 obtain⟨l,f⟩:=rR e0
 refine⟨fun H' i x k e=>?_,fun H' k=>⟨k d _ hd (.inr True.intro),by rw[l];exact Nat.le_refl _⟩⟩
 have hi:i<kvs.length:=by rw[<- l];exact(List.getElem?_eq_some_iff.mp e).1
 refine⟨⟨k d _ hd (.inr True.intro),hi⟩,fun y H'' z=>?_⟩
 obtain⟨p,k',v,hp,rfl,rfl,ek⟩:=z
 obtain⟨q,w,e1,e2,rfl⟩:=f i x e
 rw[ek]at e1;cases e1
 have s:Same H' (az H' p (.tup [kV k',v])):=aU hp
 obtain⟨v',ev,iv⟩:=(is.mono k fun _ _ _ z=>z:IsAll H' m ds (kvs.map Prod.snd)).get e2
 rw[List.getElem?_map,ek]at ev
 cases ev
 exact⟨s,p,_,rfl,ai,_,_,rfl,v6 k',_,_,rfl,iv.same s,rfl⟩
def oV (n:Nat)(caps:List Nat)(asg:D->Bool->En->Option En)(ft:En->Res Bool)(fe:En->Res R)(env:En)(r:R):Res R:=match r.d with
 | .dic ks _=>match gn ks with
  |some xs=>if xs.length<=lim/\r.al=[] then (match cq (fun d=>asg d true (cD env n caps)) ft fe xs with
   | .ok full=>if D.flats (full.map R.d) then .ok (.new (full.map R.d) true) else .stuck
   |_=>.stuck) else .stuck
  |none=>.stuck
 |_=>.stuck
def lB (n:Nat)(caps:List Nat)(f:En->Res R)(asg:D->Bool->En->Option En)(ft:En->Res Bool)(fe:En->Res R):En->Res R:=fun env=>(f env).bind (oV n caps asg ft fe env)
theorem jp {H:Hp}{m:Addr->Prop}{ks:List DK}{ds:List D}{v:V}(h:Is H m (.dic ks ds) v)(hk:∀ k∈ks,∃ a,k=.inl a):∃ d kvs u,v=.ref d/\m d/\(u=.dK kvs\/(u=.dT []/\kvs=[]))/\Rd H d u/\ks=kvs.map (fun p=>.inl p.1)/\IsAll H m ds (kvs.map Prod.snd):=by
 obtain⟨d,vs,rfl,⟨dat,md⟩,hall⟩:=h
 rcases dat with⟨kvs,e,rfl,rfl⟩|⟨kvs,e,rfl,rfl⟩
 ·exact⟨d,kvs,_,rfl,md,.inl rfl,e,rfl,hall⟩
 ·cases kvs with
  |nil=>exact⟨d,[],_,rfl,md,.inr ⟨rfl,rfl⟩,e,rfl,hall⟩
  |cons p r=>obtain⟨a,ea⟩:=hk (.inr p.1) (by simp);cases ea
theorem lC:∀{ks:List DK}{xs:List D},gn ks=some xs->∀ k∈ks,∃ a,k=.inl a
 | [],_,_,k,h=>by cases h
 | .inl a::r,_,e,k,h=>by
  unfold gn at e
  obtain⟨y,e1,_⟩:=Option.map_eq_some_iff.mp e
  rcases List.mem_cons.mp h with h|h
  ·exact⟨a,h⟩
  ·exact lC e1 k h
 | .inr _::_,_,e,_,_=>by cases e
theorem rS:∀{ks:List DK}{ds xs:List D},jZ ks ds=some xs->∀ k∈ks,∃ a,k=.inl a
 | [],_,_,_,k,h=>by cases h
 | .inl a::r,x::ds,_,e,k,h=>by
  unfold jZ at e
  obtain⟨y,e1,_⟩:=Option.map_eq_some_iff.mp e
  rcases List.mem_cons.mp h with h|h
  ·exact⟨a,h⟩
  ·exact rS e1 k h
 | .inl _::_,[],_,e,_,_=>by cases e
 | .inr _::_,_,_,e,_,_=>by simp[jZ]at e
section
variable {X:Cx}{E:XK}{scope:Scope}{tg:Expr}{tN:List Str}{capN:List Str}{caps:List Nat}{ix:List Nat}{asg:D->Bool->En->Option En}{elt iter:Expr}{pos:Pos}{ifs:List Expr}{f:En->Res R}{ft:En->Res Bool}{fe:En->Res R}
theorem gq (hc:X.calm=true)(S:CScope X scope tN capN caps)(hi:PD X E iter f)(hix:∀ j∈ix,j<tN.length)(hg:∀ cl C s3 H3 fp,yW (bA X scope (tN++capN) cl C s3 H3 fp) ix tg asg)(ht:∀ cl C s3 H3 fp,tT (bA X scope (tN++capN) cl C s3 H3 fp) E0 ifs ft)(he:∀ cl C s3 H3 fp,PD (bA X scope (tN++capN) cl C s3 H3 fp) E0 elt fe)
 (hs:∀ x,foldedSetIterable iter X.env x=pure x:=by intro _;rfl):PD X E (.ListComp elt [⟨tg,iter,ifs,0⟩] scope pos) (lB tN.length caps f asg ft fe):=by
 obtain⟨tl,p1,s1⟩:=hi
 refine⟨_,EK (t:=vV X scope tg tN capN caps elt ifs (FZ X tl)) fun pins s σ H Q I h=>rC hc S I (vG p1) h hs,fun g M ρ env σ H Q rep p=>?_⟩
 refine s1.oneE rep p fun r v M1 H1 e1 rep1 is q=>?_
 unfold oV at q
 cases qd:r.d with
 |dic ks ds=>
  rw[qd]at q is
  dsimp only at q
  cases qk:gn ks with
  |none=>rw[qk]at q;exact q.elim
  |some xs=>
   rw[qk]at q
   dsimp only at q
   by_cases hcon:xs.length<=lim/\r.al=[]
   ·rw[if_pos hcon]at q
    obtain⟨hlim,hal⟩:=hcon
    cases qc:cq (fun d=>asg d true (cD env tN.length caps)) ft fe xs with
    |stuck=>rw[qc]at q;exact q.elim
    |exc c=>rw[qc]at q;exact q.elim
    |ok full=>
     rw[qc]at q
     dsimp only at q
     by_cases hfl:D.flats (full.map R.d)=true
     ·rw[if_pos hfl]at q
      obtain⟨d,kvs,u,rfl,md,hu,hrd,rfl,hall⟩:=jp is (lC qk)
      have md:M1 d:=by rw[hal]at md;exact md.nil.1
      have dI:dj u:=by rcases hu with rfl|⟨rfl,_⟩<;>exact True.intro
      have ex:xs=kvs.map fun p=>kD p.1:=iB qk
      have mk:jb (full.map R.d) (aR full) ([]++caps.filter (isOwn env))=.new (full.map R.d) true:=by unfold jb;rw[if_pos hfl]
      refine⟨d,kvs,u,rfl,hu,?_⟩
      rcases hrd with hrd|⟨o,hrd⟩
      ·right
       refine⟨hrd,fun o hnf=>jh (g:=cE g d o u) (E:=E) (s:=⟨xs,true,[]⟩) hix hg ht he (rep1.still hrd dI md) (by rw[ex];exact nE ai) hlim qc ?_⟩
       rw[mk]
       intro v M' H' e rep' ro
       have hd':H' d=some (.frz o u):=e.h _ _ ai
       have rep3:=rep'.unstill hd' dI (e.m d md) (rQ rep1 hrd)
       refine .inr ⟨d,o,u,hd',dI,hnf,q v M' _ ⟨e.m,xA e.h hrd,fun a z=>?_⟩ rep3 ?_⟩
       ·refine(e.n a z).imp id fun w=>?_
        by_cases ha:a=d
        ·subst ha;rw[ai]at w;cases w
        ·rw[ag ha]at w;exact w
       ·obtain⟨a,vs,rfl,h1,h2,h3,h4,h5⟩:=ro
        have na:a≠d:=fun z=>by subst z;rw[hd']at h1;cases h1
        refine⟨a,vs,rfl,by rw[ag na];exact h1,h2,by rw[ag na]at h3;exact h3,h4,?_⟩
        exact IsAll.of_each (P:=fun _ _=>True) (fun x w=>Is.thaw hd' dI fun _ z=>z) (IsAll.flat (m':=msk g M' true) hfl h5)
      ·left
       refine⟨o,hrd,jh (g:=g) (E:=E) (s:=⟨xs,true,[]⟩) hix hg ht he rep1 (by rw[ex];exact nE hrd) hlim qc ?_⟩
       rw[mk]
       exact fun v M' H' e rep' ro=>.inl (q v M' H' e rep' ro)
     ·rw[if_neg hfl]at q;exact q.elim
   ·rw[if_neg hcon]at q;exact q.elim
 |_=>rw[qd]at q;exact q.elim
def bp (n:Nat)(caps:List Nat)(f:En->Res R)(asg:D->Bool->En->Option En)(ft:En->Res Bool)(fe:En->Res R):En->Res R:=fun env=>if zD (f env) then lB n caps f asg ft fe env else dv n caps (gc f) asg ft fe env
theorem gr {e:Expr}{n:Nat}(h1:PD X E e (dv n caps (gc f) asg ft fe))(h2:PD X E e (lB n caps f asg ft fe)):PD X E e (bp n caps f asg ft fe):=by
 obtain⟨t1,p1,s1⟩:=h1
 obtain⟨t2,p2,s2⟩:=h2
 refine⟨fun σ H Q=>t1 σ H Q\/t2 σ H Q,fun pins s σ H Q I h=>h.elim (p1 pins s σ H Q I) (p2 pins s σ H Q I),fun g M ρ env σ H Q rep p=>?_⟩
 unfold bp at p
 split at p
 ·exact .inr (s2 g M ρ env σ H Q rep p)
 ·exact .inl (s1 g M ρ env σ H Q rep p)
end
def d8:Res Fl->Res Fl
 | .ok (.nx e)=>.ok (.nx e)
 | .ok (.rt r)=>if r.d.flat then .ok (.rt (.val r.d true [])) else .stuck
 |_=>.stuck
def rT (asg:D->Bool->En->Option En)(fb:En->Res Fl)(env:En)(r:R):Res Fl:=match r.d with
 | .dic ks ds=>match jZ ks ds with
  |some xs=>d8 (bY asg r.fr fb xs (frz env r.al))
  |none=>.stuck
 |_=>.stuck
def zF (f:En->Res R)(asg:D->Bool->En->Option En)(fb:En->Res Fl):En->Res Fl:=fun env=>(f env).bind (rT asg fb env)
section
variable {X:Cx}{E:XK}{g:Gd}{M:Addr->Prop}{ρ:Pr}{env:En}{σ:St}{H:Hp}{D:Ends}{d:Addr}{o:Obj}{u:HO}
theorem tX {r:Res Fl}(rep:Rep g M ρ env σ H)(hrd:H d=some u)(dI:dj u)(md:M d)(hnf:∀ o v,X.H₀ d≠some (.frz o v))(p:PostS X.mg E g M H D (d8 r)):PostS X.mg E (cE g d o u) M (az H d (.frz o u)) (Hs X D) r:=by
 have hx:=rQ rep hrd
 have fz:∀{M':Addr->Prop}{H':Hp},Frz M (az H d (.frz o u)) M' H'->Frz M H M' (az H' d u):=fun{M' H'} f=>⟨f.m,fun a x e z=>by
  by_cases ha:a=d
  ·subst ha;rw[hrd]at e;cases e;exact ai
  ·rw[ag ha];exact f.h a x (by rw[ag ha];exact e) z⟩
 cases r with
 |stuck=>exact p
 |exc c=>exact(show False from p).elim
 |ok r=>
  cases r with
  |nx e=>
   intro σ' M' ρ' H' f rep'
   have hd':H' d=some (.frz o u):=f.h d _ ai (.inl md)
   exact .inr ⟨d,o,u,hd',dI,hnf,p σ' M' ρ' _ (fz f) (rep'.unstill hd' dI (f.m d md) hx)⟩
  |bk e=>exact(show False from p).elim
  |ct e=>exact(show False from p).elim
  |rm r e=>exact(show False from p).elim
  |rt r=>
   unfold d8 at p
   by_cases hf:r.d.flat=true
   ·simp only[hf,if_true]at p
    intro v M' H' f s _ fl
    have hd':H' d=some (.frz o u):=f.h d _ ai (.inl md)
    have is:∀{m:Addr->Prop},Is (az H' d u) m r.d v:=fun{m}=>Is.flat hf (Is.thaw (m':=m) hd' dI (fun _ z=>z.elim) (fl hf))
    refine .inr ⟨d,o,u,hd',dI,hnf,p v M' _ (fz f) (fun b x e=>?_) (fun _=>is) fun _=>is⟩
    by_cases hb:b=d
    ·subst hb;rw[hx x e];exact ai
    ·rw[ag hb];exact s b x (by rw[iA hb];exact e)
   ·simp only[hf]at p;exact(show False from p).elim
theorem rU {r:Res Fl}(p:PostS X.mg E g M H D (d8 r)):PostS X.mg E g M H (Hs X D) r:=by
 cases r with
 |stuck=>exact p
 |exc c=>exact(show False from p).elim
 |ok r=>
  cases r with
  |nx e=>exact fun σ' M' ρ' H' f rep'=>.inl (p σ' M' ρ' H' f rep')
  |bk e=>exact(show False from p).elim
  |ct e=>exact(show False from p).elim
  |rm r e=>exact(show False from p).elim
  |rt r=>
   unfold d8 at p
   by_cases hf:r.d.flat=true
   ·simp only[hf,if_true]at p
    exact fun v M' H' f s _ fl=>.inl (p v M' H' f s (fun _=>Is.flat hf (fl hf)) fun _=>Is.flat hf (fl hf))
   ·simp only[hf]at p;exact(show False from p).elim
theorem zG {es:List Expr}{k0:Nat}{fJ apos cpos:Pos}{ix:List Nat}{l:Expr}{body:List Stmt}{f:En->Res R}{asg:L3.D->Bool->En->Option En}{fb:En->Res Fl}{pos:Pos}(hp:PassesOwn (model X.prog X.w) X.A X.env X.xe)(hc:X.calm=true)
 (hl:PD X E l f) (hg:yW X ix (.Tuple es k0 fJ) asg) (hb:k_ X E body fb) (hbase:attributeBase l "items" X.env (eval l X.env)=eval l X.env:=by rfl) (hline:(apos.endLine==cpos.line)=true:=by rfl)
 (hs:∀ x,foldedSetIterable (.Call (.Attribute l "items" apos) [] [] cpos) X.env x=pure x:=by intro _;rfl):jY X E (.For (.Tuple es k0 fJ) (.Call (.Attribute l "items" apos) [] [] cpos) body [] pos) (zF f asg fb):=by
 obtain⟨tl,p1,s1⟩:=hl
 obtain⟨w,p2,s2⟩:=hg
 obtain⟨tb,p3,s3⟩:=hb
 refine⟨_,EL (nX hp hc (yJ p1 hbase hline) p2 p3 hs),fun g M ρ env σ H D rep p=>?_⟩
 refine s1.oneS rep p fun r v M0 H1 e1 rep0 ro p0=>?_
 obtain⟨M1,x1,x1m,rep1,is1⟩:=ro.is rep0 e1 rep.same
 obtain⟨M2,ρ2,x2,rep2,o2,_,_⟩:=Rep.frz r.al rep1
 have is2:Is H1 (msk g M2 r.fr) r.d v:=Is.frozen rep1 x2 o2 is1
 have p2':=PostS.frz (⟨fun a z=>x2 a (x1m a z),fun _ _ q _=>q⟩ : Frz M0 H1 M2 H1) p0
 clear p0 p
 unfold rT at p2'
 cases qd:r.d with
 |dic ks ds=>
  rw[qd]at p2' is2
  dsimp only at p2'
  cases qk:jZ ks ds with
  |none=>rw[qk]at p2';exact p2'.elim
  |some xs=>
   rw[qk]at p2'
   dsimp only at p2'
   obtain⟨d,kvs,u,rfl,md,hu,hrd,rfl,hall⟩:=jp is2 (rS qk)
   have md:M2 d:=md.1
   have dI:dj u:=by rcases hu with rfl|⟨rfl,_⟩<;>exact True.intro
   refine⟨d,kvs,u,rfl,hu,?_⟩
   rcases hrd with hrd|⟨o,hrd⟩
   ·right
    refine⟨hrd,fun o hnf=>ld (E:=E) (g:=cE g d o u) (fr:=r.fr) (xs:=xs) s2 s3 (rep2.still hrd dI md) (lA ai ?_ qk) (tX rep2 hrd dI md hnf p2')⟩
    exact IsAll.of_each (P:=fun _ _=>True) (fun x w=>Is.still hrd dI fun _ z=>msk_still.mpr z) hall
   ·left
    exact⟨o,hrd,ld (E:=E) (g:=g) (fr:=r.fr) (xs:=xs) s2 s3 rep2 (lA hrd hall qk) (rU p2')⟩
 |_=>rw[qd]at p2';exact p2'.elim
end
end L3
namespace L3
open PySem PySem.Spec PyProof.Rows L2
def Gi (H:Hp)(T:Addr->Prop)(w:V)(Q:VK):Res (List D×D)->Prop
 | .ok (es,x)=>∀ a us H' T',H' a=some (.lst us)->H a=none->¬ T' a->IsAll H' (fun _=>False) es us->(∀ b o,H b=some o->¬ T b->H' b=some o)->(∀ b,T' b->(T b\/H b=none)/\Mu H' b)->(∀ b,T b->H' b≠none)->Is H' T' x w->Q (.ref a) H'
 |_=>False
def Ht (n:Nat)(F:List D->D->Res (List D×D)):Sp:=fun vs H Q E=>vs.length=n+1/\∃ ws w,vs=ws++[w]/\∃ ds x Ma T,ds.length=n/\IsAll H Ma ds ws/\Is H T x w/\(∀ a,T a->Mu H a/\¬ Ma a)/\Gi H T w Q (F ds x)
def fF (N:List Str)(ds:List D)(x:D):En:=ds.map (fun d=>some (.val d false))++some (.pin x)::List.replicate (N.length-(ds.length+1)) none
def EM:R->Option (List D)
 | .new es _=>some es
 | .fre (.lst es)=>some es
 |_=>none
def zH (n:Nat):Res Fl->Res (List D×D)
 | .ok (.rm r env)=>match EM r with
  |some es=>if D.flats es then (match env[n]? with
   |some (some (.pin x))=>.ok (es,x)
   |_=>.stuck) else .stuck
  |none=>.stuck
 |_=>.stuck
theorem B5 {g:Gd}{M:Addr->Prop}{ρ:Pr}{H0 H:Hp}{v:V}{r:R}{es:List D}(h:ROk g M ρ H0 H v r)(e:EM r=some es):∃ a us m,v=.ref a/\H a=some (.lst us)/\H0 a=none/\(∀ i,¬ ρ i a)/\IsAll H m es us:=by
 cases r with
 |val d fr al=>cases e
 |new ds fr=>
  cases e
  obtain⟨a,us,rfl,h1,h2,h3,h4,h5⟩:=h
  exact⟨a,us,_,rfl,h1,h3,h4,h5⟩
 |fre d=>
  cases d with
  |lst ds=>
   cases e
   obtain⟨T,ht,a,us,rfl,h1,h2⟩:=h
   rcases h1 with⟨h1,h3⟩|⟨o,h1,h3⟩
   ·exact⟨a,us,T,rfl,h1,(ht a h3).2.1,(ht a h3).2.2.2,h2⟩
   ·obtain⟨_,_,⟨u,y1,y2⟩,_⟩:=ht a h3
    rw[h1]at y1;cases y1;exact y2.elim
  |_=>cases e
def EN (N:List Str)(FB:En->Res Fl)(ds:List D)(x:D):Res (List D×D):=zH ds.length (FB (fF N ds x))
open Classical in
noncomputable def lD (H:Hp)(Ma T:Addr->Prop)(w:V):Gd:=⟨fun a=>if T a then none else H a,Ma,T,some w⟩
theorem lE {H:Hp}{Ma T:Addr->Prop}{w:V}{a:Addr}(h:T a):(lD H Ma T w).H₀ a=none:=if_pos h
theorem eU {H:Hp}{Ma T:Addr->Prop}{w:V}{a:Addr}(h:¬ T a):(lD H Ma T w).H₀ a=H a:=if_neg h
theorem tY {H:Hp}{Ma T:Addr->Prop}{ds:List D}{x:D}{ws:List V}{w:V}{N:List Str}(is:IsAll H Ma ds ws)(ix:Is H T x w)(ht:∀ a,T a->Mu H a/\¬ Ma a)(hN:ds.length+1<=N.length) :
 Rep (lD H Ma T w) (fun a=>Ma a/\H a≠none) (fun i a=>i=ds.length/\T a) (fF N ds x) (L2.cJ N (ws++[w])) H where
 same:=fun a o e=>by
  by_cases h:T a
  ·rw[lE h]at e;cases e
  ·rw[eU h]at e;exact e
 froz:=fun a z=>z.2
 inn:=fun a z=>.inr z.1
 fl:=fun a z h=>by
  by_cases q:T a
  ·exact((ht a q).2 z.1).elim
  ·rw[eU q]at h;exact absurd h z.2
 slot:=fun i sl e=>by
  have hl:=is.length
  unfold fF at e
  by_cases hi:i<ds.length
  ·rw[List.getElem?_append_left (by simpa using hi),List.getElem?_map]at e
   obtain⟨v,ev,iv⟩:=is.get (i:=i) (d:=ds[i]) (by simp[hi])
   have e1:ds[i]?=some ds[i]:=by simp[hi]
   rw[e1]at e
   cases e
   refine⟨v,?_,Is.mono (fun _ _ q _=>q) (fun a o q z=>⟨⟨z,by rw[q];simp⟩,fun z=>by cases z⟩) iv⟩
   unfold L2.cJ
   rw[List.getElem?_append_left (by simp;omega),List.getElem?_map,List.getElem?_append_left (by omega),ev];rfl
  ·rw[List.getElem?_append_right (by simpa using hi),List.length_map]at e
   by_cases hz:i=ds.length
   ·subst hz
    simp only[Nat.sub_self,List.getElem?_cons_zero,Option.some.injEq]at e
    subst e
    refine⟨w,?_,Is.weak (fun a z=>⟨rfl,z⟩) ix,rfl⟩
    unfold L2.cJ
    rw[List.getElem?_append_left (by simp;omega),List.getElem?_map,List.getElem?_append_right (by omega),hl];simp
   ·have:i-ds.length=(i-ds.length-1)+1:=by omega
    rw[this,List.getElem?_cons_succ,List.getElem?_replicate]at e
    split at e<;>cases e
 priv:=fun i a z=>⟨fun h=>(ht a z.2).2 h.1,lE z.2,(ht a z.2).1⟩
 apart:=fun i j a z1 z2=>z1.1.trans z2.1.symm
 ow:=fun i a z=>by
  obtain⟨rfl,_⟩:=z
  unfold isOwn fF
  rw[List.getElem?_append_right (by simp)]
  simp[Sl.isO]
 len:=by
  have hl:=is.length
  unfold fF L2.cJ
  simp[hl]
 zz:=fun a z=>(ht a z).1.some
section
variable {P:Program}{w:World}{K:PySem.W.Frag}{mg:Str->Option Value}{base:Heap}
theorem Gj {x qual:Str}{st:Stmt}{f:Addr}{fd:FuncData}{N ps:List Str}{k n:Nat}{FB:En->Res Fl}(F:Fun K x qual st f fd)(S:FnScope N ps (defScope st))(hn:ps.length=n+1)(hN:n+1<=N.length)
 (body:∀(cdv:Value)(A:Around)(outer:List Env)(s:Shared)(H:Hp)(E:XK),Room k (A.deeper (envOfC qual (defScope st) s.heap.objs.size f cdv))->k_ (qJ jF P w K mg base N qual (defScope st) f cdv A outer s H E).nox E (defBody st) FB) :
 FnOk P w K mg base jF (k+1) f fd ps (Ht n (EN N FB)):=by
 refine F.ok S (fun vs H Q E h=>h.1.trans hn.symm) (fun cdv A outer s H vs Q E hr h=>?_)
 obtain⟨hl,ws,w0,rfl,ds,x0,Ma,T,hds,is,ix,ht,post⟩:=h
 obtain⟨t,p1,s1⟩:=body cdv A outer s H E hr
 refine⟨t,p1,s1 (lD H Ma T w0) _ _ (fF N ds x0) (L2.cJ N (ws++[w0])) H _ (tY is ix ht (by omega)) ?_⟩
 unfold EN at post
 cases q:FB (fF N ds x0) with
 |stuck=>rw[q]at post;exact post
 |exc c=>rw[q]at post;exact(show False from post).elim
 |ok r=>
  rw[q]at post
  cases r with
  |nx env=>exact(show False from post).elim
  |rt r=>exact(show False from post).elim
  |bk env=>exact(show False from post).elim
  |ct env=>exact(show False from post).elim
  |rm r env=>
   unfold zH at post
   dsimp only at post
   cases qr:EM r with
   |none=>rw[qr]at post;exact post.elim
   |some es=>
    rw[qr]at post
    dsimp only at post
    by_cases hf:D.flats es=true
    ·rw[if_pos hf]at post
     cases q2:env[ds.length]? with
     |none=>rw[q2]at post;exact post.elim
     |some o=>
      cases o with
      |none=>rw[q2]at post;exact post.elim
      |some sl=>
       cases sl with
       |pin y=>
        rw[q2]at post
        intro v σ M' ρ H0 H' fz rep hs hz0 ro
        obtain⟨a,us,m0,rfl,h1,h3,h4,h5⟩:=B5 ro qr
        obtain⟨v',ev,k1,k2⟩:=rep.slot _ _ q2
        cases k2
        refine post a us H' (ρ ds.length) h1 ?_ (h4 _) (IsAll.flat hf h5) (fun b o e nb=>?_) (fun b z=>⟨?_,(rep.priv _ b z).2.2⟩) (fun b z=>rep.zz b z) k1
        ·-- the list is new
         have h0:(lD H Ma T w0).H₀ a=none:=hs.free h3
         by_cases hT:T a
         ·exact(hz0 a hT h3).elim
         ·rw[eU hT]at h0;exact h0
        ·exact rep.same b o (by rw[eU nb];exact e)
        ·have h0:=(rep.priv _ b z).2.1
         by_cases hT:T b
         ·exact .inl hT
         ·rw[eU hT]at h0;exact .inr h0
       |_=>rw[q2]at post;exact post.elim
    ·rw[if_neg hf]at post;exact post.elim
end
def B6 (X:Cx)(E:XK)(j:Nat)(es:List Expr)(fs:En->Res (List R)):Prop:=∃ t,PA X es t/\∀ g M ρ env σ H (Q:List V->Hp->Prop),Rep g M ρ env σ H->(match fs env with
 | .stuck=>False
 | .exc c=>A_ X.mg E g c
 | .ok rs=>∀ vs w M' H',Ext M H M' H'->Rep g M' ρ env σ H'->IsAll H' (vmsk g M' (aR rs) ρ (aY rs)) (rs.map R.d) vs->σ[j]?=some (some w)->Q (vs++[w]) H')->(∃ sl,env[j]?=some (some sl))->t σ H Q
section
variable {X:Cx}{E:XK}
theorem zI {e:Expr}{j:Nat}(h:PE X e (fS j))(hs:starEach [e] X.env=(false,eval e X.env)::starEach [] X.env:=by rfl):B6 X E j [e] ar:=by
 refine⟨_,be h di hs,fun g M ρ env σ H Q rep p hsl=>?_⟩
 obtain⟨sl,e1⟩:=hsl
 obtain⟨v,ev,_⟩:=rep.slot j sl e1
 exact⟨v,ev,p [] v M H (Ext.refl _ _) rep rfl ev⟩
theorem jq {e:Expr}{es:List Expr}{j:Nat}{f:En->Res R}{fs:En->Res (List R)}(he:PD X E e f)(hr:B6 X E j es fs)(hs:starEach (e::es) X.env=(false,eval e X.env)::starEach es X.env:=by rfl):B6 X E j (e::es) (ac f fs):=by
 obtain⟨t,p1,s1⟩:=he
 obtain⟨u,p2,s2⟩:=hr
 refine⟨_,be p1 p2 hs,fun g M ρ env σ H Q rep p hsl=>?_⟩
 unfold ac at p
 refine s1 g M ρ env σ H _ rep ?_
 cases q:f env with
 |stuck=>rw[q]at p;exact p
 |exc c=>rw[q]at p;exact p
 |ok r=>
  rw[q]at p
  intro v M1 H1 e1 rep1 ro
  obtain⟨M2,e2,_,rep2,is⟩:=ro.is rep1 e1 rep.same
  refine s2 g M2 ρ env σ H1 _ rep2 ?_ hsl
  simp only[Res.bind_ok]at p
  cases q2:fs env with
  |stuck=>rw[q2]at p;exact p
  |exc c=>rw[q2]at p;exact p
  |ok rs=>
   rw[q2]at p
   exact fun vs w M3 H3 e3 rep3 is3 ew=>p (v::vs) w M3 H3 (e2.trans e3) rep3 (IsAll.args (is.ext e3) is3) ew
theorem Rep.change {g:Gd}{M:Addr->Prop}{ρ:Pr}{env:En}{σ:St}{H H':Hp}{j:Nat}{x:D}{v:V}{T':Addr->Prop}(rep:Rep g M ρ env σ H)(hj:j<env.length)(ev:σ[j]?=some (some v))(kp:∀ b o,H b=some o->¬ ρ j b->H' b=some o)(ht:∀ b,T' b->(ρ j b\/H b=none)/\Mu H' b)(hz:∀ b,ρ j b->H' b≠none)(is:Is H' T' x v) :
 Frz M H M H'/\Rep g M (mI ρ j T') (env.set j (some (.tre x))) σ H':=by
 have nM:∀ b,M b->¬ ρ j b:=fun b h z=>(rep.priv j b z).1 h
 have nF:∀ b o,H b=some o->fixd o->¬ ρ j b:=fun b o e hf z=>by
  obtain⟨_,_,u,e2,hm⟩:=rep.priv j b z
  rw[e]at e2;cases e2
  cases o<;>first|exact hf|exact hm
 have kM:∀ b o,H b=some o->(M b\/fixd o)->H' b=some o:=fun b o e z=>kp b o e (z.elim (nM b) (nF b o e))
 have kR:∀ k,k≠j->∀ b o,H b=some o->(ρ k b\/fixd o)->H' b=some o:=fun k hk b o e z=>kp b o e (z.elim (fun z w=>hk (rep.apart k j b z w)) (nF b o e))
 refine⟨⟨fun _ z=>z,kM⟩,fun b o e=>?_,fun b hb e=>?_,rep.inn,fun b hb h0=>?_,fun k sl e=>?_,fun k b h=>?_,fun k l b h1 h2=>?_,fun k b h=>?_,by rw[List.length_set];exact rep.len,fun b z e=>?_⟩
 ·exact kp b o (rep.same b o e) fun z=>by rw[(rep.priv j b z).2.1]at e;cases e
 ·cases q:H b with
  |none=>exact rep.froz b hb q
  |some o=>rw[kM b o q (.inl hb)]at e;cases e
 ·exact(rep.fl b hb h0).same fun o e=>kM b o e (.inl hb)
 ·by_cases hk:k=j
  ·subst hk
   rw[List.getElem?_set_self hj]at e
   cases e
   exact⟨v,ev,by rw[bT];exact is⟩
  ·rw[List.getElem?_set_ne (Ne.symm hk)]at e
   obtain⟨w,ew,k1⟩:=rep.slot k sl e
   refine⟨w,ew,?_⟩
   rw[a_ hk]
   cases sl with
   |val d fr=>exact Is.mono (fun b o e z=>kM b o e (z.imp (·.1) id)) (fun _ _ _ z=>z) k1
   |own ds fr=>
    obtain⟨b,ws,rfl,h1,h2,h4⟩:=k1
    exact⟨b,ws,rfl,kR k hk b _ h1 (.inl ((h2 b).mpr rfl)),h2,IsAll.mono (fun b o e z=>kM b o e (z.imp (·.1) id)) (fun _ _ _ z=>z) h4⟩
   |tre d=>exact Is.mono (fun b o e z=>kR k hk b o e z) (fun _ _ _ z=>z) k1
   |pin d=>exact⟨Is.mono (fun b o e z=>kR k hk b o e z) (fun _ _ _ z=>z) k1.1,k1.2⟩
   |mes d=>exact IsSh.mono (fun b o e z=>kM b o e (.inr z)) (fun b us z e=>⟨us,kR k hk b _ e (.inl z)⟩) (fun _ z=>z) k1
 ·by_cases hk:k=j
  ·subst hk;rw[bT]at h
   obtain⟨h1,h2⟩:=ht b h
   rcases h1 with h1|h1
   ·exact⟨(rep.priv k b h1).1,(rep.priv k b h1).2.1,h2⟩
   ·exact⟨fun z=>rep.froz b z h1,rep.same.free h1,h2⟩
  ·rw[a_ hk]at h
   obtain⟨h1,h2,u,h3,h4⟩:=rep.priv k b h
   exact⟨h1,h2,u,kR k hk b u h3 (.inl h),h4⟩
 ·have key:∀ l,l≠j->T' b->ρ l b->False:=fun l hl z w=>by
   rcases (ht b z).1 with h|h
   ·exact hl (rep.apart l j b w h)
   ·exact(rep.priv l b w).2.2.some h
  by_cases hk:k=j
  ·by_cases hl:l=j
   ·rw[hk,hl]
   ·subst hk;rw[bT]at h1;rw[a_ hl]at h2;exact(key l hl h1 h2).elim
  ·by_cases hl:l=j
   ·subst hl;rw[bT]at h2;rw[a_ hk]at h1;exact(key k hk h2 h1).elim
   ·rw[a_ hk]at h1;rw[a_ hl]at h2;exact rep.apart k l b h1 h2
 ·unfold isOwn
  by_cases hk:k=j
  ·subst hk;rw[List.getElem?_set_self hj];rfl
  ·rw[a_ hk]at h
   rw[List.getElem?_set_ne (Ne.symm hk)];exact rep.ow k b h
 ·by_cases hr:ρ j b
  ·exact hz b hr e
  ·cases q:H b with
   |none=>exact rep.zz b z q
   |some o=>rw[kp b o q hr]at e;cases e
def jr (i j:Nat)(F:List D->D->Res (List D×D))(env:En)(rs:List R):Res Fl:=match env[j]? with
 |some (some (.tre x))=>if ¬ j∈aY rs/\i≠j/\i<env.length then (match F (rs.map R.d) x with
  | .ok (es,y)=>.ok (.nx ((env.set j (some (.tre y))).set i (some (.own es true))))
  |_=>.stuck) else .stuck
 |_=>.stuck
def lF (i j:Nat)(F:List D->D->Res (List D×D))(fs:En->Res (List R)):En->Res Fl:=fun env=>(fs env).noX.bind (jr i j F env)
theorem xB {CX:CXT}{k n:Nat}{f:Addr}{fd:FuncData}{ps:List Str}{F:List D->D->Res (List D×D)}{x y:Str}{p pos py spos:Pos}{e:Expr}{es:List Expr}{fs:En->Res (List R)}{i j:Nat}(hN:X.N.Nodup)(hi:X.N[i]?=some y)(hy:CK X.env.scope y)
 (G:FnOk X.prog X.w X.K X.mg X.base CX k f fd ps (Ht n F)) (hr:Room k X.A) (hg:Gl X x) (hm:X.mg x=some (.ref f)) (hk:PySem.W.keepIn X.K (.ref f)=true) (hb:Binds X.K fd ps []) (hx:kC CX X E)
 (ha:B6 X E j (e::es) fs) (hl:∀ env rs,fs env=.ok rs->rs.length=n) (hdb:(x==("__debug__" : Str))=false:=by decide) (he:starEach (e::es) X.env=(false,eval e X.env)::starEach es X.env:=by rfl) (hpl:(backTo pos (starEach es X.env)).any (·.1)=false:=by rfl)
 (hs:swapsWith (.Call (.Name x p) (e::es) [] pos) (some (.Name y py)) spos.line X.env=pure false:=by rfl) (hf:X.fn y=true\/X.env.scope.names.lookup y=some .local:=by first|exact .inl rfl|exact .inr rfl|assumption) :
 jY X E (.Assign [.Name y py] (.Call (.Name x p) (e::es) [] pos) spos) (lF i j F fs):=by
 obtain⟨t,p1,s1⟩:=ha
 refine⟨_,sI hN hi hy (vx G hr hg hm hk hb .nil hx p1 hdb he hpl) hs hf,fun g M ρ env σ H D rep p=>?_⟩
 unfold lF at p
 cases q:fs env with
 |stuck=>
  rw[q]at p;exact(show False from p).elim
 |exc c=>
  rw[q]at p;exact(show False from p).elim
 |ok rs=>
  rw[q]at p
  have p:PostS X.mg E g M H D (jr i j F env rs):=p
  unfold jr at p
  cases q1:env[j]? with
  |none=>rw[q1]at p;exact p.elim
  |some o=>
   cases o with
   |none=>rw[q1]at p;exact p.elim
   |some sl=>
    cases sl with
    |tre x0=>
     rw[q1]at p
     dsimp only at p
     by_cases hcon:¬ j∈aY rs/\i≠j/\i<env.length
     ·rw[if_pos hcon]at p
      obtain⟨nal,nij,hil⟩:=hcon
      cases q2:F (rs.map R.d) x0 with
      |stuck=>rw[q2]at p;exact p.elim
      |exc c=>rw[q2]at p;exact p.elim
      |ok r=>
       obtain⟨es',y0⟩:=r
       rw[q2]at p
       dsimp only at p
       refine s1 g M ρ env σ H _ rep ?_ ⟨_,q1⟩
       rw[q]
       intro vs w M1 H1 e1 rep1 is ew
       have hjl:j<env.length:=(List.getElem?_eq_some_iff.mp q1).1
       obtain⟨w',ew',iw⟩:=rep1.slot j _ q1
       rw[ew]at ew';cases ew'
       have iw:Is H1 (ρ j) x0 w:=iw
       have hln:rs.length=n:=hl env rs q
       rw[List.append_nil]
       refine⟨by rw[List.length_append,is.length,List.length_map,hln];rfl,vs,w,rfl,rs.map R.d,x0,_,ρ j,by rw[List.length_map];exact hln,is,iw,fun a z=>⟨(rep1.priv j a z).2.2,fun w=>?_⟩,?_⟩
       ·rcases w with w|⟨l,hl',w⟩
        ·exact(rep1.priv j a z).1 w.1
        ·exact nal (rep1.apart l j a w z▸hl')
       ·rw[q2]
        intro a us H' T' h1 h2 h3 h4 kp ht hz ix
        obtain⟨f1,rep2⟩:=rep1.change hjl ew kp ht hz ix
        obtain⟨z0,zm,zo⟩:=rep1.free h2
        have rep3:=rep2.put (i:=i) (sl:=.own es' true) (v:=.ref a) (T:=fun b=>b=a) (by rw[List.length_set];exact hil) ⟨a,us,rfl,h1,fun _=>Iff.rfl,IsAll.weak (fun _ z=>z.elim) h4⟩ (fun b e=>by
         subst e
         refine⟨zm,z0,Mu.lst h1,fun l hl z=>?_⟩
         by_cases hlj:l=j
         ·subst hlj;rw[bT]at z;exact h3 z
         ·rw[a_ hlj]at z;exact zo l z)
        exact p _ M1 _ H' (e1.frz.trans f1) rep3
     ·rw[if_neg hcon]at p;exact p.elim
    |_=>rw[q1]at p;exact p.elim
end
end L3
namespace L3
open PySem PySem.Spec PyProof.Rows L2
theorem lt1 {n c:Nat}(h:n+64<c):n+1<c:=by omega
def dU (l:List Int):D:=.dic ((aF l).map ik) ((aF l).map fun _=>.bl true)
def js (ts:List Tri)(x:Int):D:=.dic ((g2 ts x).map ik) ((g2 ts x).map fun y=>dU (g3 ts x y))
def ax (ts:List Tri):D:=.dic ((g1 ts).map ik) ((g1 ts).map (js ts))
def kvT (l:List Int):List (Key×V):=(aF l).map fun z=>(.inl z,.bl true)
theorem B7 (l:List Int)(z:Int):bu (kvT l) (.inl z) (.bl true)=kvT (l++[z]):=by
 unfold kvT
 rw[jn]
 generalize aF l=m
 unfold bu dd
 by_cases h:z∈m
 ·rw[if_pos h,if_pos (List.any_eq_true.mpr ⟨(.inl z,.bl true),List.mem_map.mpr ⟨z,h,rfl⟩,by simp⟩),List.map_map]
  refine List.map_congr_left fun u _=>?_
  show(if (Sum.inl u:Key)=.inl z then ((Sum.inl u:Key),V.bl true) else (.inl u,.bl true))=_
  split<;>rfl
 ·rw[if_neg h,if_neg]
  ·simp
  ·intro q
   obtain⟨p,hp,hq⟩:=List.any_eq_true.mp q
   obtain⟨u,hu,rfl⟩:=List.mem_map.mp hp
   have:(Sum.inl u:Key)=.inl z:=of_decide_eq_true hq
   exact h (Sum.inl.inj this▸hu)
theorem B8 (l:List Int):(kvT l).length<=l.length:=by
 unfold kvT aF;rw[List.length_map];have:=iE l [];simpa using this
structure Gq (H:Hp) (a:Addr) (ts:List Tri) (A:Int->Addr) (B:Int->Int->Addr):Prop where
 root:H a=some (.dK (kvI (g1 ts) A))\/(g1 ts=[]/\H a=some (.dT []))
 inn:∀ x∈g1 ts,H (A x)=some (.dK (kvI (g2 ts x) (B x)))
 leaf:∀ x y,y∈g2 ts x->H (B x y)=some (.dK (kvT (g3 ts x y)))
 d1:∀ x∈g1 ts,A x≠a
 d2:∀ x∈g1 ts,∀ x'∈g1 ts,A x=A x'->x=x'
 d3:∀ x y,y∈g2 ts x->∀ x' y',y'∈g2 ts x'->B x y=B x' y'->x=x'/\y=y'
 d4:∀ u∈g1 ts,∀ x y,y∈g2 ts x->A u≠B x y
 d5:∀ x y,y∈g2 ts x->B x y≠a
section
variable {H:Hp}{a:Addr}{ts:List Tri}{A:Int->Addr}{B:Int->Int->Addr}{x y z:Int}
theorem Gq.both (G:Gq H a ts A B)(hx:x∈g1 ts)(hy:y∈g2 ts x){H':Hp}(hm:H' (B x y)=some (.dK (kvT (g3 ts x y++[z]))))(kp:∀ c u,H c=some u->c≠B x y->H' c=some u):Gq H' a (ts++[(x,y,z)]) A B:=by
 have e1:g1 (ts++[(x,y,z)])=g1 ts:=by rw[c5];unfold dd;rw[if_pos hx]
 have e2:∀ u,g2 (ts++[(x,y,z)]) u=g2 ts u:=fun u=>by
  rw[cr]
  split
  ·rename_i h;subst h;unfold dd;rw[if_pos hy]
  ·rfl
 have hl:=G.leaf x y hy
 have na:a≠B x y:=Ne.symm (G.d5 x y hy)
 refine⟨?_,fun u hu=>?_,fun u v hv=>?_,by rw[e1];exact G.d1,by rw[e1];exact G.d2,fun u v hv u' v' hv'=>by rw[e2]at hv hv';exact G.d3 u v hv u' v' hv',fun u hu x' y' hy'=>by rw[e1]at hu;rw[e2]at hy';exact G.d4 u hu x' y' hy',fun x' y' hy'=>by rw[e2]at hy';exact G.d5 x' y' hy'⟩
 ·rw[e1]
  rcases G.root with q|⟨q,_⟩
  ·exact .inl (kp a _ q na)
  ·rw[q]at hx;simp at hx
 ·rw[e1]at hu
  rw[e2]
  exact kp _ _ (G.inn u hu) (G.d4 u hu x y hy)
 ·rw[e2]at hv
  rw[oT]
  by_cases h:x=u/\y=v
  ·obtain⟨rfl,rfl⟩:=h
   rw[if_pos ⟨rfl,rfl⟩];exact hm
  ·rw[if_neg h]
   exact kp _ _ (G.leaf u v hv) fun e=>h ((G.d3 u v hv x y hy e).imp Eq.symm Eq.symm)
theorem Gq.second (G:Gq H a ts A B)(hx:x∈g1 ts)(hy:y∉g2 ts x){l:Addr}(hl:H l=none){H':Hp}(hm:H' l=some (.dK (kvT [z])))(hc:H' (A x)=some (.dK (kvI (g2 ts x++[y]) fun v=>if v=y then l else B x v)))
 (kp:∀ c u,H c=some u->c≠A x->H' c=some u):Gq H' a (ts++[(x,y,z)]) A (fun u v=>if u=x/\v=y then l else B u v):=by
 have e1:g1 (ts++[(x,y,z)])=g1 ts:=by rw[c5];unfold dd;rw[if_pos hx]
 have ex:g2 (ts++[(x,y,z)]) x=g2 ts x++[y]:=by rw[cr,if_pos rfl];unfold dd;rw[if_neg hy]
 have e2:∀ u,u≠x->g2 (ts++[(x,y,z)]) u=g2 ts u:=fun u hu=>by rw[cr,if_neg (Ne.symm hu)]
 have old:∀ u v,v∈g2 (ts++[(x,y,z)]) u->¬ (u=x/\v=y)->v∈g2 ts u:=fun u v hv hn=>by
  by_cases h:u=x
  ·subst h
   rw[ex]at hv
   rcases List.mem_append.mp hv with q|q
   ·exact q
   ·exact(hn ⟨rfl,by simpa using q⟩).elim
  ·rw[e2 u h]at hv;exact hv
 refine⟨?_,fun u hu=>?_,fun u v hv=>?_,by rw[e1];exact G.d1,by rw[e1];exact G.d2,fun u v hv u' v' hv' e=>?_,fun u hu x' y' hy'=>?_,fun x' y' hy'=>?_⟩
 ·rw[e1]
  rcases G.root with q|⟨q,_⟩
  ·exact .inl (kp a _ q (Ne.symm (G.d1 x hx)))
  ·rw[q]at hx;simp at hx
 ·rw[e1]at hu
  by_cases h:u=x
  ·subst h
   rw[ex,hc]
   have:(fun v=>if u=u/\v=y then l else B u v)=fun v=>if v=y then l else B u v:=by funext v;simp
   rw[this]
  ·rw[e2 u h]
   have:(fun v=>if u=x/\v=y then l else B u v)=B u:=by funext v;rw[if_neg (fun z=>h z.1)]
   rw[this]
   exact kp _ _ (G.inn u hu) fun e=>h (G.d2 u hu x hx e)
 ·rw[oT]
  by_cases h:u=x/\v=y
  ·obtain⟨rfl,rfl⟩:=h
   rw[if_pos ⟨rfl,rfl⟩,if_pos ⟨rfl,rfl⟩,v7 hy];exact hm
  ·rw[if_neg h,if_neg (fun q=>h ⟨q.1.symm,q.2.symm⟩)]
   have hv':=old u v hv h
   exact kp _ _ (G.leaf u v hv') fun e=>G.d4 x hx u v hv' e.symm
 ·have nl:∀ u v,v∈g2 (ts++[(x,y,z)]) u->¬ (u=x/\v=y)->B u v≠l:=fun u v hv hn e=>by
   have:=G.leaf u v (old u v hv hn)
   rw[e,hl]at this;cases this
  try dsimp only at e
  by_cases h:u=x/\v=y<;>by_cases h':u'=x/\v'=y
  ·exact⟨h.1.trans h'.1.symm,h.2.trans h'.2.symm⟩
  ·rw[if_pos h,if_neg h']at e;exact(nl u' v' hv' h' e.symm).elim
  ·rw[if_neg h,if_pos h']at e;exact(nl u v hv h e).elim
  ·rw[if_neg h,if_neg h']at e;exact G.d3 u v (old u v hv h) u' v' (old u' v' hv' h') e
 ·rw[e1]at hu
  try dsimp only
  by_cases h:x'=x/\y'=y
  ·rw[if_pos h];exact ak (G.inn u hu) hl
  ·rw[if_neg h];exact G.d4 u hu x' y' (old x' y' hy' h)
 ·try dsimp only
  by_cases h:x'=x/\y'=y
  ·rw[if_pos h]
   rcases G.root with q|⟨q,_⟩
   ·exact(ak q hl).symm
   ·rw[q]at hx;simp at hx
  ·rw[if_neg h];exact G.d5 x' y' (old x' y' hy' h)
theorem Gq.first (G:Gq H a ts A B)(hx:x∉g1 ts){b l:Addr}(hb:H b=none)(hl:H l=none)(hbl:b≠l){H':Hp}(hm:H' l=some (.dK (kvT [z])))(hi:H' b=some (.dK [(.inl y,.ref l)]))(ha:H' a=some (.dK (kvI (g1 ts++[x]) fun u=>if u=x then b else A u)))
 (kp:∀ c u,H c=some u->c≠a->H' c=some u) (han:H a≠none):Gq H' a (ts++[(x,y,z)]) (fun u=>if u=x then b else A u) (fun u v=>if u=x/\v=y then l else B u v):=by
 have e1:g1 (ts++[(x,y,z)])=g1 ts++[x]:=by rw[c5];unfold dd;rw[if_neg hx]
 have ex:g2 (ts++[(x,y,z)]) x=[y]:=by rw[cr,if_pos rfl,oU hx];rfl
 have e2:∀ u,u≠x->g2 (ts++[(x,y,z)]) u=g2 ts u:=fun u hu=>by rw[cr,if_neg (Ne.symm hu)]
 have o1:∀ u,u∈g1 (ts++[(x,y,z)])->u≠x->u∈g1 ts:=fun u hu hn=>by
  rw[e1]at hu
  rcases List.mem_append.mp hu with q|q
  ·exact q
  ·exact(hn (by simpa using q)).elim
 have old:∀ u v,v∈g2 (ts++[(x,y,z)]) u->¬ (u=x/\v=y)->u≠x/\v∈g2 ts u:=fun u v hv hn=>by
  by_cases h:u=x
  ·subst h
   rw[ex]at hv
   exact(hn ⟨rfl,by simpa using hv⟩).elim
  ·rw[e2 u h]at hv;exact⟨h,hv⟩
 have nA:∀ u∈g1 ts,A u≠b:=fun u hu e=>by have:=G.inn u hu;rw[e,hb]at this;cases this
 refine⟨.inl (by rw[e1];exact ha),fun u hu=>?_,fun u v hv=>?_,fun u hu=>?_,fun u hu u' hu' e=>?_,fun u v hv u' v' hv' e=>?_,fun u hu x' y' hy'=>?_,fun x' y' hy'=>?_⟩
 ·by_cases h:u=x
  ·subst h
   rw[if_pos rfl,ex,hi]
   simp[kvI]
  ·rw[if_neg h,e2 u h]
   have:(fun v=>if u=x/\v=y then l else B u v)=B u:=by funext v;rw[if_neg (fun z=>h z.1)]
   rw[this]
   exact kp _ _ (G.inn u (o1 u hu h)) (G.d1 u (o1 u hu h))
 ·rw[oT]
  by_cases h:u=x/\v=y
  ·obtain⟨rfl,rfl⟩:=h
   rw[if_pos ⟨rfl,rfl⟩,if_pos ⟨rfl,rfl⟩,v7 (by rw[oU hx];simp)];exact hm
  ·rw[if_neg h,if_neg (fun q=>h ⟨q.1.symm,q.2.symm⟩)]
   obtain⟨hu,hv'⟩:=old u v hv h
   exact kp _ _ (G.leaf u v hv') (G.d5 u v hv')
 ·by_cases h:u=x
  ·rw[if_pos h];exact fun e=>han (by rw[<- e];exact hb)
  ·rw[if_neg h];exact G.d1 u (o1 u hu h)
 ·try dsimp only at e
  by_cases h:u=x<;>by_cases h':u'=x
  ·exact h.trans h'.symm
  ·rw[if_pos h,if_neg h']at e;exact(nA u' (o1 u' hu' h') e.symm).elim
  ·rw[if_neg h,if_pos h']at e;exact(nA u (o1 u hu h) e).elim
  ·rw[if_neg h,if_neg h']at e;exact G.d2 u (o1 u hu h) u' (o1 u' hu' h') e
 ·have nl:∀ u v,v∈g2 (ts++[(x,y,z)]) u->¬ (u=x/\v=y)->B u v≠l:=fun u v hv hn e=>by
   have:=G.leaf u v (old u v hv hn).2
   rw[e,hl]at this;cases this
  try dsimp only at e
  by_cases h:u=x/\v=y<;>by_cases h':u'=x/\v'=y
  ·exact⟨h.1.trans h'.1.symm,h.2.trans h'.2.symm⟩
  ·rw[if_pos h,if_neg h']at e;exact(nl u' v' hv' h' e.symm).elim
  ·rw[if_neg h,if_pos h']at e;exact(nl u v hv h e).elim
  ·rw[if_neg h,if_neg h']at e;exact G.d3 u v (old u v hv h).2 u' v' (old u' v' hv' h').2 e
 ·try dsimp only
  by_cases hu1:u=x
  ·rw[if_pos hu1]
   by_cases h:x'=x/\y'=y
   ·rw[if_pos h];exact hbl
   ·rw[if_neg h];exact(ak (G.leaf x' y' (old x' y' hy' h).2) hb).symm
  ·rw[if_neg hu1]
   by_cases h:x'=x/\y'=y
   ·rw[if_pos h];exact ak (G.inn u (o1 u hu hu1)) hl
   ·rw[if_neg h];exact G.d4 u (o1 u hu hu1) x' y' (old x' y' hy' h).2
 ·try dsimp only
  by_cases h:x'=x/\y'=y
  ·rw[if_pos h];exact fun e=>han (by rw[<- e];exact hl)
  ·rw[if_neg h];exact G.d5 x' y' (old x' y' hy' h).2
end
theorem Gq.is {H:Hp}{a:Addr}{ts:List Tri}{A:Int->Addr}{B:Int->Int->Addr}(G:Gq H a ts A B):Is H (sH a ts A B) (ax ts) (.ref a):=by
 have keys:∀(l:List Int)(C:Int->Addr),l.map ik=(kvI l C).map (fun p=>.inl p.1):=fun l C=>by unfold kvI;rw[List.map_map];rfl
 have vals:∀(l:List Int)(C:Int->Addr),(kvI l C).map Prod.snd=l.map fun x=>.ref (C x):=fun l C=>by unfold kvI;rw[List.map_map];rfl
 have inner:∀ x∈g1 ts,Is H (sH a ts A B) (js ts x) (.ref (A x)):=fun x hx=>by
  refine⟨A x,(g2 ts x).map fun y=>.ref (B x y),rfl,⟨.inl ⟨_,.inl (G.inn x hx),keys _ _,(vals _ _).symm⟩,.inr (.inl ⟨x,hx,rfl⟩)⟩,gB fun y hy=>?_⟩
  refine⟨B x y,(kvT (g3 ts x y)).map Prod.snd,rfl,⟨.inl ⟨_,.inl (G.leaf x y hy),?_,rfl⟩,.inr (.inr ⟨x,y,hy,rfl⟩)⟩,?_⟩
  ·unfold kvT;rw[List.map_map];rfl
  ·unfold kvT;rw[List.map_map];exact gB fun _ _=>rfl
 refine⟨a,(g1 ts).map fun x=>.ref (A x),rfl,⟨?_,.inl rfl⟩,gB inner⟩
 rcases G.root with q|⟨q,e⟩
 ·exact .inl ⟨_,.inl q,keys _ _,(vals _ _).symm⟩
 ·rw[q];exact .inr ⟨[],.inl e,rfl,rfl⟩
def xC (i r1 r2 r3:Nat)(env:En)(r:R):Res Fl:=match r.d with
 | .lst ds=>match eS ds with
  |some ts=>if ts.length<=1000/\¬ i∈r.al/\i≠r1/\i≠r2/\i≠r3/\r1≠r2/\r1≠r3/\r2≠r3/\r1<env.length/\r2<env.length/\r3<env.length then
   .ok (.nx (((((frz env r.al).set r1 none).set r2 none).set r3 none).set i (some (.tre (ax ts))))) else .stuck
  |none=>.stuck
 |_=>.stuck
def zJ (i r1 r2 r3:Nat)(f:En->Res R):En->Res Fl:=fun env=>match env[i]? with
 |some (some (.tre (.dic [] [])))=>(f env).bind (xC i r1 r2 r3 env)
 |_=>.stuck
def EO (K:PySem.W.Frag) (i r1 r2 r3:Nat):TS:=sX (Ha K "dict" yn (Ha K "dict" yn (fS i) (qI (fS r1) (qI sS DR))) (qI (fS r2) (qI sS DR))) (fS r3) (tC (.bl true))
theorem zK {K:PySem.W.Frag}{H:Hp}{a:Addr}{ts:List Tri}{A:Int->Addr}{B:Int->Int->Addr}{x y z:Int}{i r1 r2 r3:Nat}{σ:St}{D:Ends}(G:Gq H a ts A B)(hl:ts.length<=1000)
 (hi:σ[i]?=some (some (.ref a))) (h1:σ[r1]?=some (some (.int x))) (h2:σ[r2]?=some (some (.int y))) (h3:σ[r3]?=some (some (.int z)))
 (k:∀ H' A' B',Gq H' a (ts++[(x,y,z)]) A' B'->(∀ b u,H b=some u->¬ sH a ts A B b->H' b=some u)->(∀ b,sH a ts A B b->sH a (ts++[(x,y,z)]) A' B' b)->(∀ b,sH a (ts++[(x,y,z)]) A' B' b->sH a ts A B b\/H b=none)->D.nx σ H') :
 EO K i r1 r2 r3 D σ H:=by
 have sz:∀ n,n<=1000->n<sizeLine:=fun n h=>k7 (by unfold lim;omega)
 have han:H a≠none:=by rcases G.root with q|⟨_,q⟩<;>(rw[q];simp)
 have tya:G_ K "dict" (.ref a) H:=.inr (.inr (.inl ⟨rfl,G.root.imp (fun q=>⟨_,q⟩) fun⟨_,q⟩=>⟨_,q⟩⟩))
 refine⟨.ref a,hi,tya,.int x,h1,fun b hb=>?_⟩
 have nba:a≠b:=fun e=>han (by rw[e];exact hb)
 have kb:∀ c u,H c=some u->az H b (.dK []) c=some u:=fun c u e=>by rw[ag (ak e hb)];exact e
 have roots:(az H b (.dK []) a=some (.dK (kvI (g1 ts) A))\/(az H b (.dK []) a=some (.dT [])/\kvI (g1 ts) A=[])):=by
  rcases G.root with q|⟨e,q⟩
  ·exact .inl (kb _ _ q)
  ·exact .inr ⟨kb _ _ q,by rw[e];rfl⟩
 refine⟨a,.inl x,.ref b,kvI (g1 ts) A,rfl,rfl,roots,sz _ (by unfold kvI;rw[List.length_map];exact Nat.le_trans (EI ts) hl),?_⟩
 by_cases hx:x∈g1 ts
 ·left
  refine⟨.ref (A x),by rw[kg,if_pos hx],.inr (.inr (.inl ⟨rfl,.inl ⟨_,kb _ _ (G.inn x hx)⟩⟩)),.int y,h2,fun l hl'=>?_⟩
  have hlH:H l=none:=(aU hb).free hl'
  have kl:∀ c u,H c=some u->az (az H b (.dK [])) l (.dK []) c=some u:=fun c u e=>by rw[ag (ak e hlH)];exact kb c u e
  refine⟨A x,.inl y,.ref l,kvI (g2 ts x) (B x),rfl,rfl,.inl (kl _ _ (G.inn x hx)),sz _ (by unfold kvI;rw[List.length_map];exact Nat.le_trans (EJ ts x) hl),?_⟩
  by_cases hy:y∈g2 ts x
  ·left
   have hm:=G.leaf x y hy
   refine⟨.ref (B x y),by rw[kg,if_pos hy],.int z,h3,B x y,_,rfl,.inl (DPut.k (k:=.inl z) (kl _ _ hm) (sz _ (Nat.le_trans (B8 _) (Nat.le_trans (lw ts x y) hl)))),?_⟩
   have G':=G.both (z:=z) hx hy (H':=az (az (az H b (.dK [])) l (.dK [])) (B x y) (.dK (bu (kvT (g3 ts x y)) (.inl z) (.bl true)))) (by rw[ai,B7]) (fun c u e hn=>by rw[ag hn];exact kl c u e)
   refine k _ A B G' (fun c u e hn=>?_) (fun c hc=>?_) fun c hc=>?_
   ·rw[ag (fun q=>hn (.inr (.inr ⟨x,y,hy,q⟩)))];exact kl c u e
   ·rcases hc with q|⟨u,hu,q⟩|⟨u,v,hv,q⟩
    ·exact .inl q
    ·exact .inr (.inl ⟨u,by rw[c5,cU];exact .inl hu,q⟩)
    ·refine .inr (.inr ⟨u,v,?_,q⟩)
     rw[cr];split
     ·rw[cU];exact .inl hv
     ·exact hv
   ·left
    rcases hc with q|⟨u,hu,q⟩|⟨u,v,hv,q⟩
    ·exact .inl q
    ·rw[c5,cU]at hu
     exact .inr (.inl ⟨u,hu.elim id fun e=>e▸hx,q⟩)
    ·refine .inr (.inr ⟨u,v,?_,q⟩)
     rw[cr]at hv
     split at hv
     ·rename_i e;subst e
      rw[cU]at hv
      exact hv.elim id fun e=>e▸hy
     ·exact hv
  ·right
   refine⟨by rw[kg,if_neg hy],.int z,h3,l,_,rfl,.inl (DPut.k (k:=.inl z) (kvs:=[]) ?_ (sz _ (Nat.zero_le _))),?_⟩
   ·rw[ag (ak (G.inn x hx) hlH).symm,ai]
   ·have nAl:A x≠l:=ak (G.inn x hx) hlH
    have G':=G.second (z:=z) hx hy hlH (H':=az (az (az (az H b (.dK [])) l (.dK [])) (A x) (.dK (bu (kvI (g2 ts x) (B x)) (.inl y) (.ref l)))) l (.dK (bu [] (.inl z) (.bl true)))) ai (by rw[ag nAl,ai,v8 hy])
     (fun c u e hn=>by rw[ag (ak e hlH),ag hn];exact kl c u e)
    refine k _ A _ G' (fun c u e hn=>?_) (fun c hc=>?_) fun c hc=>?_
    ·rw[ag (ak e hlH),ag (fun q=>hn (.inr (.inl ⟨x,hx,q⟩)))];exact kl c u e
    ·rcases hc with q|⟨u,hu,q⟩|⟨u,v,hv,q⟩
     ·exact .inl q
     ·exact .inr (.inl ⟨u,by rw[c5,cU];exact .inl hu,q⟩)
     ·refine .inr (.inr ⟨u,v,?_,?_⟩)
      ·rw[cr];split
       ·rw[cU];exact .inl hv
       ·exact hv
      ·show c=if u=x/\v=y then l else B u v
       rw[if_neg]
       ·exact q
       ·rintro⟨rfl,rfl⟩;exact hy hv
    ·rcases hc with q|⟨u,hu,q⟩|⟨u,v,hv,q⟩
     ·exact .inl (.inl q)
     ·rw[c5,cU]at hu
      exact .inl (.inr (.inl ⟨u,hu.elim id fun e=>e▸hx,q⟩))
     ·by_cases h:u=x/\v=y
      ·dsimp only at q;rw[if_pos h]at q;exact .inr (by rw[q];exact hlH)
      ·dsimp only at q;rw[if_neg h]at q
       refine .inl (.inr (.inr ⟨u,v,?_,q⟩))
       rw[cr]at hv
       split at hv
       ·rename_i e;subst e
        rw[cU]at hv
        exact hv.elim id fun e=>(h ⟨rfl,e⟩).elim
       ·exact hv
 ·right
  have hroot:∀ c u,H c=some u->c≠a->az (az H b (.dK [])) a (.dK (bu (kvI (g1 ts) A) (.inl x) (.ref b))) c=some u:=fun c u e hn=>by rw[ag hn];exact kb c u e
  refine⟨by rw[kg,if_neg hx],.inr (.inr (.inl ⟨rfl,.inl ⟨[],by rw[ag (Ne.symm nba),ai]⟩⟩)),.int y,h2,fun l hl'=>?_⟩
  have nla:l≠a:=fun e=>by rw[e,ai]at hl';cases hl'
  have nlb:b≠l:=fun e=>by rw[<- e,ag (Ne.symm nba),ai]at hl';cases hl'
  have hlH:H l=none:=by
   rw[ag nla,ag (Ne.symm nlb)]at hl';exact hl'
  refine⟨b,.inl y,.ref l,[],rfl,rfl,.inl (by rw[ag nlb,ag (Ne.symm nba),ai]),by simp[sizeLine_eq],.inr ⟨rfl,.int z,h3,l,_,rfl,.inl (DPut.k (k:=.inl z) (kvs:=[]) ?_ (sz _ (Nat.zero_le _))),?_⟩⟩
  ·rw[ag (Ne.symm nlb),ai]
  ·have G':=G.first (z:=z) (y:=y) hx hb hlH nlb (H':=az (az (az (az (az H b (.dK [])) a (.dK (bu (kvI (g1 ts) A) (.inl x) (.ref b)))) l (.dK [])) b (.dK (bu [] (.inl y) (.ref l)))) l (.dK (bu [] (.inl z) (.bl true)))) ai (by rw[ag nlb,ai];rfl)
    (by rw[ag (Ne.symm nla),ag nba,ag (Ne.symm nla),ai,v8 hx]) (fun c u e hn=>by rw[ag (ak e hlH),ag (ak e hb),ag (ak e hlH)];exact hroot c u e hn) han
   refine k _ _ _ G' (fun c u e hn=>?_) (fun c hc=>?_) fun c hc=>?_
   ·rw[ag (ak e hlH),ag (ak e hb),ag (ak e hlH)]
    exact hroot c u e fun q=>hn (.inl q)
   ·rcases hc with q|⟨u,hu,q⟩|⟨u,v,hv,q⟩
    ·exact .inl q
    ·refine .inr (.inl ⟨u,by rw[c5,cU];exact .inl hu,?_⟩)
     show c=if u=x then b else A u
     rw[if_neg (show ¬ u=x from fun e=>hx (e▸hu))];exact q
    ·have hu:=Gh hv
     refine .inr (.inr ⟨u,v,?_,?_⟩)
     ·rw[cr,if_neg (show ¬ x=u from fun e=>hx (e▸hu))];exact hv
     ·show c=if u=x/\v=y then l else B u v
      rw[if_neg (show ¬ (u=x/\v=y) from fun e=>hx (e.1▸hu))];exact q
   ·rcases hc with q|⟨u,hu,q⟩|⟨u,v,hv,q⟩
    ·exact .inl (.inl q)
    ·by_cases h:u=x
     ·dsimp only at q;rw[if_pos h]at q;exact .inr (by rw[q];exact hb)
     ·dsimp only at q;rw[if_neg h]at q
      rw[c5,cU]at hu
      exact .inl (.inr (.inl ⟨u,hu.resolve_right h,q⟩))
    ·by_cases h:u=x/\v=y
     ·dsimp only at q;rw[if_pos h]at q;exact .inr (by rw[q];exact hlH)
     ·dsimp only at q;rw[if_neg h]at q
      refine .inl (.inr (.inr ⟨u,v,?_,q⟩))
      rw[cr]at hv
      split at hv
      ·rename_i e;subst e
       rw[oU hx,cU]at hv
       rcases hv with z|z
       ·simp at z
       ·exact(h ⟨rfl,z⟩).elim
      ·exact hv
section
variable {X:Cx}{E:XK}{tg:Expr}
theorem B9 {i r1 r2 r3:Nat}{l:Expr}{body:List Stmt}{f:En->Res R}{pos:Pos}(hp:PassesOwn (model X.prog X.w) X.A X.env X.xe)(hc:X.calm=true)(hl:PD X E l f)
 (hg:PG X tg (FK X.K 3 (qG (jC r1) (qG (jC r2) (qG (jC r3) FJ))))) (hb:PSs X body (EO X.K i r1 r2 r3)) (hs:∀ x,foldedSetIterable l X.env x=pure x:=by intro _;rfl):jY X E (.For tg l body [] pos) (zJ i r1 r2 r3 f):=by
 obtain⟨tl,p1,s1⟩:=hl
 refine⟨_,nX hp hc (yX p1) hg hb hs,fun g M ρ env σ H D rep p=>?_⟩
 unfold zJ at p
 split at p
 ·rename_i hq
  refine s1.oneS rep p fun r v M0 H1 e1 rep0 ro p0=>?_
  obtain⟨M1,x1,x1m,rep1,is1⟩:=ro.is rep0 e1 rep.same
  unfold xC at p0
  cases qd:r.d with
  |lst ds=>
   rw[qd]at p0
   dsimp only at p0
   cases qt:eS ds with
   |none=>rw[qt]at p0;exact p0.elim
   |some ts=>
    rw[qt]at p0
    dsimp only at p0
    by_cases hcond:ts.length<=1000/\¬ i∈r.al/\i≠r1/\i≠r2/\i≠r3/\r1≠r2/\r1≠r3/\r2≠r3/\r1<env.length/\r2<env.length/\r3<env.length
    ·rw[if_pos hcond]at p0
     obtain⟨bc,hal,ni1,ni2,ni3,n12,n13,n23,l1,l2,l3⟩:=hcond
     obtain⟨M2,ρ2,x2,rep2,o2,_,_⟩:=Rep.frz r.al rep1
     have is2:Is H1 (msk g M2 r.fr) r.d v:=Is.frozen rep1 x2 o2 is1
     have p2:=PostS.frz (⟨fun a z=>x2 a (x1m a z),fun _ _ q _=>q⟩ : Frz M0 H1 M2 H1) p0
     clear p0
     rw[qd]at is2
     have hq2:(frz env r.al)[i]?=some (some (.tre (.dic [] []))):=by rw[oF _ hal];exact hq
     have hi:i<(frz env r.al).length:=(List.getElem?_eq_some_iff.mp hq2).1
     obtain⟨va,ev,ka⟩:=rep2.slot i _ hq2
     have ka:Is H1 (ρ2 i) (.dic [] []) va:=ka
     obtain⟨a,ws,rfl,⟨dat,pa⟩,hw⟩:=ka
     obtain⟨nMa,a0,muA⟩:=rep2.priv i a pa
     have nofz:∀ o u,H1 a≠some (.frz o u):=fun o u z=>by
      obtain⟨uo,q,qm⟩:=muA
      rw[z]at q;cases q;exact qm
     have rootA:H1 a=some (.dK [])\/H1 a=some (.dT []):=by
      rcases dat with⟨kvs,e|⟨o,e⟩,h1,_⟩|⟨kvs,e|⟨o,e⟩,h1,_⟩
      ·left
       have:kvs=[]:=by simpa using h1.symm
       rw[this]at e;exact e
      ·exact(nofz _ _ e).elim
      ·right
       have:kvs=[]:=by simpa using h1.symm
       rw[this]at e;exact e
      ·exact(nofz _ _ e).elim
     have notA:∀ c u,H1 c=some u->(∀ k,u≠.dK k)->(∀ k,u≠.dT k)->c≠a:=fun c u e n1 n2 z=>by
      subst z
      rcases rootA with q|q<;>(rw[q]at e;cases e)
      ·exact n1 _ rfl
      ·exact n2 _ rfl
     obtain⟨la,vs,rfl,hla,hall⟩:=is2
     have lists:Rd H1 la (.lst vs):=hla.imp (·.1) fun⟨o,z,_⟩=>⟨o,z⟩
     have nla:la≠a:=by
      rcases hla with⟨q,_⟩|⟨o,q,_⟩
      ·exact notA la _ q (fun _ z=>nomatch z) fun _ z=>nomatch z
      ·exact notA la _ q (fun _ z=>nomatch z) fun _ z=>nomatch z
     have hvl:vs.length=ts.length:=by rw[hall.length];exact nC qt
     let Pv:Nat->St->Hp->Prop:=fun j σ' H'=>σ'.length=σ.length/\(∀ n,n≠r1->n≠r2->n≠r3->σ'[n]?=σ[n]?)/\(∀ c u,H1 c=some u->c≠a->H' c=some u)/\∃ A B,Gq H' a (ts.take j) A B/\∀ c,sH a (ts.take j) A B c->c=a\/H1 c=none
     have P0:Pv 0 σ H1:=by
      refine⟨rfl,fun _ _ _ _=>rfl,fun _ _ e _=>e,fun _=>0,fun _ _=>0,?_,?_⟩
      ·rw[List.take_zero]
       exact⟨rootA.imp (fun q=>by exact q) fun q=>⟨rfl,q⟩,fun x hx=>(by cases hx),fun x y hy=>(by cases hy),fun x hx=>(by cases hx),fun x hx=>(by cases hx),fun x y hy=>(by cases hy),fun x hx=>(by cases hx),fun x y hy=>(by cases hy)⟩
      ·rw[List.take_zero]
       rintro c (h|⟨x,hx,_⟩|⟨x,y,hy,_⟩)
       ·exact .inl h
       ·cases hx
       ·cases hy
     have sql:∀ σ' H' j,Pv j σ' H'->SqL X.K H' la vs:=fun σ' H' j z=>.inl (g_ lists fun o e=>z.2.2.1 la o e nla)
     refine⟨la,rfl,.inl ⟨⟨vs,.inl lists⟩,ya (K:=X.K) (a:=la) (xs:=vs) Pv P0 (fun j σ' H' _ z=>sql σ' H' j z) (fun j v σ' H' ex z=>?_) fun σ' H' z=>?_⟩⟩
     ·obtain⟨z1,z2,z3,A,B,G,tin⟩:=z
      obtain⟨x,y,w,pj,et,rfl,hpj⟩:=rP hall qt ex
      have hj:j<ts.length:=(List.getElem?_eq_some_iff.mp et).1
      have npj:pj≠a:=notA pj _ hpj (fun _ z=>nomatch z) fun _ z=>nomatch z
      have htk:ts.take (j+1)=ts.take j++[(x,y,w)]:=by
       have e2:ts[j]=(x,y,w):=by rw[List.getElem?_eq_getElem hj]at et;exact Option.some.inj et
       rw[<- e2,List.take_append_getElem]
      have hlσ:σ'.length=(frz env r.al).length:=by rw[z1,rep2.len]
      have b1:r1<σ'.length:=by rw[hlσ,cZ];exact l1
      have b2:r2<σ'.length:=by rw[hlσ,cZ];exact l2
      have b3:r3<σ'.length:=by rw[hlσ,cZ];exact l3
      refine⟨pj,_,rfl,SqT.of (z3 pj _ hpj npj),rfl,_,_,rfl,_,_,rfl,_,_,rfl,rfl,?_⟩
      show EO X.K i r1 r2 r3 _ (((σ'.set r1 (some (.int x))).set r2 (some (.int y))).set r3 (some (.int w))) H'
      have get:∀ n,n≠r1->n≠r2->n≠r3->(((σ'.set r1 (some (.int x))).set r2 (some (.int y))).set r3 (some (.int w)))[n]?=σ'[n]?:=fun n a1 a2 a3=>by
       rw[List.getElem?_set_ne (Ne.symm a3),List.getElem?_set_ne (Ne.symm a2),List.getElem?_set_ne (Ne.symm a1)]
      refine zK G (Nat.le_trans (by rw[List.length_take];omega) bc) (x:=x) (y:=y) (z:=w) ?_ ?_ ?_ ?_ fun H2 A' B' G' kp up dn=>?_
      ·rw[get i ni1 ni2 ni3,z2 i ni1 ni2 ni3];exact ev
      ·rw[List.getElem?_set_ne (Ne.symm n13),List.getElem?_set_ne (Ne.symm n12),List.getElem?_set_self b1]
      ·rw[List.getElem?_set_ne (Ne.symm n23),List.getElem?_set_self (by rw[List.length_set];exact b2)]
      ·rw[List.getElem?_set_self (by rw[List.length_set,List.length_set];exact b3)]
      ·refine⟨by simp[z1],fun n a1 a2 a3=>(get n a1 a2 a3).trans (z2 n a1 a2 a3),fun c u e hn=>?_,A',B',by rw[htk];exact G',fun c hc=>?_⟩
       ·refine kp c u (z3 c u e hn) fun q=>?_
        rcases tin c q with q|q
        ·exact hn q
        ·rw[e]at q;cases q
       ·rw[htk]at hc
        rcases dn c hc with q|q
        ·exact tin c q
        ·by_cases hca:c=a
         ·exact .inl hca
         ·right
          cases e:H1 c with
          |none=>rfl
          |some u=>rw[z3 c u e hca]at q;cases q
     ·obtain⟨z1,z2,z3,A,B,G,tin⟩:=z
      rw[hvl,List.take_length]at G tin
      have kM:∀ c u,H1 c=some u->(M2 c\/fixd u)->H' c=some u:=fun c u e q=>z3 c u e fun z=>by
       subst z
       rcases q with q|q
       ·exact nMa q
       ·rcases rootA with w|w<;>(rw[w]at e;cases e;exact q)
      have kR:∀ j,j≠i->∀ c u,H1 c=some u->(ρ2 j c\/fixd u)->H' c=some u:=fun j hj c u e q=>z3 c u e fun z=>by
       subst z
       rcases q with q|q
       ·exact hj (rep2.apart j i _ q pa)
       ·rcases rootA with w|w<;>(rw[w]at e;cases e;exact q)
      have muT:∀ c,sH a ts A B c->Mu H' c:=fun c hc=>by
       rcases hc with rfl|⟨x,hx,rfl⟩|⟨x,y,hy,rfl⟩
       ·rcases G.root with q|⟨_,q⟩<;>exact⟨_,q,True.intro⟩
       ·exact⟨_,G.inn x hx,True.intro⟩
       ·exact⟨_,G.leaf x y hy,True.intro⟩
      refine p2 σ' M2 (fun j c=>if j=i then sH a ts A B c else if j=r1\/j=r2\/j=r3 then False else ρ2 j c) H' ⟨fun _ z=>z,kM⟩ ?_
      have rho:∀ j c,(if j=i then sH a ts A B c else if j=r1\/j=r2\/j=r3 then False else ρ2 j c)->(j=i/\sH a ts A B c)\/(j≠i/\¬ (j=r1\/j=r2\/j=r3)/\ρ2 j c):=fun j c h=>by
       by_cases hj:j=i
       ·rw[if_pos hj]at h;exact .inl ⟨hj,h⟩
       ·rw[if_neg hj]at h
        by_cases hr:j=r1\/j=r2\/j=r3
        ·rw[if_pos hr]at h;exact h.elim
        ·rw[if_neg hr]at h;exact .inr ⟨hj,hr,h⟩
      have fresh:∀ c,sH a ts A B c->¬ M2 c/\g.H₀ c=none/\∀ j,j≠i->¬ ρ2 j c:=fun c hc=>by
       rcases tin c hc with q|q
       ·subst q;exact⟨nMa,a0,fun j hj w=>hj (rep2.apart j i _ w pa)⟩
       ·exact⟨fun w=>rep2.froz c w q,rep2.same.free q,fun j _ w=>(rep2.priv j c w).2.2.some q⟩
      have envs:∀ j,j≠i->∀ sl,(((((frz env r.al).set r1 none).set r2 none).set r3 none).set i (some (.tre (ax ts))))[j]?=some (some sl)->¬ (j=r1\/j=r2\/j=r3)/\(frz env r.al)[j]?=some (some sl):=fun j hj sl e=>by
       rw[List.getElem?_set_ne (Ne.symm hj)]at e
       by_cases h3:j=r3
       ·subst h3;rw[List.getElem?_set_self (by simp[cZ];exact l3)]at e;cases e
       ·rw[List.getElem?_set_ne (Ne.symm h3)]at e
        by_cases h2:j=r2
        ·subst h2;rw[List.getElem?_set_self (by simp[cZ];exact l2)]at e;cases e
        ·rw[List.getElem?_set_ne (Ne.symm h2)]at e
         by_cases h1:j=r1
         ·subst h1;rw[List.getElem?_set_self (by simp[cZ];exact l1)]at e;cases e
         ·rw[List.getElem?_set_ne (Ne.symm h1)]at e
          exact⟨fun z=>z.elim h1 fun z=>z.elim h2 h3,e⟩
      refine⟨fun c u e=>?_,fun c hm e=>?_,rep2.inn,fun c hm h0=>?_,fun j sl ej=>?_,fun j c w=>?_,fun j k c w1 w2=>?_,fun j c w=>?_,by simp[z1,rep2.len],fun c zc e=>?_⟩
      ·exact z3 c u (rep2.same c u e) fun z=>by rw[z,a0]at e;cases e
      ·cases q:H1 c with
       |none=>exact rep2.froz c hm q
       |some u=>rw[kM c u q (.inl hm)]at e;cases e
      ·exact(rep2.fl c hm h0).same fun o e=>kM c o e (.inl hm)
      ·by_cases hj:j=i
       ·subst hj
        rw[List.getElem?_set_self (by simpa using hi)]at ej
        cases ej
        refine⟨.ref a,by rw[z2 j ni1 ni2 ni3];exact ev,?_⟩
        rw[show(fun c=>if j=j then sH a ts A B c else if j=r1\/j=r2\/j=r3 then False else ρ2 j c)=sH a ts A B by funext c;rw[if_pos rfl]]
        exact G.is
       ·obtain⟨hr,ej'⟩:=envs j hj sl ej
        obtain⟨v',ev',k2⟩:=rep2.slot j sl ej'
        refine⟨v',by rw[z2 j (fun z=>hr (.inl z)) (fun z=>hr (.inr (.inl z))) (fun z=>hr (.inr (.inr z)))];exact ev',?_⟩
        rw[show(fun c=>if j=i then sH a ts A B c else if j=r1\/j=r2\/j=r3 then False else ρ2 j c)=ρ2 j by funext c;rw[if_neg hj,if_neg hr]]
        cases sl with
        |val d f=>exact Is.mono (fun c u e z=>kM c u e (z.imp (·.1) id)) (fun _ _ _ z=>z) k2
        |own ds' f=>
         obtain⟨c,us,rfl,q1,q2,q3⟩:=k2
         exact⟨c,us,rfl,kR j hj c _ q1 (.inl ((q2 c).mpr rfl)),q2,IsAll.mono (fun c u e z=>kM c u e (z.imp (·.1) id)) (fun _ _ _ z=>z) q3⟩
        |tre d=>exact Is.mono (fun c u e z=>kR j hj c u e z) (fun _ _ _ z=>z) k2
        |pin d=>exact⟨Is.mono (fun c u e z=>kR j hj c u e z) (fun _ _ _ z=>z) k2.1,k2.2⟩
        |mes d=>exact IsSh.mono (fun c u e z=>kM c u e (.inr z)) (fun c us z e=>⟨us,kR j hj c _ e (.inl z)⟩) (fun _ z=>z) k2
      ·rcases rho j c w with⟨rfl,q⟩|⟨hj,hr,q⟩
       ·exact⟨(fresh c q).1,(fresh c q).2.1,muT c q⟩
       ·obtain⟨q1,q2,uo,q3,qm⟩:=rep2.priv j c q
        exact⟨q1,q2,uo,kR j hj c _ q3 (.inl q),qm⟩
      ·rcases rho j c w1 with⟨rfl,q⟩|⟨hj,hr,q⟩<;>rcases rho k c w2 with⟨rfl,q'⟩|⟨hk,hr',q'⟩
       ·rfl
       ·exact((fresh c q).2.2 k hk q').elim
       ·exact((fresh c q').2.2 j hj q).elim
       ·exact rep2.apart j k c q q'
      ·unfold isOwn
       rcases rho j c w with⟨rfl,q⟩|⟨hj,hr,q⟩
       ·rw[List.getElem?_set_self (by simpa using hi)];rfl
       ·have:=rep2.ow j c q
        unfold isOwn at this
        rw[List.getElem?_set_ne (Ne.symm hj),List.getElem?_set_ne (fun z=>hr (.inr (.inr z.symm))),List.getElem?_set_ne (fun z=>hr (.inr (.inl z.symm))),List.getElem?_set_ne (fun z=>hr (.inl z.symm))]
        exact this
      ·cases q:H1 c with
       |none=>exact rep2.zz c zc q
       |some u=>
        by_cases hca:c=a
        ·subst hca
         exact(muT c (.inl rfl)).some e
        ·rw[z3 c u q hca]at e;cases e
    ·rw[if_neg hcond]at p0;exact p0.elim
  |_=>rw[qd]at p0;exact p0.elim
 ·exact p.elim
end
end L3
namespace L3
open PySem PySem.Spec PyProof.Rows L2
section
variable {X:Cx}{E:XK}
def dB:List R->Res R
 | [r]=>match r.d with
  | .dic ks _=>match gn ks with
   |some xs=>if xs.length<=lim then .ok (.new xs true) else .stuck
   |none=>.stuck
  |_=>rq [r]
 |_=>.stuck
theorem rV {H:Hp}{m:Addr->Prop}:∀(kvs:List (Key×V)),IsAll H m (kvs.map fun p=>kD p.1) (kvs.map fun p=>kV p.1)
 | []=>rfl
 |p::r=>⟨_,_,rfl,v6 p.1,rV r⟩
theorem dC (hc:X.calm=true):fL X E (.type "list") dB:=by
 obtain⟨r0,c0,s0⟩:=BK (X:=X) (E:=E)
 refine⟨fun xs H Q=>yK xs H Q\/r0 xs H Q,fun pins s σ H xs us Q I r h=>h.elim (tL hc pins s σ H xs us Q I r) (c0 pins s σ H xs us Q I r),fun g M ρ env σ H Q rs vs rep i p=>?_⟩
 match rs,i,p with
 | [r],i,p=>
  unfold dB at p
  dsimp only at p
  split at p
  ·rename_i ks ds q
   cases qk:gn ks with
   |none=>rw[qk]at p;exact p.elim
   |some xs=>
    rw[qk]at p
    dsimp only at p
    by_cases hl:xs.length<=lim
    ·rw[if_pos hl]at p
     left
     obtain⟨v,w,rfl,i1,i2⟩:=i
     cases i2
     have i1:Is H (vmsk g M (aR [r]) ρ (aY [r])) r.d v:=i1
     rw[q]at i1
     obtain⟨d,kvs,u,rfl,md,hu,hrd,rfl,hall⟩:=jp i1 (lC qk)
     have ex:xs=kvs.map fun p=>kD p.1:=iB qk
     subst ex
     refine⟨d,kvs,u,rfl,hu,hrd,by rw[List.length_map]at hl;exact fy hl,fun l hl'=>p.new rep hl' (rV kvs)⟩
    ·rw[if_neg hl]at p;exact p.elim
  ·exact .inr (s0 g M ρ env σ H Q [r] vs rep i p)
 | [],_,p=>exact p.elim
 |_::_::_,_,p=>exact p.elim
def kh (rs:List R):Res R:=match rs.map R.d with
 | [.int j]=>if 0<=j/\j<=1000 then .ok (.new (du 0 j.toNat) true) else .stuck
 |_=>.stuck
theorem xD {a:Expr} {fs:En->Res (List R)} {p pos p2 pos2:Pos} (hc:X.calm=true) (hgl:Gl X "list") (hml:X.mg "list"=none) (hvl:bootBuiltins "list"=some (.type "list")) (hg:Gl X "range") (hm:X.mg "range"=none) (ha:xV X E [a] fs) (hs:starEach [a] X.env=[(false,eval a X.env)]:=by rfl)
 (hs2:starEach [.Call (.Name "range" p2) [a] [] pos2] X.env=[(false,eval (.Call (.Name "range" p2) [a] [] pos2) X.env)]:=by rfl):PD X E (.Call (.Name "list" p) [.Call (.Name "range" p2) [a] [] pos2] [] pos) (i8 kh fs):=by
 obtain⟨t,p1,s1⟩:=ha
 refine⟨_,xb hc hgl hml hvl hg hm p1 hs hs2,fun g M ρ env σ H Q rep p=>s1.oneE rep p fun rs vs M1 H1 e1 rep1 i1 q1=>?_⟩
 unfold kh at q1
 generalize rs.map R.d=ds at i1 q1
 split at q1
 ·rename_i j
  obtain⟨v,w,rfl,k1,k2⟩:=i1
  cases k1;cases k2
  by_cases hj:0<=j/\j<=1000
  ·rw[if_pos hj]at q1
   refine⟨j,rfl,hj.1,hj.2,fun l hl=>?_⟩
   have e:((List.range j.toNat).map fun k=>(V.int (k:Nat)))=((List.range j.toNat).map fun(k:Nat)=>(V.int (0+(k:Nat)))):=List.map_congr_left fun k _=>by rw[Int.zero_add]
   rw[e]
   refine q1.new rep1 hl ?_
   unfold du
   generalize List.range j.toNat=l0
   induction l0 with
   |nil=>exact rfl
   |cons k r ih=>exact⟨_,_,rfl,rfl,ih⟩
  ·rw[if_neg hj]at q1;exact q1.elim
 ·exact q1.elim
def Gk:V->List V->Hp->VK->Prop:=fun x xs H Q=>∃ l vs ds d m m' y j,x=.ref l/\xs=[y]/\H l=some (.lst vs)/\IsAll H m ds vs/\Is H m' d y/\(D.deps ds<=50/\d.dep<=50)/\ds.findIdx? (fun e=>cB e d)=some j/\Q .non (az H l (.lst (vs.eraseIdx j)))
theorem v9 (hu:X.A.units+64<cLine):G8 X "list.remove" Gk:=by
 intro pins s σ H x vs v us Q I rx rv h
 obtain⟨l,xs,ds,d,m,m',y,j,rfl,rfl,hH,is,ix,hd,hj,q⟩:=h
 cases rx
 obtain⟨u,rfl,ru⟩:=rv.one
 obtain⟨z,its,n,r,hl,e⟩:=I.lstM hH
 obtain⟨hj1,hj2,hj3⟩:=List.findIdx?_eq_some_iff_getElem.mp hj
 have lds:=is.length
 have hji:j<its.length:=by omega
 have eqs:∀(k:Nat)(hk:k<its.length)(hk':k<ds.length),bJ H m d its[k]=cB ds[k] d:=fun k hk hk'=>by
  obtain⟨w,ew,iw⟩:=is.get (i:=k) (d:=ds[k]) (by simp[hk'])
  obtain⟨u',eu,ru'⟩:=r.get ew
  have:its[k]=u':=by rw[List.getElem?_eq_getElem hk]at eu;exact Option.some.inj eu
  rw[this]
  exact ji ru' iw
 refine call_meets F.slot_list_remove ⟨_,e,rfl⟩ F.entry_list_remove (F.args_list_remove_2 _ _) (yL l its.toArray n u (bJ H m d) j (by simpa using hji) ?_ (by rw[List.size_toArray];omega) ?_) ⟨e,?_,?_⟩
 ·simp only[List.getElem_toArray]
  rw[eqs j hji hj1];exact hj2
 ·intro k hk hkj
  have hk':k<its.length:=by simpa using hk
  simp only[List.getElem_toArray]
  rw[eqs k hk' (by omega)]
  have:=hj3 k hkj
  simpa using this
 ·exact fun w hw=>c_ I (by show X.A.units+1+50<cLine;omega) ix hd.2 ru is r hd.1 w (by simpa using hw)
 ·refine⟨.non,_,I.lset (its':=its.eraseIdx j) hH e (by show its.toArray.eraseIdxIfInBounds j=(its.eraseIdx j).toArray;rw[List.eraseIdxIfInBounds_toArray]) (r.eraseIdx j) ?_,rfl,q⟩
  have:=List.length_eraseIdx_le xs j
  omega
theorem IsAll.eraseIdx {H:Hp}{m:Addr->Prop}:∀{ds:List D}{vs:List V}(j:Nat),IsAll H m ds vs->IsAll H m (ds.eraseIdx j) (vs.eraseIdx j)
 | [],_,_,h=>by cases h;exact rfl
 |d::ds,_,0,h=>by obtain⟨v,r,rfl,h1,h2⟩:=h;exact h2
 |d::ds,_,j+1,h=>by obtain⟨v,r,rfl,h1,h2⟩:=h;exact⟨_,_,rfl,h1,IsAll.eraseIdx j h2⟩
def fO (ds:List D)(d:D):Option Nat:=if D.deps ds<=50/\d.dep<=50/\D.flats ds=true/\d.flat=true then ds.findIdx? (fun e=>cB e d) else none
theorem rW {ds:List D}{d:D}{j:Nat}(h:fO ds d=some j):(D.deps ds<=50/\d.dep<=50)/\D.flats ds=true/\d.flat=true/\ds.findIdx? (fun e=>cB e d)=some j:=by
 unfold fO at h
 by_cases hc:D.deps ds<=50/\d.dep<=50/\D.flats ds=true/\d.flat=true
 ·rw[if_pos hc]at h;exact⟨⟨hc.1,hc.2.1⟩,hc.2.2.1,hc.2.2.2,h⟩
 ·rw[if_neg hc]at h;cases h
theorem jN:∀{ds:List D}(j:Nat),D.flats ds=true->D.flats (ds.eraseIdx j)=true
 | [],_,h=>h
 |d::ds,0,h=>by simp only[D.flats,Bool.and_eq_true]at h;exact h.2
 |d::ds,j+1,h=>by
  simp only[D.flats,Bool.and_eq_true]at h
  show D.flats (d::ds.eraseIdx j)=true
  simp only[D.flats,Bool.and_eq_true]
  exact⟨h.1,jN j h.2⟩
def tZ (i:Nat)(ds:List D)(fr:Bool)(env:En)(r:R):Res Fl:=match fO ds r.d with
 |some j=>.ok (.nx (env.set i (some (.own (ds.eraseIdx j) fr))))
 |none=>.stuck
def zL (i:Nat)(f:En->Res R):En->Res Fl:=fun env=>match env[i]? with
 |some (some (.own ds fr))=>(f env).bind (tZ i ds fr env)
 |_=>.stuck
theorem B_ {i:Nat} {o a:Expr} {f:En->Res R} {apos cpos pos:Pos} (hu:X.A.units+64<cLine) (ho:PE X o (fS i)) (ha:PD X E a f) (hbase:attributeBase o "remove" X.env (eval o X.env)=eval o X.env:=by rfl)
 (hfew:((backTo cpos (starEach [a] X.env)).all (fun x=>!x.1)&&(backToKw cpos (keywordEach [] X.env)).all (fun x=>x.1.isSome)&&decide (([a]:List Expr).length+([]:List Keyword).length+(if ([]:List Keyword).isEmpty then 0 else 1)<30))=true:=by rfl)
 (hline:(apos.endLine==cpos.line)=true:=by rfl) (hs:starEach [a] X.env=(false,eval a X.env)::starEach [] X.env:=by rfl) (hplain:(backTo cpos (starEach [] X.env)).any (·.1)=false:=by rfl)
 (hsw:swapsWith (.Call (.Attribute o "remove" apos) [a] [] cpos) none pos.line X.env=pure false:=by rfl):jY X E (.Expr (.Call (.Attribute o "remove" apos) [a] [] cpos) pos) (zL i f):=by
 obtain⟨t,p1,s1⟩:=ha
 refine⟨_,nW (qN PySem.F.plainAttrs_list PySem.F.slot_list_remove PySem.F.type_list_remove (v9 hu) ho (be p1 di hs) hbase hfew hline hs hplain) hsw,fun g M ρ env σ H D rep p=>?_⟩
 unfold zL at p
 split at p
 ·rename_i ds fr hq
  have hi:i<env.length:=(List.getElem?_eq_some_iff.mp hq).1
  obtain⟨v,ev,a0,vs,rfl,k1,k2,k4⟩:=rep.slot i _ hq
  refine⟨_,ev,.inl ⟨rfl,vs,SqL.of k1⟩,s1.oneS rep p fun r y M1 H1 e1 rep1 ro p1=>?_⟩
  obtain⟨M2,x2,x2m,rep2,is2⟩:=ro.is rep1 e1 rep.same
  unfold tZ at p1
  cases qj:fO ds r.d with
  |none=>rw[qj]at p1;exact p1.elim
  |some j=>
   rw[qj]at p1
   dsimp only at p1
   obtain⟨hd,hfl,hfd,hj⟩:=rW qj
   have h1:H1 a0=some (.lst vs):=e1.h _ _ k1
   have hall:IsAll H1 (fun _=>False) ds vs:=IsAll.flat hfl (k4.same e1.h)
   have pa:ρ i a0:=(k2 a0).mpr rfl
   refine⟨a0,vs,ds,r.d,_,_,y,j,rfl,rfl,h1,hall,is2,hd,hj,?_⟩
   have hall2:IsAll (az H1 a0 (.lst (vs.eraseIdx j))) (msk g M2 fr) (ds.eraseIdx j) (vs.eraseIdx j):=(hall.eraseIdx j).mono (fun b u q z=>by
    rw[ag]
    ·exact q
    ·rintro rfl
     rcases z with z|z
     ·exact z.elim
     ·rw[h1]at q;cases q;exact z) fun _ _ _ z=>z.elim
   obtain⟨f1,rep3⟩:=rep2.write (sl:=.own (ds.eraseIdx j) fr) (vs':=vs.eraseIdx j) pa hi ev ⟨a0,_,rfl,ai,k2,hall2⟩
   exact p1 σ M2 ρ _ (Frz.trans ⟨x2m,fun _ _ q _=>q⟩ f1) rep3
 ·exact p.elim
def t3 (r0 r1 r2:R):Res R:=match r1,r2 with
 | .new d1 _,.new d2 _=>if r0.d.flat/\D.flats d1=true/\D.flats d2=true then .ok (.fre (.tup [r0.d,.lst d1,.lst d2])) else .stuck
 |_,_=>.stuck
def GP (f0 f1 f2:En->Res R):En->Res R:=fun env=>(f0 env).bind fun r0=>(f1 env).bind fun r1=>(f2 env).bind fun r2=>t3 r0 r1 r2
theorem C4 {e0 e1 e2:Expr}{f0 f1 f2:En->Res R}{k:Nat}{pos:Pos}(h0:PD X E e0 f0)(h1:PD X E e1 f1)(h2:PD X E e2 f2)(hs0:starEach [e0,e1,e2] X.env=(false,eval e0 X.env)::starEach [e1,e2] X.env:=by rfl)(hs1:starEach [e1,e2] X.env=(false,eval e1 X.env)::starEach [e2] X.env:=by rfl)(hs2:starEach [e2] X.env=(false,eval e2 X.env)::starEach [] X.env:=by rfl):PD X E (.Tuple [e0,e1,e2] k pos) (GP f0 f1 f2):=by
 obtain⟨t0,p0,s0⟩:=h0
 obtain⟨t1,p1,s1⟩:=h1
 obtain⟨t2,p2,s2⟩:=h2
 refine⟨_,yc (be p0 (be p1 (be p2 di hs2) hs1) hs0),fun g M ρ env σ H Q rep p=>?_⟩
 have p:PostE X.mg E g M ρ env σ H Q ((f0 env).bind fun r0=>(f1 env).bind fun r1=>(f2 env).bind fun r2=>t3 r0 r1 r2):=p
 refine s0.oneE rep p fun r0 v0 M0 H0 x0 rep0 i0 q0=>?_
 refine s1 g M0 ρ env σ H0 _ rep0 ?_
 cases e1':f1 env with
 |stuck=>rw[e1']at q0;exact q0
 |exc c=>rw[e1']at q0;exact q0
 |ok r1=>
  rw[e1']at q0
  intro v1 M1 H1 x1 rep1 ro1
  refine s2 g M1 ρ env σ H1 _ rep1 ?_
  simp only[Res.bind_ok]at q0
  cases e2':f2 env with
  |stuck=>rw[e2']at q0;exact q0
  |exc c=>rw[e2']at q0;exact q0
  |ok r2=>
   rw[e2']at q0
   simp only[Res.bind_ok]at q0
   intro v2 M2 H2 x2 rep2 ro2
   unfold t3 at q0
   cases r1 with
   |val d fr al=>exact q0.elim
   |fre d=>exact q0.elim
   |new d1 fr1=>
    cases r2 with
    |val d fr al=>exact q0.elim
    |fre d=>exact q0.elim
    |new d2 fr2=>
     dsimp only at q0
     by_cases hc:r0.d.flat=true/\D.flats d1=true/\D.flats d2=true
     ·rw[if_pos hc]at q0
      obtain⟨c0,c1,c2⟩:=hc
      obtain⟨a1,w1,rfl,g1,g2,g3,g4,g5⟩:=ro1
      obtain⟨a2,w2,rfl,k1,k2,k3,k4,k5⟩:=ro2
      refine⟨by show 3<=sizeLine;decide,fun b hb=>?_⟩
      have sb:Same H2 (az H2 b (.tup [v0,.ref a1,.ref a2])):=aU hb
      have g1':H2 a1=some (.lst w1):=x2.h _ _ g1
      have nm1:¬ M2 a1:=fun z=>(x2.n a1 z).elim g2 fun w=>by rw[g1]at w;cases w
      have g3':H0 a1=none:=g3
      have k3':H1 a2=none:=k3
      have n12:a1≠a2:=fun e=>by rw[e,k3']at g1;cases g1
      refine q0 (.ref b) M2 _ ((x1.trans x2).trans ⟨fun _ z=>z,sb,fun _ z=>.inl z⟩) (rep2.grow sb) ⟨fun a=>a=a1\/a=a2,fun a z=>?_,b,_,rfl,ai,v0,_,rfl,Is.flat c0 ((((i0.same x1.h).same x2.h)).same sb),.ref a1,_,rfl,⟨a1,w1,rfl,.inl ⟨sb _ _ g1',.inl rfl⟩,IsAll.flat c1 ((g5.same x2.h).same sb)⟩,.ref a2,_,rfl,⟨a2,w2,rfl,.inl ⟨sb _ _ k1,.inr rfl⟩,IsAll.flat c2 (k5.same sb)⟩,rfl⟩
      rcases z with rfl|rfl
      ·exact⟨nm1,g3',⟨_,sb _ _ g1',True.intro⟩,g4⟩
      ·exact⟨k2,x1.h.free k3',⟨_,sb _ _ k1,True.intro⟩,k4⟩
     ·rw[if_neg hc]at q0;exact q0.elim
def lG (i:Nat)(d0:D)(d1 d2:List D)(env:En)(r:R):Res Fl:=if d0.flat=true/\D.flats d2=true/\eqDs d1 d2=false then (match fO d1 r.d with
 |some j=>.ok (.nx (env.set i (some (.tre (.tup [d0,.lst (d1.eraseIdx j),.lst d2])))))
 |none=>.stuck) else .stuck
def rX (i:Nat)(f:En->Res R):En->Res Fl:=fun env=>match env[i]? with
 |some (some (.tre (.tup [d0,.lst d1,.lst d2])))=>(f env).bind (lG i d0 d1 d2 env)
 |_=>.stuck
theorem zM {i:Nat} {o a:Expr} {f:En->Res R} {jc ipos apos cpos pos:Pos} {jk} (hu:X.A.units+64<cLine) (ho:PE X o (fS i)) (hns:Bs (.Constant (.int 1) jk jc)) (ha:PD X E a f) (hbase:attributeBase (.Subscript o (.Constant (.int 1) jk jc) ipos) "remove" X.env (eval (.Subscript o (.Constant (.int 1) jk jc) ipos) X.env)=eval (.Subscript o (.Constant (.int 1) jk jc) ipos) X.env:=by rfl)
 (hfew:((backTo cpos (starEach [a] X.env)).all (fun x=>!x.1)&&(backToKw cpos (keywordEach [] X.env)).all (fun x=>x.1.isSome)&&decide (([a]:List Expr).length+([]:List Keyword).length+(if ([]:List Keyword).isEmpty then 0 else 1)<30))=true:=by rfl)
 (hline:(apos.endLine==cpos.line)=true:=by rfl) (hs:starEach [a] X.env=(false,eval a X.env)::starEach [] X.env:=by rfl) (hplain:(backTo cpos (starEach [] X.env)).any (·.1)=false:=by rfl)
 (hsw:swapsWith (.Call (.Attribute (.Subscript o (.Constant (.int 1) jk jc) ipos) "remove" apos) [a] [] cpos) none pos.line X.env=pure false:=by rfl):jY X E (.Expr (.Call (.Attribute (.Subscript o (.Constant (.int 1) jk jc) ipos) "remove" apos) [a] [] cpos) pos) (rX i f):=by
 obtain⟨t,p1,s1⟩:=ha
 refine⟨_,nW (qN PySem.F.plainAttrs_list PySem.F.slot_list_remove PySem.F.type_list_remove (v9 hu) (CO ix_tup ho xY hns) (be p1 di hs) hbase hfew hline hs hplain) hsw,fun g M ρ env σ H Dn rep p=>?_⟩
 unfold rX at p
 split at p
 ·rename_i d0 d1 d2 hq
  have hi:i<env.length:=(List.getElem?_eq_some_iff.mp hq).1
  obtain⟨v,ev,kk⟩:=rep.slot i _ hq
  have kk:Is H (ρ i) (.tup [d0,.lst d1,.lst d2]) v:=kk
  obtain⟨b,ws,rfl,hb,v0,r0,rfl,i0,v1,r1,rfl,i1,v2,r2,rfl,i2,i3⟩:=kk
  cases i3
  have i1':=i1
  have i2':=i2
  obtain⟨a1,w1,rfl,g1,g2⟩:=i1
  have muOf:∀ a vs,((H a=some (.lst vs)/\ρ i a)\/∃ o,H a=some (.frz o (.lst vs))/\ρ i a)->H a=some (.lst vs)/\ρ i a:=fun a vs z=>by
   rcases z with z|⟨o,z1,z2⟩
   ·exact z
   ·obtain⟨uo,y1,y2⟩:=(rep.priv i a z2).2.2
    rw[z1]at y1;cases y1;exact y2.elim
  obtain⟨g1,pa1⟩:=muOf a1 w1 g1
  refine⟨.ref b,ev,b,[v0,.ref a1,v2],1,.ref a1,rfl,rfl,SqT.of hb,rfl,.inl ⟨rfl,w1,SqL.of g1⟩,s1.oneS rep p fun r y M1 H1 e1 rep1 ro p1=>?_⟩
  obtain⟨M2,x2,x2m,rep2,is2⟩:=ro.is rep1 e1 rep.same
  unfold lG at p1
  by_cases hc:d0.flat=true/\D.flats d2=true/\eqDs d1 d2=false
  ·rw[if_pos hc]at p1
   obtain⟨c0,c2,c3⟩:=hc
   cases qj:fO d1 r.d with
   |none=>rw[qj]at p1;exact p1.elim
   |some j=>
    rw[qj]at p1
    dsimp only at p1
    obtain⟨hd,hfl,hfd,hj⟩:=rW qj
    obtain⟨a2,w2,rfl,k1,k2⟩:=i2
    obtain⟨k1,pa2⟩:=muOf a2 w2 k1
    have n12:a1≠a2:=fun e=>by
     subst e
     have:=Is.inj i1' i2'
     cases this
     rw[eqDs_refl]at c3;cases c3
    have h1:H1 a1=some (.lst w1):=e1.h _ _ g1
    have hall:IsAll H1 (fun _=>False) d1 w1:=IsAll.flat hfl (g2.same e1.h)
    refine⟨a1,w1,d1,r.d,_,_,y,j,rfl,rfl,h1,hall,is2,hd,hj,?_⟩
    have up:∀ c u,H1 c=some u->c≠a1->az H1 a1 (.lst (w1.eraseIdx j)) c=some u:=fun c u q n=>by rw[ag n];exact q
    have keepF:∀ c u,H1 c=some u->(False\/fixd u)->az H1 a1 (.lst (w1.eraseIdx j)) c=some u:=fun c u q z=>up c u q fun e=>by
     subst e
     rcases z with z|z
     ·exact z
     ·rw[h1]at q;cases q;exact z
    have flat1:∀{ds:List L3.D}{vs:List V},D.flats ds=true->IsAll H1 (fun _=>False) ds vs->IsAll (az H1 a1 (.lst (w1.eraseIdx j))) (ρ i) ds vs:=fun hf z=>z.mono keepF fun _ _ _ z=>z.elim
    have nb:b≠a1:=fun e=>by subst e;rw[hb]at g1;cases g1
    obtain⟨f1,rep3⟩:=rep2.write (sl:=.tre (.tup [d0,.lst (d1.eraseIdx j),.lst d2])) (vs':=w1.eraseIdx j) pa1 hi ev ⟨b,_,rfl,up _ _ (e1.h _ _ hb) nb,v0,_,rfl,(Is.flat (m':=fun _=>False) c0 (i0.same e1.h)).mono keepF fun _ _ _ z=>z.elim,
     .ref a1,_,rfl,⟨a1,w1.eraseIdx j,rfl,.inl ⟨ai,pa1⟩,flat1 (jN j hfl) (hall.eraseIdx j)⟩,.ref a2,_,rfl,⟨a2,w2,rfl,.inl ⟨up _ _ (e1.h _ _ k1) (Ne.symm n12),pa2⟩,flat1 c2 (IsAll.flat c2 (k2.same e1.h))⟩,rfl⟩
    exact p1 σ M2 ρ _ (Frz.trans ⟨x2m,fun _ _ q _=>q⟩ f1) rep3
  ·rw[if_neg hc]at p1;exact p1.elim
 ·exact p.elim
def cu (i:Nat)(f:En->Res R):En->Res Fl:=fun env=>(f env).bind fun r=>if i<env.length then .ok (.nx ((frz env r.al).set i (some (.val r.d r.fr)))) else .stuck
theorem bZ {i:Nat}{x:Str}{e:Expr}{f:En->Res R}{pos pos':Pos}(hN:X.N.Nodup)(hi:X.N[i]?=some x)(hx:CK X.env.scope x)(h:PD X E e f)(hs:swapsWith e (some (.Name x pos')) pos.line X.env=pure false:=by rfl)
 (hf:X.fn x=true\/X.env.scope.names.lookup x=some .local:=by first|exact .inl rfl|exact .inr rfl|assumption):jY X E (.Assign [.Name x pos'] e pos) (cu i f):=by
 obtain⟨t,p1,s1⟩:=h
 refine⟨_,sI hN hi hx p1 hs hf,fun g M ρ env σ H D rep p=>?_⟩
 refine s1.oneS rep p fun r v M' H' e rep' ro p'=>?_
 by_cases hi:i<env.length
 ·rw[if_pos hi]at p'
  obtain⟨M2,x2,x2m,rep2,is2⟩:=ro.is rep' e rep.same
  obtain⟨M3,ρ3,x3,rep3,o3,_,_⟩:=Rep.frz r.al rep2
  have rep4:=rep3.put (i:=i) (sl:=.val r.d r.fr) (T:=fun _=>False) (by rw[cZ];exact hi) (Is.frozen rep2 x3 o3 is2) (fun _ z=>z.elim) fun _ z=>z.elim
  exact p' _ M3 _ H' ⟨fun a z=>x3 a (x2m a z),fun _ _ q _=>q⟩ rep4
 ·rw[if_neg hi]at p';exact p'.elim
def lH:List R->Res R
 | [r]=>match r.d with
  | .lst ds=>match gP ds with
   |some ns=>if ns.isEmpty then .stuck else .ok (.val (.int (jW ns)) true [])
   |none=>.stuck
  |_=>.stuck
 |rs=>BW rs
theorem v_ (hc:X.calm=true):fL X E (.builtin "min") lH:=by
 obtain⟨r0,c0,s0⟩:=Ev (X:=X) (E:=E) hc
 refine⟨fun xs H Q=>(∃ p ns,xs=[.ref p]/\SqL X.K H p (ns.map V.int)/\ns≠[]/\Q (.int (jW ns)) H)\/r0 xs H Q,fun pins s σ H xs us Q I r h=>h.elim (xf hc pins s σ H xs us Q I r) (c0 pins s σ H xs us Q I r),fun g M ρ env σ H Q rs vs rep i p=>?_⟩
 match rs,i,p with
 | [r],i,p=>
  left
  unfold lH at p
  dsimp only at p
  obtain⟨v,w,rfl,i1,i2⟩:=i
  cases i2
  have i1:Is H (vmsk g M (aR [r]) ρ (aY [r])) r.d v:=i1
  cases q:r.d with
  |lst ds=>
   rw[q]at p i1
   dsimp only at p
   obtain⟨a,ws,rfl,h1,h2⟩:=i1.rd
   cases qi:gP ds with
   |none=>rw[qi]at p;exact p.elim
   |some ns=>
    rw[qi]at p
    dsimp only at p
    by_cases hn:ns.isEmpty=true
    ·rw[if_pos hn]at p;exact p.elim
    ·rw[if_neg hn]at p
     have ew:ws=ns.map V.int:=by rw[h2.ints qi];unfold iK;rw[List.map_map];rfl
     rw[ew]at h1
     exact⟨a,ns,rfl,.inl h1,fun z=>hn (by rw[z];rfl),p _ M H (Ext.refl _ _) rep rfl⟩
  |_=>rw[q]at p;exact p.elim
 | [],i,p=>exact .inr (s0 g M ρ env σ H Q [] vs rep i p)
 |r::r'::rs',i,p=>exact .inr (s0 g M ρ env σ H Q (r::r'::rs') vs rep i p)
theorem qv (i:Nat) {x:Str} {pos:Pos} (hN:X.N[i]?=some x:=by rfl) (hv:Vis X.env.scope x:=by first|exact Or.inl rfl|exact Or.inr (Or.inl rfl)|exact Or.inr (Or.inr rfl)) (hd:(x==("__debug__" : Str))=false:=by decide)
 (hc:(x==("__classdict__" : Str))=false:=by decide):PD X E (.Name x pos) (ad i):=hG (pv i hN hv hd hc)
theorem aC {i:Nat}{o:Expr}{k:Int}{j:Nat}{pos pos':Pos}(hu:X.A.units+64<cLine)(h:PE X o (fS i)):PD X E (.Subscript o (.Constant (.int k) j pos') pos) (aN i (vC (.int k))):=jl (jf h ap (fun _ _=>rfl)) (gA hu (hG h) ap (fun _ _=>rfl))
end
end L3
set_option autoImplicit false
namespace L3
open PySem L2
section
variable {env aB:En}{i j:Nat}{d:D}{ds es:List D}{f g:Bool}{al bl:List Nat}{x y:Int}
def kS (k:En->Res Fl):Fl->Res Fl
 | .nx aB=>k aB
 |r=>.ok r
theorem iF (f k:En->Res Fl)(env:En):ay f k env=(f env).bind (kS k):=by
 rfl
theorem EQ (k:En->Res Fl)(e:En):kS k (.nx e)=k e:=(rfl)
theorem ER (k:En->Res Fl)(r:R):kS k (.rt r)=.ok (.rt r):=(rfl)
def Hu (a b:En->Res Fl)(env:En)(k:Bool):Res Fl:=if k then a env else b env
theorem ES (c:En->Res Bool)(a b:En->Res Fl)(env:En):kc c a b env=(c env).bind (Hu a b env):=(rfl)
theorem zN (a b:En->Res Fl)(env:En):Hu a b env true=a env:=(rfl)
theorem zO (a b:En->Res Fl)(env:En):Hu a b env false=b env:=(rfl)
theorem zP (env:En):c4 env=.ok (.nx env):=(rfl)
def Gm (r:R):Res Fl:=.ok (.rt r)
theorem zQ (a:En->Res R)(env:En):bX a env=(a env).bind Gm:=(rfl)
theorem t4 (r:R):Gm r=.ok (.rt r):=(rfl)
def Gn (i:Nat)(env:En)(r:R):Res Fl:=if i<env.length then .ok (.nx (put env i r)) else .stuck
theorem zR (i:Nat)(a:En->Res R)(env:En):bo i a env=(a env).bind (Gn i env):=(rfl)
theorem t5 (r:R)(h:i<env.length):Gn i env r=.ok (.nx (put env i r)):=if_pos h
theorem t7:put env i (.val d f [])=env.set i (some (.val d f)):=(rfl)
theorem t8:put env i (.new ds f)=env.set i (some (.own ds f)):=(rfl)
theorem t9:put env i (.fre d)=env.set i (some (.tre d)):=(rfl)
def Fz (i:Nat):Option (Option Sl)->Res R
 |some (some (.val d fr))=>.ok (mkV d fr [])
 |some (some (.own ds fr))=>.ok (.val (.lst ds) fr [i])
 |some (some (.tre d))=>.ok (.val d true [i])
 |some (some (.pin d))=>.ok (.val d true [i])
 |_=>.stuck
theorem wa (i:Nat)(env:En):ad i env=Fz i env[i]?:=by unfold ad Fz;rfl
theorem zS:Fz i (some (some (.val d f)))=.ok (mkV d f []):=(rfl)
theorem zT:Fz i (some (some (.own ds f)))=.ok (.val (.lst ds) f [i]):=(rfl)
theorem zU:Fz i (some (some (.tre d)))=.ok (.val d true [i]):=(rfl)
theorem zV:Fz i (some (some (.pin d)))=.ok (.val d true [i]):=(rfl)
theorem Hv (d:D)(env:En):vC d env=.ok (.val d true []):=(rfl)
theorem t_ (h:d.flat=true):mkV d f al=.val d true []:=by unfold mkV;rw[if_pos h]
theorem ua (h:d.flat=false):mkV d f al=.val d f al:=by unfold mkV;rw[if_neg (by rw[h];simp)]
theorem fG (h:D.flats ds=true):jb ds f al=.new ds true:=by unfold jb;rw[if_pos h]
theorem oW:jb ds true []=.new ds true:=by unfold jb;split<;>rfl
def HK (op:R->R->Res R)(fb:En->Res R)(env:En)(ra:R):Res R:=(fb env).bind (op ra)
theorem ET (op:R->R->Res R)(fa fb:En->Res R)(env:En):v2 op fa fb env=(fa env).bind (HK op fb env):=(rfl)
theorem zW (op:R->R->Res R)(fb:En->Res R)(env:En)(ra:R):HK op fb env ra=(fb env).bind (op ra):=(rfl)
theorem zX:fA (.val (.int x) f al) (.val (.int y) g bl)=.ok (.val (.int (x+y)) true []):=(rfl)
theorem zY:Eg (.val (.int x) f al) (.val (.int y) g bl)=.ok (.val (.int (x-y)) true []):=(rfl)
theorem ub (h1:-18446744073709551616<y)(h2:y<18446744073709551616):xi (.val (.int x) f al) (.val (.int y) g bl)=.ok (.val (.int (x*y)) true []):=by
 have:yQ x y=true:=by
  unfold yQ
  rw[Bool.or_eq_true,Bool.and_eq_true,Bool.and_eq_true]
  exact .inr ⟨decide_eq_true (by omega),decide_eq_true (by omega)⟩
 show(if yQ x y=true then _ else _)=_
 rw[if_pos this]
theorem zZ (h:0<y):cS (.val (.int x) f al) (.val (.int y) g bl)=.ok (.val (.int (x % y)) true []):=by
 show(if decide (0<y)=true then _ else _)=_
 rw[if_pos (decide_eq_true h)]
theorem z4 (h:0<y)(h2:y<1073741824):f_ (.val (.int x) f al) (.val (.int y) g bl)=.ok (.val (.int (x / y)) true []):=by
 show(if (decide (0<y)&&decide (y<1073741824))=true then _ else _)=_
 rw[if_pos (by rw[decide_eq_true h,decide_eq_true h2];rfl)]
theorem EU:Hj (.val (.int x) f al) (.val (.int y) g bl)=.ok (.val (.bl (decide (x<y))) true []):=(rfl)
theorem d9 {a b:R}(h:a.d.dep<=50)(h2:b.d.dep<=50):sG a b=.ok (.val (.bl (cB a.d b.d)) true []):=by unfold sG;rw[if_pos ⟨h,h2⟩]
theorem Ca {a b:R}(h:a.d.dep<=50)(h2:b.d.dep<=50):Ba a b=.ok (.val (.bl (!cB a.d b.d)) true []):=by unfold Ba;rw[if_pos ⟨h,h2⟩]
theorem z5:cB (.int x) (.int y)=(x==y):=(rfl)
def Cb (xs ys:List D)(f:Bool)(al:List Nat):Res R:=if xs.length+ys.length<=lim then .ok (jb (xs++ys) f al) else .stuck
theorem oX:fA (.val (.lst ds) f al) (.val (.lst es) g bl)=Cb ds es (f&&g) (al++bl):=(rfl)
theorem oY:fA (.val (.lst ds) f al) (.new es g)=Cb ds es (f&&g) (al++[]):=(rfl)
theorem oZ:fA (.new ds f) (.val (.lst es) g bl)=Cb ds es (f&&g) ([]++bl):=(rfl)
theorem o4:fA (.new ds f) (.new es g)=Cb ds es (f&&g) []:=(rfl)
def C5 (fs:En->Res (List R))(env:En)(r:R):Res (List R):=(fs env).bind (fun rs=>.ok (r::rs))
def z6 (r:R)(rs:List R):Res (List R):=.ok (r::rs)
theorem uc (env:En):ar env=.ok []:=(rfl)
theorem o5 (a:En->Res R)(fs:En->Res (List R))(env:En):ac a fs env=(a env).bind (C5 fs env):=(rfl)
theorem o6 (fs:En->Res (List R))(env:En)(r:R):C5 fs env r=(fs env).bind (z6 r):=(rfl)
theorem lI (r:R)(rs:List R):z6 r rs=.ok (r::rs):=(rfl)
def Go (rs:List R):Res R:=if rs.length<=lim then .ok (mkV (.tup (rs.map R.d)) (aR rs) (aY rs)) else .stuck
theorem z7 (fs:En->Res (List R))(env:En):dJ fs env=(fs env).bind Go:=(rfl)
theorem ud (rs:List R)(h:rs.length<=1000000):Go rs=.ok (mkV (.tup (rs.map R.d)) (aR rs) (aY rs)):=if_pos h
def Gp (rs:List R):Res R:=if rs.length<=lim then .ok (jb (rs.map R.d) (aR rs) (aY rs)) else .stuck
theorem z8 (fs:En->Res (List R))(env:En):Em fs env=(fs env).bind Gp:=(rfl)
theorem ue (rs:List R)(h:rs.length<=1000000):Gp rs=.ok (jb (rs.map R.d) (aR rs) (aY rs)):=if_pos h
theorem lJ:aR []=true:=(rfl)
theorem jt (r:R)(rs:List R):aR (r::rs)=(r.fr&&aR rs):=(rfl)
theorem lK:aY []=[]:=(rfl)
theorem ju (r:R)(rs:List R):aY (r::rs)=r.al++aY rs:=(rfl)
def z9 (F:List D->Res R)(rs:List R):Res R:=(F (rs.map R.d)).bind (fun r=>.ok (eO rs r))
def uf (rs:List R)(r:R):Res R:=.ok (eO rs r)
theorem o7 (F:List D->Res R)(fs:En->Res (List R))(env:En):aO F fs env=(fs env).bind (z9 F):=(rfl)
theorem kj (F:List D->Res R)(rs:List R):z9 F rs=(F (rs.map R.d)).bind (uf rs):=(rfl)
theorem iG (rs:List R)(r:R):uf rs r=.ok (eO rs r):=(rfl)
theorem lL (rs:List R)(h:d.flat=true):eO rs (.val d f al)=.val d true []:=if_pos h
theorem b0 (rs:List R)(h:d.flat=false):eO rs (.val d true al)=.fre d:=by
 show Bb d true rs=_
 unfold Bb;rw[if_neg (by rw[h];simp),if_pos rfl]
theorem gs (rs:List R)(h:d.flat=false):eO rs (.val d false al)=.val d (aR rs) (aY rs):=by
 show Bb d false rs=_
 unfold Bb;rw[if_neg (by rw[h];simp),if_neg (by simp)]
theorem lM (rs:List R)(h:D.flats ds=true):eO rs (.new ds f)=.new ds true:=by
 show(if D.flats ds=true then _ else _)=_
 rw[if_pos h]
theorem jv (rs:List R)(h:D.flats ds=false):eO rs (.new ds true)=.fre (.lst ds):=by
 show(if D.flats ds=true then _ else _)=_
 rw[if_neg (by rw[h];simp),if_pos rfl]
theorem EV (k:List R->Res R)(fs:En->Res (List R))(env:En):i8 k fs env=(fs env).bind k:=(rfl)
def Cc:D->Res R
 | .lst ds=>.ok (.val (.int ds.length) true [])
 | .tup ds=>.ok (.val (.int ds.length) true [])
 | .str z=>if z.length<=lim then .ok (.val (.int z.length) true []) else .stuck
 |_=>.stuck
theorem z_ (r:R):io [r]=Cc r.d:=by unfold io Cc;rfl
theorem ug:Cc (.lst ds)=.ok (.val (.int ds.length) true []):=(rfl)
theorem uh:Cc (.tup ds)=.ok (.val (.int ds.length) true []):=(rfl)
def Aa (f:Bool)(al:List Nat):D->Res R
 | .lst ds=>.ok (jb ds f al)
 | .tup ds=>.ok (jb ds f al)
 |_=>.stuck
theorem EW (r:R):rq [r]=Aa r.fr r.al r.d:=by unfold rq Aa;rfl
def kB (ra:R):Res Bool:=match ra.d with
 | .bl b=>.ok b
 |_=>.stuck
theorem EX (a:En->Res R)(env:En):vB a env=(a env).bind kB:=(rfl)
theorem EY (b:Bool):kB (.val (.bl b) f al)=.ok b:=(rfl)
def EZ (ra:R):Res Bool:=tru ra.d
theorem ui (a:En->Res R)(env:En):jX a env=(a env).bind EZ:=(rfl)
theorem uj (b:Bool):EZ (.val (.bl b) f al)=.ok b:=(rfl)
def C6 (b:Bool):Res Bool:=.ok (!b)
theorem uk (a:En->Res Bool)(env:En):k8 a env=(a env).bind C6:=(rfl)
theorem o8 (b:Bool):C6 b=.ok (!b):=(rfl)
def Ab (b:En->Res Bool)(env:En)(k:Bool):Res Bool:=if k then b env else .ok false
def E1 (b:En->Res Bool)(env:En)(k:Bool):Res Bool:=if k then .ok true else b env
theorem ul (a b:En->Res Bool)(env:En):xj a b env=(a env).bind (Ab b env):=(rfl)
theorem Ac (a b:En->Res Bool)(env:En):CY a b env=(a env).bind (E1 b env):=(rfl)
theorem um (b:En->Res Bool)(env:En):Ab b env true=b env:=(rfl)
theorem uq (b:En->Res Bool)(env:En):Ab b env false=.ok false:=(rfl)
theorem Ad (b:En->Res Bool)(env:En):E1 b env true=.ok true:=(rfl)
theorem Ae (b:En->Res Bool)(env:En):E1 b env false=b env:=(rfl)
def Af (b:En->Res R)(env:En)(ra:R):Res R:=match ra.d with
 | .bl true=>b env
 | .bl false=>.ok (.val (.bl false) true [])
 |_=>.stuck
theorem ur (a b:En->Res R)(env:En):BH a b env=(a env).bind (Af b env):=(rfl)
theorem o9 (b:En->Res R)(env:En):Af b env (.val (.bl true) f al)=b env:=(rfl)
theorem o_ (b:En->Res R)(env:En):Af b env (.val (.bl false) f al)=.ok (.val (.bl false) true []):=(rfl)
def E2 (b:En->Res R)(env:En)(ra:R):Res R:=match ra.d with
 | .bl true=>.ok (.val (.bl true) true [])
 | .bl false=>b env
 |_=>.stuck
theorem Ag (a b:En->Res R)(env:En):Hm a b env=(a env).bind (E2 b env):=(rfl)
theorem ut (b:En->Res R)(env:En):E2 b env (.val (.bl true) f al)=.ok (.val (.bl true) true []):=(rfl)
theorem uu (b:En->Res R)(env:En):E2 b env (.val (.bl false) f al)=b env:=(rfl)
def C7 (ra:R):Res R:=match ra.d with
 | .bl b=>.ok (.val (.bl (!b)) true [])
 |_=>.stuck
theorem uw (a:En->Res R)(env:En):Ek a env=(a env).bind C7:=(rfl)
theorem ux (b:Bool):C7 (.val (.bl b) f al)=.ok (.val (.bl (!b)) true []):=(rfl)
def C8 (f:Bool)(al:List Nat):Option D->Res R
 |some d=>.ok (mkV d f al)
 |none=>.stuck
def Cd (a b:D)(f:Bool)(al:List Nat):Res R:=match a,b with
 | .lst xs,.int i=>C8 f al (atI xs i)
 | .tup xs,.int i=>C8 f al (atI xs i)
 | .str z,.int i=>if z.length<=lim then (match atI z.cps.toList i with
  |some c=>.ok (.val (.str ⟨#[c]⟩) true [])
  |none=>.stuck) else .stuck
 |_,_=>.stuck
theorem E3 (a b:R):BJ a b=Cd a.d b.d a.fr a.al:=by
 unfold BJ Cd C8;rfl
theorem Ah {k:Int}:Cd (.lst ds) (.int k) f al=C8 f al (atI ds k):=(rfl)
theorem Ai {k:Int}:Cd (.tup ds) (.int k) f al=C8 f al (atI ds k):=(rfl)
theorem Aj:C8 f al (some d)=.ok (mkV d f al):=(rfl)
def Ce (ds:List D)(fr:Bool)(rb:R):Res R:=match rb.d with
 | .int k=>match atI ds k with
  |some d=>.ok (mkV d fr [])
  |none=>.stuck
 |_=>.stuck
def Ak (i:Nat)(fb:En->Res R)(env:En):Option (Option Sl)->Res R
 |some (some (.own ds fr))=>(fb env).bind (Ce ds fr)
 |_=>v2 BJ (ad i) fb env
theorem Al (i:Nat)(fb:En->Res R)(env:En):k9 i fb env=Ak i fb env env[i]?:=by unfold k9 Ak;rfl
theorem uy (fb:En->Res R):Ak i fb env (some (some (.own ds f)))=(fb env).bind (Ce ds f):=(rfl)
theorem uz (fb:En->Res R):Ak i fb env (some (some (.val d f)))=v2 BJ (ad i) fb env:=(rfl)
theorem uA (fb:En->Res R):Ak i fb env (some (some (.tre d)))=v2 BJ (ad i) fb env:=(rfl)
theorem uB {k:Int}:Ce ds f (.val (.int k) g al)=C8 f [] (atI ds k):=by unfold Ce C8;rfl
theorem bK {α:Type}(a:α)(l:List α):atI (a::l) 0=some a:=by
 unfold atI qM;rw[if_pos (by omega),if_pos (by simp)];rfl
theorem Hw {α:Type}(a b:α)(l:List α):atI (a::b::l) 1=some b:=by
 unfold atI qM;rw[if_pos (by omega),if_pos (by simp;omega)];rfl
theorem Hx {α:Type}(a b c:α)(l:List α):atI (a::b::c::l) 2=some c:=by
 unfold atI qM;rw[if_pos (by omega),if_pos (by simp;omega)];rfl
theorem Hy {α:Type}(a b c d:α)(l:List α):atI (a::b::c::d::l) 3=some d:=by
 unfold atI qM;rw[if_pos (by omega),if_pos (by simp;omega)];rfl
theorem HU {α:Type}{l:List α}{n:Nat}{a:α}(h:l[n]?=some a):atI l (n:Int)=some a:=by
 have hn:=(List.getElem?_eq_some_iff.mp h).1
 unfold atI qM
 rw[if_pos (by omega),if_pos (by omega)]
 exact h
def Gr (fl fh:En->Res (Option Int))(env:En)(r:R):Res R:=(fl env).bind fun lo=>(fh env).bind fun hi=>oH r lo hi
def Gs (fh:En->Res (Option Int))(env:En)(r:R)(lo:Option Int):Res R:=(fh env).bind fun hi=>oH r lo hi
theorem pc (fa:En->Res R)(fl fh:En->Res (Option Int))(env:En):gk fa fl fh env=(fa env).bind (Gr fl fh env):=(rfl)
theorem uC (fl fh:En->Res (Option Int))(env:En)(r:R):Gr fl fh env r=(fl env).bind (Gs fh env r):=(rfl)
theorem uD (fh:En->Res (Option Int))(env:En)(r:R)(lo:Option Int):Gs fh env r lo=(fh env).bind (oH r lo):=(rfl)
def kO (r:R):Res (Option Int):=match r.d with
 | .int i=>.ok (some i)
 |_=>.stuck
theorem pd (env:En):nk env=.ok none:=(rfl)
theorem pf (a:En->Res R)(env:En):gM a env=(a env).bind kO:=(rfl)
theorem E4:kO (.val (.int x) f al)=.ok (some x):=(rfl)
def Cf (f:Bool)(al:List Nat)(lo hi:Option Int):D->Res R
 | .lst xs=>.ok (jb (bU xs lo hi) f al)
 | .tup xs=>.ok (mkV (.tup (bU xs lo hi)) f al)
 |_=>.stuck
theorem Am (r:R)(lo hi:Option Int):oH r lo hi=Cf r.fr r.al lo hi r.d:=by unfold oH Cf;rfl
theorem uE (lo hi:Option Int):Cf f al lo hi (.lst ds)=.ok (jb (bU ds lo hi) f al):=(rfl)
theorem uF (lo hi:Option Int):Cf f al lo hi (.tup ds)=.ok (mkV (.tup (bU ds lo hi)) f al):=(rfl)
def Gt (T:String)(r:R):Res R:=.ok (.val (.bl (BT T r.d)) true [])
theorem An (T:String)(a:En->Res R)(env:En):xr T a env=(a env).bind (Gt T):=(rfl)
theorem uG (T:String)(r:R):Gt T r=.ok (.val (.bl (BT T r.d)) true []):=(rfl)
theorem ph:BT "int" (.int x)=true:=(rfl)
theorem pp:BT "bool" (.int x)=false:=(rfl)
theorem uH:BT "list" (.lst ds)=true:=(rfl)
theorem pq:BT "tuple" (.tup ds)=true:=(rfl)
def Gu (asg:D->Bool->En->Option En)(body:En->Res Fl)(env:En)(s:Src):Res Fl:=bY asg s.fr body s.xs (frz env s.al)
theorem Ao (src:En->Res Src)(asg:D->Bool->En->Option En)(body:En->Res Fl)(env:En):gJ src asg body env=(src env).bind (Gu asg body env):=(rfl)
theorem uI (asg:D->Bool->En->Option En)(body:En->Res Fl)(env:En)(xs:List D):Gu asg body env ⟨xs,f,al⟩=bY asg f body xs (frz env al):=(rfl)
def xE (r:R):Res Src:=match r.d with
 | .lst ds=>.ok ⟨ds,r.fr,r.al⟩
 | .tup ds=>.ok ⟨ds,r.fr,r.al⟩
 |_=>.stuck
theorem uJ (a:En->Res R)(env:En):gc a env=(a env).bind xE:=(rfl)
theorem lN:xE (.val (.lst ds) f al)=.ok ⟨ds,f,al⟩:=(rfl)
theorem lO:xE (.val (.tup ds) f al)=.ok ⟨ds,f,al⟩:=(rfl)
theorem px:xE (.new ds f)=.ok ⟨ds,f,[]⟩:=(rfl)
theorem lP:xE (.fre (.lst ds))=.ok ⟨ds,true,[]⟩:=(rfl)
theorem lQ:xE (.fre (.tup ds))=.ok ⟨ds,true,[]⟩:=(rfl)
def HL (rs:List R):Res Src:=match rs.map R.d with
 | [.int j]=>if cR j then .ok ⟨du 0 j.toNat,true,[]⟩ else .stuck
 |_=>.stuck
theorem Ap (fs:En->Res (List R))(env:En):CZ fs env=(fs env).bind HL:=(rfl)
theorem Gv (h1:-4611686018427387904<=x)(h2:x<4611686018427387904):cR x=true:=by
 unfold cR;rw[Bool.and_eq_true];exact⟨decide_eq_true (by omega),decide_eq_true (by omega)⟩
theorem iH (h1:-4611686018427387904<=x)(h2:x<4611686018427387904):HL [.val (.int x) f al]=.ok ⟨du 0 x.toNat,true,[]⟩:=if_pos (Gv h1 h2)
def wb (rs:List R):Res Src:=match rs with
 | [r]=>match r.d with
  | .lst ds=>.ok ⟨cW 0 ds,r.fr,r.al⟩
  |_=>.stuck
 |_=>.stuck
theorem pz (fs:En->Res (List R))(env:En):zb fs env=(fs env).bind wb:=(rfl)
theorem lR:wb [.val (.lst ds) f al]=.ok ⟨cW 0 ds,f,al⟩:=(rfl)
theorem lS:wb [.new ds f]=.ok ⟨cW 0 ds,f,[]⟩:=(rfl)
theorem lT:wb [.fre (.lst ds)]=.ok ⟨cW 0 ds,true,[]⟩:=(rfl)
theorem uK:frz env []=env:=(rfl)
theorem iI (h:i<env.length):gN i d f env=some (env.set i (some (.val d f))):=if_pos h
def gQ (n:Nat)(caps:List Nat)(asg:D->Bool->En->Option En)(test:En->Res Bool)(elt:En->Res R)(env:En)(s:Src):Res R:=if s.xs.length<=lim then
 (cq (fun d=>asg d s.fr (cD env n caps)) test elt s.xs).noX.bind fun rs=>.ok (jb (rs.map R.d) (aR rs) (s.al++caps.filter (isOwn env))) else .stuck
theorem uL (n:Nat)(caps:List Nat)(src:En->Res Src)(asg:D->Bool->En->Option En)(test:En->Res Bool)(elt:En->Res R)(env:En) :
 dv n caps src asg test elt env=(src env).bind (gQ n caps asg test elt env):=(rfl)
theorem fH {n:Nat}{caps:List Nat}{asg:D->Bool->En->Option En}{test:En->Res Bool}{elt:En->Res R}{xs:List D}{rs:List R}(hl:xs.length<=1000000)
 (h:cq (fun d=>asg d f (cD env n caps)) test elt xs=.ok rs):gQ n caps asg test elt env ⟨xs,f,al⟩=.ok (jb (rs.map R.d) (aR rs) (al++caps.filter (isOwn env))):=by
 unfold gQ;dsimp only;rw[if_pos (show xs.length<=lim from hl),h];rfl
theorem db {α:Type}{mk:D->Option En}{test:En->Res Bool}{elt:En->Res R}(g:α->D)(k:α->R):∀(xs:List α),(∀ a∈xs,∃ e,mk (g a)=some e/\test e=.ok true/\elt e=.ok (k a))->cq mk test elt (xs.map g)=.ok (xs.map k)
 | [],_=>rfl
 |a::r,h=>by
  obtain⟨e,h1,h2,h3⟩:=h a (by simp)
  rw[List.map_cons,List.map_cons]
  unfold cq
  rw[h1];dsimp only
  rw[h2];dsimp only[Res.bind]
  rw[if_pos rfl,h3,db g k r fun b hb=>h b (by simp[hb])]
theorem bV {α:Type}{mk:D->Option En}{test:En->Res Bool}{elt:En->Res R}(g:α->D)(p:α->Bool)(k:α->R):∀(xs:List α),(∀ a∈xs,∃ e,mk (g a)=some e/\test e=.ok (p a)/\(p a=true->elt e=.ok (k a)))->cq mk test elt (xs.map g)=.ok ((xs.filter p).map k)
 | [],_=>rfl
 |a::r,h=>by
  obtain⟨e,h1,h2,h3⟩:=h a (by simp)
  rw[List.map_cons]
  unfold cq
  rw[h1];dsimp only
  rw[h2];dsimp only[Res.bind]
  have ih:=bV g p k r fun b hb=>h b (by simp[hb])
  cases hp:p a with
  |true=>
   rw[if_pos rfl,h3 hp,List.filter_cons,if_pos hp,ih];rfl
  |false=>
   rw[if_neg (by simp),List.filter_cons,if_neg (by rw[hp];simp),ih]
def xF (i:Nat)(env:En)(ds:List D)(fr:Bool)(r:R):Res Fl:=if ds.length<lim/\¬ i∈r.al then .ok (.nx ((frz env r.al).set i (some (.own (ds++[r.d]) (fr&&r.fr))))) else .stuck
def wc (i:Nat)(a:En->Res R)(env:En):Option (Option Sl)->Res Fl
 |some (some (.own ds fr))=>(a env).bind (xF i env ds fr)
 |some (some (.tre (.lst ds)))=>(a env).bind (xF i env ds true)
 |_=>.stuck
theorem Aq (a:En->Res R)(env:En):yV i a env=wc i a env env[i]?:=by
 unfold yV fM wc
 cases env[i]? with
 |none=>rfl
 |some o=>cases o with
  |none=>rfl
  |some s=>cases s with
   |tre d=>cases d<;>rfl
   |_=>rfl
theorem uM (a:En->Res R):wc i a env (some (some (.own ds f)))=(a env).bind (xF i env ds f):=(rfl)
theorem uN (a:En->Res R):wc i a env (some (some (.tre (.lst ds))))=(a env).bind (xF i env ds true):=(rfl)
theorem E5 {r:R}(h:ds.length<1000000)(hr:r.al=[]):xF i env ds f r=.ok (.nx (env.set i (some (.own (ds++[r.d]) (f&&r.fr))))):=by
 unfold xF;rw[hr];rw[if_pos ⟨h,by simp⟩];rfl
end
theorem eV (x:Int):(D.int x).flat=true:=(rfl)
theorem pA (x:Bool):(D.bl x).flat=true:=(rfl)
theorem lU (x:Str):(D.str x).flat=true:=(rfl)
theorem lV:D.non.flat=true:=(rfl)
theorem eY (ds:List D):(D.tup ds).flat=D.flats ds:=(rfl)
theorem iJ (ds:List D):(D.lst ds).flat=false:=(rfl)
theorem gC:D.flats []=true:=(rfl)
theorem bv (d:D)(ds:List D):D.flats (d::ds)=(d.flat&&D.flats ds):=(rfl)
theorem gD (x:Int):(D.int x).dep=0:=(rfl)
theorem uO (x:Bool):(D.bl x).dep=0:=(rfl)
theorem pB (x:Str):(D.str x).dep=0:=(rfl)
theorem pC:D.non.dep=0:=(rfl)
theorem gE (ds:List D):(D.tup ds).dep=D.deps ds+1:=(rfl)
theorem iL (ds:List D):(D.lst ds).dep=D.deps ds+1:=(rfl)
theorem dD:D.deps []=0:=(rfl)
theorem cF (d:D)(ds:List D):D.deps (d::ds)=max d.dep (D.deps ds):=(rfl)
theorem uP (r:R):vW (.ok (.rt r))=.ok r:=(rfl)
theorem uQ (e:En):vW (.ok (.nx e))=.ok (.val .non true []):=(rfl)
theorem dW (d:D)(f:Bool)(al:List Nat):(R.val d f al).d=d:=(rfl)
theorem pD (ds:List D)(f:Bool):(R.new ds f).d=.lst ds:=(rfl)
theorem pE (d:D):(R.fre d).d=d:=(rfl)
theorem lW (d:D)(f:Bool)(al:List Nat):(R.val d f al).fr=f:=(rfl)
theorem lX (ds:List D)(f:Bool):(R.new ds f).fr=f:=(rfl)
theorem lY (d:D):(R.fre d).fr=true:=(rfl)
theorem iM (d:D)(f:Bool)(al:List Nat):(R.val d f al).al=al:=(rfl)
theorem lZ (ds:List D)(f:Bool):(R.new ds f).al=[]:=(rfl)
theorem l5 (d:D):(R.fre d).al=[]:=(rfl)
theorem fU {α β:Type}(a:α)(k:α->Res β):(Res.ok a).bind k=k a:=(rfl)
def wd (asg:D->Bool->En->Option En)(fr:Bool)(body:En->Res Fl)(xs:List D):Fl->Res Fl
 | .nx e=>bY asg fr body xs e
 | .ct e=>bY asg fr body xs e
 | .bk e=>.ok (.nx e)
 | .rt r=>.ok (.rt r)
 | .rm r e=>.ok (.rm r e)
theorem hJ {asg:D->Bool->En->Option En}{fr:Bool}{body:En->Res Fl}{x:D}{xs:List D}{env dO:En}(h:asg x fr env=some dO):bY asg fr body (x::xs) env=(body dO).bind (wd asg fr body xs):=by
 unfold bY;rw[h];rfl
theorem cH (asg:D->Bool->En->Option En)(fr:Bool)(body:En->Res Fl)(xs:List D)(e:En):wd asg fr body xs (.nx e)=bY asg fr body xs e:=(rfl)
theorem kn (asg:D->Bool->En->Option En)(fr:Bool)(body:En->Res Fl)(xs:List D)(r:R):wd asg fr body xs (.rt r)=.ok (.rt r):=(rfl)
def E6:D->Res R
 | .lst ds=>match dz ds with
  |some bs=>.ok (.val (.bl (bs.all id)) true [])
  |none=>.stuck
 |_=>.stuck
theorem nG (r:R):y_ [r]=E6 r.d:=by
 rcases r with⟨d,f,al⟩|⟨ds,f⟩|⟨d⟩<;>first|rfl|(cases d<;>rfl)
def l6 (i:Nat)(env:En)(ds:List D)(fr:Bool)(fk:En->Res R)(r:R):Res Fl:=(fk env).bind fun k=>match k.d with
 | .int z=>match qM ds.length z with
  |some j=>if ¬ i∈r.al then .ok (.nx ((frz env r.al).set i (some (.own (ds.set j r.d) (fr&&r.fr))))) else .stuck
  |none=>.stuck
 |_=>.stuck
def E7 (i:Nat)(env:En)(ds:List D)(fr:Bool)(r k:R):Res Fl:=match k.d with
 | .int z=>match qM ds.length z with
  |some j=>if ¬ i∈r.al then .ok (.nx ((frz env r.al).set i (some (.own (ds.set j r.d) (fr&&r.fr))))) else .stuck
  |none=>.stuck
 |_=>.stuck
def pF (i:Nat)(fk fv:En->Res R)(env:En):Option (Option Sl)->Res Fl
 |some (some (.own ds fr))=>(fv env).bind (l6 i env ds fr fk)
 |some (some (.tre (.lst ds)))=>(fv env).bind (l6 i env ds true fk)
 |_=>.stuck
theorem uR (i:Nat)(fk fv:En->Res R)(env:En):jK i fk fv env=pF i fk fv env env[i]?:=by
 unfold jK fM pF
 cases env[i]? with
 |none=>rfl
 |some o=>cases o with
  |none=>rfl
  |some s=>cases s with
   |tre d=>cases d<;>rfl
   |_=>rfl
theorem pG {i:Nat}{fk fv:En->Res R}{env:En}{ds:List D}{f:Bool}:pF i fk fv env (some (some (.own ds f)))=(fv env).bind (l6 i env ds f fk):=(rfl)
theorem pH {i:Nat}{fk fv:En->Res R}{env:En}{ds:List D}:pF i fk fv env (some (some (.tre (.lst ds))))=(fv env).bind (l6 i env ds true fk):=(rfl)
theorem l7 (i:Nat)(env:En)(ds:List D)(fr:Bool)(fk:En->Res R)(r:R):l6 i env ds fr fk r=(fk env).bind (E7 i env ds fr r):=(rfl)
theorem Hz:((0:Nat):Int)=0:=(rfl)
theorem HA:((1:Nat):Int)=1:=(rfl)
theorem HB:((2:Nat):Int)=2:=(rfl)
theorem HC:((3:Nat):Int)=3:=(rfl)
theorem HD:((4:Nat):Int)=4:=(rfl)
theorem Ar {α β:Type}(c:Str)(k:α->Res β):(Res.exc c:Res α).bind k=.exc c:=(rfl)
theorem pI (c:Str):vW (.exc c)=.exc c:=(rfl)
theorem we {x y:Int}{f g:Bool}{al bl:List Nat}:Et [.val (.int x) f al,.val (.int y) g bl]=.ok (.val (.int (if y>x then y else x)) true []):=(rfl)
theorem wf {x y:Int}{f g:Bool}{al bl:List Nat}:BW [.val (.int x) f al,.val (.int y) g bl]=.ok (.val (.int (if y<x then y else x)) true []):=(rfl)
def Gw (r:R):Res Bool:=.ok r.d.isNon
theorem uS (a:En->Res R)(env:En):zf a env=(a env).bind Gw:=(rfl)
theorem uT (r:R):Gw r=.ok r.d.isNon:=(rfl)
theorem iN:D.non.isNon=true:=(rfl)
theorem pJ (x:Int):(D.int x).isNon=false:=(rfl)
theorem iO (x:List D):(D.tup x).isNon=false:=(rfl)
theorem pK (x:List D):(D.lst x).isNon=false:=(rfl)
theorem Res.noX_ok {α:Type}(a:α):(Res.ok a).noX=.ok a:=(rfl)
def iP (neg:Bool)(a b:D):Res R:=match b with
 | .dic ks _=>rG neg a ks
 | .lst ds=>Fx neg a ds
 | .tup ds=>Fx neg a ds
 |_=>.stuck
theorem C9 (neg:Bool)(a b:R):xy neg a b=iP neg a.d b.d:=by
 unfold xy tU iP
 cases b.d<;>rfl
theorem hV (a b:R):rH a b=iP false a.d b.d:=C9 false a b
theorem bM (a b:R):dS a b=iP true a.d b.d:=C9 true a b
theorem C_ {neg:Bool}{a:D}{ds:List D}(h:D.deps ds<=50)(h2:a.dep<=50):iP neg a (.lst ds)=.ok (.val (.bl (if neg then !(ds.any fun e=>cB e a) else ds.any fun e=>cB e a)) true []):=if_pos ⟨h,h2⟩
theorem wg {neg:Bool}{a:D}{ks:List DK}{ds:List D}{k:DK}(h:keyX a=some k)(hk:ks.all (kin k)=true):iP neg a (.dic ks ds)=.ok (.val (.bl (if neg then !fD ks k else fD ks k)) true []):=by
 show rG neg a ks=_
 unfold rG;rw[h];exact if_pos hk
theorem eZ (ks:List DK)(ds:List D):(D.dic ks ds).flat=false:=(rfl)
def putAt (i:Nat)(fk fv:En->Res R)(env:En):Option (Option Sl)->Res Fl
 |some (some (.tre (.dic ks ds)))=>(fv env).bind (v3 i fk env ks ds)
 |some (some (.pin (.dic ks ds)))=>(fv env).bind (oN i fk env ks ds)
 |_=>.stuck
theorem uU (i:Nat)(fk fv:En->Res R)(env:En):ir i fk fv env=putAt i fk fv env env[i]?:=by unfold ir putAt;rfl
theorem pL {i:Nat}{fk fv:En->Res R}{env:En}{ks:List DK}{ds:List D}:putAt i fk fv env (some (some (.tre (.dic ks ds))))=(fv env).bind (v3 i fk env ks ds):=(rfl)
theorem Cg {i:Nat}{fk:En->Res R}{env:En}{ks:List DK}{ds:List D}{r:R}(h:r.d.flat=true):v3 i fk env ks ds r=(fk env).bind (rJ i env ks ds r.d):=if_pos h
theorem Ci {i:Nat}{env:En}{ks:List DK}{ds:List D}{d:D}{k:R}{x:DK}(h:keyX k.d=some x)(h2:ks.all (kin x)=true)(h3:ks.length<1000000):rJ i env ks ds d k=.ok (.nx (env.set i (some (.tre (cT ks ds x d))))):=by
 unfold rJ;rw[h];exact if_pos ⟨h2,h3⟩
def HE (xs ys:List D)(f:Bool)(al:List Nat):Res R:=if xs.length+ys.length<=lim/\xs≠[] then .ok (mkV (.tup (xs++ys)) f al) else .stuck
theorem uV {xs ys:List D}{f g:Bool}{al bl:List Nat}:fA (.val (.tup xs) f al) (.val (.tup ys) g bl)=HE xs ys (f&&g) (al++bl):=(rfl)
theorem dc {rs:List R}{d:D}(h:d.flat=false):eO rs (.fre d)=.fre d:=by
 show Bb d true rs=_
 unfold Bb;rw[if_neg (by rw[h];simp),if_pos rfl]
theorem uW (i:Nat)(fk fv:En->Res R)(env:En):rL i fk fv env=fE i fk fv env env[i]?:=(rfl)
theorem pM {i:Nat}{fk fv:En->Res R}{env:En}{ds:List D}{f:Bool}:fE i fk fv env (some (some (.own ds f)))=jK i fk fv env:=(rfl)
theorem pN {i:Nat}{fk fv:En->Res R}{env:En}{ds:List D}:fE i fk fv env (some (some (.tre (.lst ds))))=jK i fk fv env:=(rfl)
theorem pO {i:Nat}{fk fv:En->Res R}{env:En}{ks:List DK}{ds:List D}:fE i fk fv env (some (some (.tre (.dic ks ds))))=ir i fk fv env:=(rfl)
theorem As (i:Nat)(fb:En->Res R)(env:En):aN i fb env=iu i fb env env[i]?:=(rfl)
theorem gu (fa fk fx:En->Res R)(env:En):rM fa fk fx env=(fa env).bind (C3 fk fx env):=(rfl)
theorem At {fk fx:En->Res R}{env:En}{ra:R}{ks:List DK}{ds:List D}(h:ra.d=.dic ks ds):C3 fk fx env ra=(fk env).bind (Fy fx env ra ks ds):=by unfold C3;rw[h]
theorem jO (fx:En->Res R)(env:En)(ra:R)(ks:List DK)(ds:List D)(rk:R):Fy fx env ra ks ds rk=(fx env).bind (ED ra ks ds rk):=(rfl)
theorem uX {i:Nat}{fb:En->Res R}{env:En}{ds:List D}{f:Bool}:iu i fb env (some (some (.own ds f)))=k9 i fb env:=(rfl)
theorem uY {i:Nat}{fb:En->Res R}{env:En}{ds:List D}:iu i fb env (some (some (.tre (.tup ds))))=k9 i fb env:=(rfl)
theorem uZ {i:Nat}{fb:En->Res R}{env:En}{ds:List D}:iu i fb env (some (some (.tre (.lst ds))))=k9 i fb env:=(rfl)
theorem pP {i:Nat}{fb:En->Res R}{env:En}{ds:List D}{f:Bool}:iu i fb env (some (some (.val (.tup ds) f)))=k9 i fb env:=(rfl)
theorem pQ {i:Nat}{fb:En->Res R}{env:En}{ds:List D}{f:Bool}:iu i fb env (some (some (.val (.lst ds) f)))=k9 i fb env:=(rfl)
theorem nI {α:Type}(p:α->Bool):∀ xs:List α,dz (xs.map fun a=>D.bl (p a))=some (xs.map p)
 | []=>rfl
 |a::r=>by rw[List.map_cons];unfold dz;rw[nI p r];rfl
theorem rY {α:Type}(p:α->Bool)(xs:List α):E6 (.lst (xs.map fun a=>D.bl (p a)))=.ok (.val (.bl (xs.all p)) true []):=by
 show(match dz (xs.map fun a=>D.bl (p a)) with|some bs=>Res.ok (R.val (D.bl (bs.all id)) true [])|none=>Res.stuck)=_
 rw[nI];dsimp only;rw[List.all_map];rfl
theorem Au {x y:Int}{f g:Bool}{al bl:List Nat}(h:0<=y):EB (.val (.int x) f al) (.val (.int y) g bl)=.ok (.val (.int (x / 2 ^ y.toNat)) true []):=by
 show(if decide (0<=y)=true then _ else _)=_
 rw[if_pos (decide_eq_true h)]
theorem u3 {x y:Int}{f g:Bool}{al bl:List Nat}:zt (.val (.int x) f al) (.val (.int y) g bl)=.ok (.val (.int (Builtin.bitAnd x y)) true []):=(rfl)
theorem E8 (f:En->Res R)(env:En):Hr f env=(f env).bind EF:=(rfl)
theorem jw:∀ k:List Int,gP (k.map .int)=some k
 | []=>rfl
 |a::r=>by rw[List.map_cons];unfold gP;rw[jw r];rfl
theorem nJ:∀ ks:List (List Int),tupsI (ks.map rN)=some ks
 | []=>rfl
 |k::r=>by rw[List.map_cons];unfold tupsI;rw[nJ r,show EE (rN k)=some k from jw k]
theorem E9 {r:R}{ks:List (List Int)}(hr:r.d=.lst (ks.map rN))(h:ks.length<=63)(hn:ks.all (fun k=>!k.isEmpty)=true):EF r=.ok (.new ((dA ks).map rN) true):=by
 unfold EF;rw[hr];dsimp only;rw[nJ];dsimp only
 rw[if_pos (by rw[List.length_map,decide_eq_true h,hn];rfl)]
theorem l9 (fs:En->Res (List R))(env:En):EG fs env=(fs env).bind zy:=(rfl)
theorem pR {ds:List D}{f:Bool}{al:List Nat}:zy [.val (.lst ds) f al]=.ok ⟨ds.reverse,f,al⟩:=(rfl)
theorem Cj {f:En->Res R}{asg:D->Bool->En->Option En}{fb:En->Res Fl}{env:En}{ks:List DK}{ds:List D}{fr:Bool}{al:List Nat}(h:f env=.ok (.val (.dic ks ds) fr al)):lz f asg fb env=v5 asg fb env (.val (.dic ks ds) fr al):=by
 unfold lz;rw[h];show rO f asg fb env=_;unfold rO;rw[h];rfl
theorem ko:∀ ks:List Int,gn (ks.map ik)=some (ks.map .int)
 | []=>rfl
 |k::r=>by rw[List.map_cons];show(gn (r.map ik)).map _=_;rw[ko r];rfl
def bD (ks:List Int):D:=.dic (ks.map ik) (ks.map fun _=>.bl true)
def bE (ks:List Int):List (Key×D):=ks.map fun k=>(.inl k,.bl true)
theorem Ck (ks:List Int):B2 (bE ks)=bD ks:=by
 unfold B2 bE bD;rw[List.map_map,List.map_map];rfl
theorem Cl (ks:List Int)(x:Int):tV (bE ks) (.inl x) (.bl true)=bE (dd ks x):=by
 unfold tV dd
 have ha:((bE ks).any fun p=>decide (p.1=(.inl x:Key)))=decide (x∈ks):=by
  unfold bE;rw[List.any_map,Bool.eq_iff_iff,List.any_eq_true,decide_eq_true_iff]
  constructor
  ·rintro⟨k,hk,e⟩
   have:k=x:=by have:=of_decide_eq_true e;exact Sum.inl.inj this
   exact this▸hk
  ·intro h;exact⟨x,h,by simp⟩
 rw[ha]
 by_cases h:x∈ks
 ·rw[if_pos (decide_eq_true h),if_pos h]
  unfold bE
  rw[List.map_map]
  refine List.map_congr_left fun k _=>?_
  show(if (Sum.inl k:Key)=.inl x then _ else _)=_
  split<;>rfl
 ·rw[if_neg (by rw[decide_eq_false h];simp),if_neg h]
  unfold bE;rw[List.map_append];rfl
theorem rZ:∀(xs ks:List Int),iC (bE ks) (bE xs)=bE (xs.foldl dd ks)
 | [],ks=>rfl
 |x::r,ks=>by
  show iC (tV (bE ks) (.inl x) (.bl true)) (bE r)=_
  rw[Cl,rZ r];rfl
theorem r6:∀ xs:List Int,gp (xs.map fun x=>D.tup [.int x,.bl true])=some (bE xs)
 | []=>rfl
 |k::r=>by rw[List.map_cons];unfold gp;rw[r6 r];rfl
theorem Av (ks:List Int):D.flats ((bE ks).map Prod.snd)=true:=by
 unfold bE;rw[List.map_map]
 induction ks with
 |nil=>rfl
 |cons a r ih=>rw[List.map_cons];exact ih
theorem Aw {r:R}{xs:List Int}(h:r.d=.lst (xs.map fun x=>D.tup [.int x,.bl true])):jm [r]=.ok (.fre (bD (aF xs))):=by
 unfold jm;dsimp only;rw[h];dsimp only;rw[r6];dsimp only
 have:iC [] (bE xs)=bE (aF xs):=rZ xs []
 rw[this,if_pos (Av _),Ck]
theorem pS (x:Int)(ks:List Int):(ks.map ik).all (kin (.inl (.inl x)))=true:=by
 rw[List.all_map,List.all_eq_true];intro k _;rfl
theorem Cm (ks:List Int)(x:Int):fD (ks.map ik) (.inl (.inl x))=decide (x∈ks):=by
 unfold fD;rw[List.any_map,Bool.eq_iff_iff,List.any_eq_true,decide_eq_true_iff]
 constructor
 ·rintro⟨k,hk,e⟩
  have:k=x:=by have:=of_decide_eq_true e;exact Sum.inl.inj (Sum.inl.inj this)
  exact this▸hk
 ·intro h;exact⟨x,h,by simp[ik]⟩
theorem Da (x:Int)(ks:List Int)(neg:Bool):iP neg (.int x) (bD ks)=.ok (.val (.bl (if neg then !decide (x∈ks) else decide (x∈ks))) true []):=by
 unfold bD;rw[wg (k:=.inl (.inl x)) rfl (pS x ks),Cm]
theorem pT (g:Int->D)(x:Int):∀ ks:List Int,getD (ks.map ik) (ks.map g) (.inl (.inl x))=if x∈ks then some (g x) else none
 | []=>rfl
 |k::r=>by
  rw[List.map_cons,List.map_cons];unfold getD;rw[pT g x r]
  by_cases h:k=x
  ·rw[if_pos (by rw[h];rfl),if_pos (by simp[h]),h]
  ·rw[if_neg (show ¬ ik k=Sum.inl (Sum.inl x) from fun e=>h (Sum.inl.inj (Sum.inl.inj e)))]
   by_cases h2:x∈r
   ·rw[if_pos h2,if_pos (by simp[h2])]
   ·rw[if_neg h2,if_neg (by simp[h2];exact fun e=>h e.symm)]
theorem nK:∀ ts:List Tri,eS (ts.map fun t=>D.tup [.int t.1,.int t.2.1,.int t.2.2])=some ts
 | []=>rfl
 |t::r=>by rw[List.map_cons];unfold eS;rw[nK r];rfl
theorem u4 {b:Bool}:BT "bool" (.bl b)=true:=(rfl)
def Db (env:En)(r:R):Res Fl:=.ok (.rm r env)
theorem u5 (a:En->Res R)(env:En):jI a env=(a env).bind (Db env):=(rfl)
theorem pU (env:En)(r:R):Db env r=.ok (.rm r env):=(rfl)
theorem E_ (k:En->Res Fl)(r:R)(e:En):kS k (.rm r e)=.ok (.rm r e):=(rfl)
def Ax (i:Nat)(env:En)(r:R):Res Fl:=if i<env.length then .ok (.nx ((frz env r.al).set i (some (.val r.d r.fr)))) else .stuck
theorem Ay (i:Nat)(a:En->Res R)(env:En):cu i a env=(a env).bind (Ax i env):=(rfl)
theorem pV {i:Nat}{env:En}{r:R}(h:i<env.length):Ax i env r=.ok (.nx ((frz env r.al).set i (some (.val r.d r.fr)))):=if_pos h
def Az (i r1 r2 r3:Nat)(f:En->Res R)(env:En):Option (Option Sl)->Res Fl
 |some (some (.tre (.dic [] [])))=>(f env).bind (xC i r1 r2 r3 env)
 |_=>.stuck
theorem AA (i r1 r2 r3:Nat)(f:En->Res R)(env:En):zJ i r1 r2 r3 f env=Az i r1 r2 r3 f env env[i]?:=by unfold zJ Az;rfl
theorem u6 {i r1 r2 r3:Nat}{f:En->Res R}{env:En}:Az i r1 r2 r3 f env (some (some (.tre (.dic [] []))))=(f env).bind (xC i r1 r2 r3 env):=(rfl)
theorem pW (a b:R):lH [a,b]=BW [a,b]:=(rfl)
def wj:D->Res R
 | .lst ds=>match gP ds with
  |some ns=>if ns.isEmpty then .stuck else .ok (.val (.int (jW ns)) true [])
  |none=>.stuck
 |_=>.stuck
theorem pX (r:R):lH [r]=wj r.d:=by unfold lH wj;rfl
theorem Cn {ns:List Int}(h:ns≠[]):wj (.lst (ns.map .int))=.ok (.val (.int (jW ns)) true []):=by
 unfold wj;dsimp only;rw[jw];dsimp only;rw[if_neg (by cases ns;exact(h rfl).elim;simp)]
def pY (f:Bool)(al:List Nat):D->Res R
 | .dic ks _=>match gn ks with
  |some xs=>if xs.length<=lim then .ok (.new xs true) else .stuck
  |none=>.stuck
 |d=>Aa f al d
theorem pZ (r:R):dB [r]=pY r.fr r.al r.d:=by
 unfold dB pY
 dsimp only
 cases h:r.d<;>first|rfl|(dsimp only;rw[EW,h])
theorem l_ {f:Bool}{al:List Nat}{ds:List D}:pY f al (.lst ds)=.ok (jb ds f al):=(rfl)
theorem r8 {f:Bool}{al:List Nat}{ks:List Int}(h:ks.length<=1000000):pY f al (bD ks)=.ok (.new (ks.map .int) true):=by
 show(match gn (ks.map ik) with|some xs=>if xs.length<=lim then Res.ok (R.new xs true) else .stuck|none=>.stuck)=_
 rw[ko];dsimp only;rw[if_pos (by rw[List.length_map];exact h)]
theorem r9 {j:Int}{f:Bool}{al:List Nat}(h0:0<=j)(h1:j<=1000):kh [.val (.int j) f al]=.ok (.new (du 0 j.toNat) true):=if_pos ⟨h0,h1⟩
def Fa (i:Nat)(f:En->Res R)(env:En):Option (Option Sl)->Res Fl
 |some (some (.own ds fr))=>(f env).bind (tZ i ds fr env)
 |_=>.stuck
theorem AB (i:Nat)(f:En->Res R)(env:En):zL i f env=Fa i f env env[i]?:=by unfold zL Fa;rfl
theorem u7 {i:Nat}{f:En->Res R}{env:En}{ds:List D}{fr:Bool}:Fa i f env (some (some (.own ds fr)))=(f env).bind (tZ i ds fr env):=(rfl)
theorem Fb {i j:Nat}{ds:List D}{fr:Bool}{env:En}{r:R}(h:fO ds r.d=some j):tZ i ds fr env r=.ok (.nx (env.set i (some (.own (ds.eraseIdx j) fr)))):=by unfold tZ;rw[h]
def Gx (f1 f2:En->Res R)(env:En)(r0:R):Res R:=(f1 env).bind fun r1=>(f2 env).bind fun r2=>t3 r0 r1 r2
def Gy (f2:En->Res R)(env:En)(r0 r1:R):Res R:=(f2 env).bind (t3 r0 r1)
theorem Fc (f0 f1 f2:En->Res R)(env:En):GP f0 f1 f2 env=(f0 env).bind (Gx f1 f2 env):=(rfl)
theorem u8 (f1 f2:En->Res R)(env:En)(r0:R):Gx f1 f2 env r0=(f1 env).bind (Gy f2 env r0):=(rfl)
theorem u9 (f2:En->Res R)(env:En)(r0 r1:R):Gy f2 env r0 r1=(f2 env).bind (t3 r0 r1):=(rfl)
theorem AC {r0:R}{d1 d2:List D}{g1 g2:Bool}(h0:r0.d.flat=true)(h1:D.flats d1=true)(h2:D.flats d2=true):t3 r0 (.new d1 g1) (.new d2 g2)=.ok (.fre (.tup [r0.d,.lst d1,.lst d2])):=if_pos ⟨h0,h1,h2⟩
def AD (i:Nat)(f:En->Res R)(env:En):Option (Option Sl)->Res Fl
 |some (some (.tre (.tup [d0,.lst d1,.lst d2])))=>(f env).bind (lG i d0 d1 d2 env)
 |_=>.stuck
theorem u_ (i:Nat)(f:En->Res R)(env:En):rX i f env=AD i f env env[i]?:=by unfold rX AD;rfl
theorem p_ {i:Nat}{f:En->Res R}{env:En}{d0:D}{d1 d2:List D}:AD i f env (some (some (.tre (.tup [d0,.lst d1,.lst d2]))))=(f env).bind (lG i d0 d1 d2 env):=(rfl)
theorem Co {i j:Nat}{d0:D}{d1 d2:List D}{env:En}{r:R}(h0:d0.flat=true)(h2:D.flats d2=true)(h3:eqDs d1 d2=false)(h:fO d1 r.d=some j):lG i d0 d1 d2 env r=.ok (.nx (env.set i (some (.tre (.tup [d0,.lst (d1.eraseIdx j),.lst d2]))))):=by
 unfold lG;rw[if_pos ⟨h0,h2,h3⟩,h]
theorem AE {n:Nat}{caps:List Nat}{f:En->Res R}{asg:D->Bool->En->Option En}{ft:En->Res Bool}{fe:En->Res R}{env:En}{ds:List D}{fr:Bool}{al:List Nat}(h:f env=.ok (.val (.lst ds) fr al)):bp n caps f asg ft fe env=dv n caps (gc f) asg ft fe env:=by
 unfold bp;rw[h];rfl
theorem AF {n:Nat}{caps:List Nat}{f:En->Res R}{asg:D->Bool->En->Option En}{ft:En->Res Bool}{fe:En->Res R}{env:En}{ds:List D}{fr:Bool}{al:List Nat}(h:f env=.ok (.val (.tup ds) fr al)):bp n caps f asg ft fe env=dv n caps (gc f) asg ft fe env:=by
 unfold bp;rw[h];rfl
theorem me {n:Nat}{caps:List Nat}{f:En->Res R}{asg:D->Bool->En->Option En}{ft:En->Res Bool}{fe:En->Res R}{env:En}{ks:List DK}{ds:List D}{fr:Bool}{al:List Nat}(h:f env=.ok (.val (.dic ks ds) fr al)):bp n caps f asg ft fe env=oV n caps asg ft fe env (.val (.dic ks ds) fr al):=by
 unfold bp;rw[h];show lB n caps f asg ft fe env=_;unfold lB;rw[h];rfl
theorem mf {n:Nat}{caps:List Nat}{asg:D->Bool->En->Option En}{ft:En->Res Bool}{fe:En->Res R}{env:En}{ks:List Int}{fr:Bool}{full:List R}(hl:ks.length<=1000000)(h:cq (fun d=>asg d true (cD env n caps)) ft fe (ks.map .int)=.ok full)(hf:D.flats (full.map R.d)=true):oV n caps asg ft fe env (.val (bD ks) fr [])=.ok (.new (full.map R.d) true):=by
 show(match gn (ks.map ik) with|some xs=>if xs.length<=lim/\([]:List Nat)=[] then (match cq (fun d=>asg d true (cD env n caps)) ft fe xs with|.ok full=>if D.flats (full.map R.d) then Res.ok (R.new (full.map R.d) true) else .stuck|_=>.stuck) else .stuck|none=>.stuck)=_
 rw[ko];dsimp only;rw[if_pos ⟨by rw[List.length_map];exact hl,rfl⟩,h];dsimp only;rw[if_pos hf]
theorem vc (f:En->Res R)(asg:D->Bool->En->Option En)(fb:En->Res Fl)(env:En):zF f asg fb env=(f env).bind (rT asg fb env):=(rfl)
theorem wl (g:Int->D):∀ ks:List Int,jZ (ks.map ik) (ks.map g)=some (ks.map fun k=>.tup [.int k,g k])
 | []=>(rfl)
 |k::r=>by rw[List.map_cons,List.map_cons];show Option.map _ (jZ (r.map ik) (r.map g))=_;rw[wl g r];rfl
theorem Cp {asg:D->Bool->En->Option En}{fb:En->Res Fl}{env:En}{ks:List Int}{g:Int->D}{fr:Bool}:rT asg fb env (.val (.dic (ks.map ik) (ks.map g)) fr [])=d8 (bY asg fr fb (ks.map fun k=>.tup [.int k,g k]) env):=by
 show(match jZ (ks.map ik) (ks.map g) with|some xs=>d8 (bY asg fr fb xs env)|none=>.stuck)=_
 rw[wl]
theorem r_ (e:En):d8 (.ok (.nx e))=.ok (.nx e):=(rfl)
theorem sd {d:D}{f:Bool}{al:List Nat}(h:d.flat=true):d8 (.ok (.rt (.val d f al)))=.ok (.rt (.val d true [])):=if_pos h
theorem kq (i j:Nat)(F:List D->D->Res (List D×D))(fs:En->Res (List R))(env:En):lF i j F fs env=(fs env).noX.bind (jr i j F env):=(rfl)
theorem AG {i j:Nat}{F:List D->D->Res (List D×D)}{env:En}{rs:List R}{x y:D}{es:List D}(h:env[j]?=some (some (.tre x)))(h1:¬ j∈aY rs)(h2:i≠j)(h3:i<env.length)(hF:F (rs.map R.d) x=.ok (es,y)):jr i j F env rs=.ok (.nx ((env.set j (some (.tre y))).set i (some (.own es true)))):=by
 unfold jr;rw[h];dsimp only;rw[if_pos ⟨h1,h2,h3⟩,hF]
theorem mh {i:Nat}{fk fv:En->Res R}{env:En}{ks:List DK}{ds:List D}:putAt i fk fv env (some (some (.pin (.dic ks ds))))=(fv env).bind (oN i fk env ks ds):=(rfl)
theorem mi {i:Nat}{fk:En->Res R}{env:En}{ks:List DK}{ds:List D}{r:R}(h:r.d.flat=true):oN i fk env ks ds r=(fk env).bind (lj i env ks ds r.d):=if_pos h
theorem AH {i:Nat}{env:En}{ks:List DK}{ds:List D}{d:D}{k:R}{x:DK}(h:keyX k.d=some x)(h2:ks.all (kin x)=true)(h3:ks.length<1000000):lj i env ks ds d k=.ok (.nx (env.set i (some (.pin (cT ks ds x d))))):=by
 unfold lj;rw[h];exact if_pos ⟨h2,h3⟩
theorem qf {i:Nat}{fk fv:En->Res R}{env:En}{ks:List DK}{ds:List D}:fE i fk fv env (some (some (.pin (.dic ks ds))))=ir i fk fv env:=(rfl)
theorem qg {i:Nat}{fb:En->Res R}{env:En}{ks:List DK}{ds:List D}{f:Bool}:iu i fb env (some (some (.val (.dic ks ds) f)))=v2 gO (ad i) fb env:=(rfl)
theorem Fd {ra rk:R}{ks:List DK}{ds:List D}{x:DK}{d:D}(h:ra.d=.dic ks ds)(hk:keyX rk.d=some x)(ha:ks.all (kin x)=true)(hg:getD ks ds x=some d):gO ra rk=.ok (mkV d ra.fr ra.al):=by
 unfold gO;rw[h];dsimp only;rw[hk];dsimp only;rw[if_pos ha,hg]
theorem wm {n:Nat}{es:List D}{f:Bool}{env:En}{x:D}(h:D.flats es=true)(h2:env[n]?=some (some (.pin x))):zH n (.ok (.rm (.new es f) env))=.ok (es,x):=by
 show(if D.flats es then (match env[n]? with|some (some (.pin x))=>Res.ok (es,x)|_=>.stuck) else .stuck)=_
 rw[if_pos h,h2]
theorem Cq {n:Nat}{es:List D}{env:En}{x:D}(h:D.flats es=true)(h2:env[n]?=some (some (.pin x))):zH n (.ok (.rm (.fre (.lst es)) env))=.ok (es,x):=by
 show(if D.flats es then (match env[n]? with|some (some (.pin x))=>Res.ok (es,x)|_=>.stuck) else .stuck)=_
 rw[if_pos h,h2]
theorem Cr {asg:D->Bool->En->Option En}{fb:En->Res Fl}{env:En}{ks:List Int}{ds:List D}{fr:Bool}:v5 asg fb env (.val (.dic (ks.map ik) ds) fr [])=dL asg fb (ks.map .int) env:=by
 show(match gn (ks.map ik) with|some xs=>dL asg fb xs env|none=>.stuck)=_
 rw[ko]
theorem qh {ds:List D}{f:Bool}{al:List Nat}:EZ (.val (.lst ds) f al)=.ok (!ds.isEmpty):=(rfl)
end L3
local macro_rules|`(tactic| simp_arith[$as,*] $[$l:location]?)=>`(tactic| simp only[L3.d7,L3.fC,L3.Ag,L3.ut,L3.uu,L3.u5,L3.pU,L3.E_,L3.Ay,L3.pV,L3.AA,L3.u6,L3.pW,L3.pX,L3.pZ,L3.l_,L3.AB,L3.u7,L3.Fc,L3.u8,L3.u9,L3.u_,L3.p_,L3.vc,L3.kq,L3.mh,L3.mi,L3.qf,L3.qg,L3.zV,L3.qh,decide_true,decide_false,List.map_cons,List.map_nil,List.length_cons,List.length_nil,List.replicate,List.cons_append,List.nil_append,List.append_nil,Nat.reduceAdd,Nat.max_self,Nat.zero_max,Nat.max_zero,Nat.zero_add,Nat.reduceSub,L3.iF,L3.zR,L3.ET,L3.zW,L3.wa,L3.zS,L3.zT,L3.zU,L3.t_,L3.ua,L3.eV,L3.pA,L3.lU,L3.lV,L3.eY,L3.iJ,L3.gC,L3.bv,L3.gD,L3.uO,L3.pB,L3.pC,L3.gE,L3.iL,L3.dD,L3.cF,L3.Hv,L3.fU,List.getElem?_cons_zero,List.getElem?_cons_succ,L3.zZ,L3.z4,L3.zX,L3.zY,L3.ub,Int.reduceLT,Int.reduceLE,Int.reduceNeg,L3.t5,L3.t7,L3.t8,L3.t9,L3.EQ,L3.ER,List.set_cons_zero,List.set_cons_succ,Nat.reduceLT,Nat.reduceLeDiff,L3.ES,L3.zN,L3.zO,L3.zP,L3.zQ,L3.t4,L3.EU,L3.z5,L3.oX,L3.oY,L3.oZ,L3.o4,L3.uc,L3.o5,L3.o6,L3.lI,L3.z7,L3.ud,L3.z8,L3.ue,L3.lJ,L3.jt,L3.lK,L3.ju,L3.o7,L3.kj,L3.iG,L3.lL,L3.b0,L3.gs,L3.lM,L3.jv,L3.EV,L3.z_,L3.ug,L3.uh,L3.EX,L3.EY,L3.ui,L3.uj,L3.uk,L3.o8,L3.ul,L3.Ac,L3.um,L3.uq,L3.Ad,L3.Ae,L3.ur,L3.o9,L3.o_,L3.uw,L3.ux,L3.E3,L3.Ah,L3.Ai,L3.Aj,L3.Al,L3.uy,L3.uz,L3.uA,L3.uB,L3.bK,L3.Hw,L3.Hx,L3.Hy,L3.pc,L3.uC,L3.uD,L3.pd,L3.pf,L3.E4,L3.Am,L3.uE,L3.uF,L3.An,L3.uG,L3.ph,L3.pp,L3.uH,L3.pq,L3.Ao,L3.uI,L3.uJ,L3.lN,L3.lO,L3.px,L3.lP,L3.lQ,L3.Ap,L3.pz,L3.lR,L3.lS,L3.lT,L3.uK,L3.uS,L3.uT,L3.iN,L3.pJ,L3.iO,L3.pK,L3.Ar,L3.pI,L3.Res.noX_ok,L3.we,L3.wf,L3.Hz,L3.HA,L3.HB,L3.HC,L3.HD,Int.reduceBEq,L3.nG,L3.uR,L3.pG,L3.pH,L3.l7,Bool.not_not,Nat.reduceEqDiff,L3.uL,L3.Aq,L3.uM,L3.uN,L3.dW,L3.pD,L3.pE,L3.lW,L3.lX,L3.lY,L3.iM,L3.lZ,L3.l5,L3.cH,L3.kn,Bool.and_true,Bool.true_and,Bool.and_false,Bool.false_and,Bool.and_self,Bool.not_true,Bool.not_false,L3.uP,L3.uQ,L3.fG,L3.oW,L3.hV,L3.bM,L3.eZ,L3.uV,L3.uW,L3.pM,L3.pN,L3.pO,L3.uU,L3.pL,L3.As,L3.uX,L3.uY,L3.uZ,L3.pP,L3.pQ,L3.Au,L3.u3,L3.E8,L3.l9,L3.pR,L3.u4,L3.gu,L3.jO,L3.eZ,L3.dc,$as,*] $[$l]?)
local macro_rules|`(tactic| simp_arith $[$l:location]?)=>`(tactic| simp_arith[L3.fU] $[$l]?)
namespace L3
open PySem L2
theorem mj {α β:Type}(g:α->β)(xs:List α)(lo hi:Option Int):bU (xs.map g) lo hi=(bU xs lo hi).map g:=by
 unfold bU;rw[List.length_map,List.map_take,List.map_drop]
theorem sf {α:Type}(xs:List α)(lo hi:Option Int):(bU xs lo hi).length<=xs.length:=by
 unfold bU;rw[List.length_take,List.length_drop];omega
theorem AI {ds:List D}:(∀ d∈ds,d.flat=true)->D.flats ds=true:=by
 induction ds with
 |nil=>intro _;rfl
 |cons d r ih=>intro h;rw[bv,h d (by simp),ih fun x hx=>h x (by simp[hx])];rfl
theorem bH {α:Type}(g:α->D)(xs:List α)(h:∀ a,(g a).flat=true):D.flats (xs.map g)=true:=
 AI fun d hd=>by obtain⟨a,_,rfl⟩:=List.mem_map.mp hd;exact h a
theorem aq (xs:List Int):D.flats (xs.map D.int)=true:=bH _ _ eV
theorem Cs {ds:List D}{n:Nat}:(∀ d∈ds,d.dep<=n)->D.deps ds<=n:=by
 induction ds with
 |nil=>intro _;rw[dD];omega
 |cons d r ih=>
  intro h
  have h1:=h d (by simp)
  have h2:=ih fun x hx=>h x (by simp[hx])
  rw[cF];omega
theorem iQ {α:Type}{g:α->D}{xs:List α}{n:Nat}(h:∀ a,(g a).dep<=n):D.deps (xs.map g)<=n:=
 Cs fun d hd=>by obtain⟨a,_,rfl⟩:=List.mem_map.mp hd;exact h a
theorem de (xs:List Int):D.deps (xs.map D.int)<=0:=iQ fun _=>Nat.le_refl 0
theorem e_ {α:Type}(g:α->D)(xs:List α):aR (xs.map fun a=>.val (g a) true [])=true:=by
 unfold aR;rw[List.all_eq_true];intro r h;obtain⟨a,_,rfl⟩:=List.mem_map.mp h;rfl
theorem fP {α:Type}(g:α->D)(fr:Bool)(al:List Nat)(xs:List α):(xs.map fun a=>R.val (g a) fr al).map R.d=xs.map g:=by rw[List.map_map];rfl
theorem nL {α:Type}(g:α->D):∀(xs:List α)(n:Nat),cW n (xs.map g)=(xs.zipIdx n).map fun p=>.tup [.int (p.2:Nat),g p.1]
 | [],_=>rfl
 |a::r,n=>by rw[List.map_cons,List.zipIdx_cons,List.map_cons];unfold cW;rw[nL g r (n+1)]
theorem Ct (n:Nat):du 0 n=(List.range n).map fun k=>.int (k:Nat):=by
 unfold du;congr 1;funext k;simp
theorem wn (f:D->Bool->En->Option En)(fs:List D->Bool->En->Option En)(d:D)(ds:List D)(fr:Bool)(env:En):bb f fs (d::ds) fr env=(f d fr env).bind fun e=>fs ds fr e:=(rfl)
def cell (ns:List Int)(k:Int):Int:=if k<ns.length then ((atI ns k).getD 0 % 2147483647+11+k*k)*48271 % 2147483647 else 0
theorem wo (ns:List Int)(k:Int):0<=cell ns k:=by unfold cell;split<;>omega
theorem Cu {α β:Type}(g:α->β)(xs:List α)(k:Int):atI (xs.map g) k=(atI xs k).map g:=by
 unfold atI;rw[List.length_map]
 cases qM xs.length k with
 |none=>rfl
 |some j=>simp
theorem Fe {α:Type}{xs:List α}{k:Int}(h0:0<=k)(h:k<xs.length):∃ a,atI xs k=some a/\xs[k.toNat]?=some a:=by
 unfold atI qM;rw[if_pos h0,if_pos h]
 have:k.toNat<xs.length:=by omega
 exact⟨xs[k.toNat],by simp[this],by simp[this]⟩
structure Rl where
 room:Int
 sign:Int
 to:Int
 put:List Int
def Rl.d (r:Rl):D:=.tup [.int r.room,.int r.sign,.int r.to,.tup (r.put.map .int)]
theorem Rl.flat (r:Rl):r.d.flat=true:=by unfold Rl.d;simp only[eY,bv,eV,aq,gC,Bool.and_self]
theorem Rl.dep (r:Rl):r.d.dep<=2:=by
 have:=de r.put
 unfold Rl.d;simp only[gE,cF,gD,dD];omega
def jy (cell rooms signs:Int):Rl:=
 let c:=(cell % 2147483629+5)*69621 % 2147483629
 { room:=c % rooms,sign:=c / rooms % signs,to:=c / rooms / signs % rooms,
   put:=bU [c / rooms / signs / rooms / 3 % signs,c / rooms / signs / rooms / 3 / signs % signs] none (some (c / rooms / signs / rooms % 3)) }
theorem ve (c rooms signs:Int):(jy c rooms signs).put.length<=2:=sf _ _ _
end L3
namespace W
open PySem PySem.Spec PyProof.Rows L2 L3
def top (i:Nat):Stmt:=PySem.Challenge.pw_callwalk_k31_leak.main.body.getD i (.Pass ⟨0,0,0,0⟩)
abbrev s__law_cell_at:Stmt:=top 10
abbrev gv:List Str:=["_law_script", "_law_k"]
abbrev P__law_cell_at:List Str:=["_law_script", "_law_k"]
theorem j3:FnScope gv P__law_cell_at (defScope s__law_cell_at):=⟨rfl,rfl,rfl,by decide +kernel,rfl,by decide +kernel,by decide +kernel⟩
def dE:En->Res Fl:=
 (ay (kc (vB (v2 Hj (ad 1) (i8 io (ac (ad 0) ar)))) (bX (v2 cS (v2 xi (v2 fA (v2 fA (v2 cS (aN 0 (ad 1)) (vC (.int 2147483647))) (vC (.int 11))) (v2 xi (ad 1) (ad 1))) (vC (.int 48271))) (vC (.int 2147483647)))) c4)
 (bX (vC (.int 0))))
def aJ:List D->Res R:=d7 gv dE
abbrev s__law_rule:Stmt:=top 12
abbrev jP:List Str:=["_law_cell", "_law_rooms", "_law_signs", "_law_room", "_law_sign", "_law_to", "_law_size"]
abbrev P__law_rule:List Str:=["_law_cell", "_law_rooms", "_law_signs"]
theorem sc__law_rule:FnScope jP P__law_rule (defScope s__law_rule):=⟨rfl,rfl,rfl,by decide +kernel,rfl,by decide +kernel,by decide +kernel⟩
def jQ:En->Res Fl:=
 (ay (bo 0 (v2 cS (v2 xi (v2 fA (v2 cS (ad 0) (vC (.int 2147483629))) (vC (.int 5))) (vC (.int 69621))) (vC (.int 2147483629))))
 (ay (bo 3 (v2 cS (ad 0) (ad 1)))
 (ay (bo 0 (v2 f_ (ad 0) (ad 1)))
 (ay (bo 4 (v2 cS (ad 0) (ad 2)))
 (ay (bo 0 (v2 f_ (ad 0) (ad 2)))
 (ay (bo 5 (v2 cS (ad 0) (ad 1)))
 (ay (bo 0 (v2 f_ (ad 0) (ad 1)))
 (ay (bo 6 (v2 cS (ad 0) (vC (.int 3))))
 (ay (bo 0 (v2 f_ (ad 0) (vC (.int 3))))
 (bX (dJ (ac (ad 3) (ac (ad 4) (ac (ad 5) (ac (gk (dJ (ac (v2 cS (ad 0) (ad 2)) (ac (v2 cS (v2 f_ (ad 0) (ad 2)) (ad 2)) ar))) nk (gM (ad 6))) ar)))))))))))))))
def dX:List D->Res R:=d7 jP jQ
abbrev s__law_arrow:Stmt:=top 13
abbrev iR:List Str:=["_law_cell", "_law_states", "_law_signs", "_law_state"]
abbrev P__law_arrow:List Str:=["_law_cell", "_law_states", "_law_signs"]
theorem sc__law_arrow:FnScope iR P__law_arrow (defScope s__law_arrow):=⟨rfl,rfl,rfl,by decide +kernel,rfl,by decide +kernel,by decide +kernel⟩
def iS:En->Res Fl:=
 (ay (bo 0 (v2 cS (v2 xi (v2 fA (v2 cS (ad 0) (vC (.int 2147483587))) (vC (.int 7))) (vC (.int 16807))) (vC (.int 2147483587))))
 (ay (bo 3 (v2 cS (ad 0) (ad 1)))
 (ay (bo 0 (v2 f_ (ad 0) (ad 1)))
 (bX (dJ (ac (ad 3) (ac (v2 cS (ad 0) (ad 2)) (ac (v2 cS (v2 f_ (ad 0) (ad 2)) (ad 1)) ar))))))))
def cv:List D->Res R:=d7 iR iS
abbrev s__law_nearly:Stmt:=top 14
abbrev d_:List Str:=["_law_cells", "_law_pick", "_law_states", "_law_signs", "_law_arrows", "_law_state", "_law_sign", "_law_far", "_law_cell", "_law_gone", "_law_ends"]
abbrev P__law_nearly:List Str:=["_law_cells", "_law_pick", "_law_states", "_law_signs"]
theorem sc__law_nearly:FnScope d_ P__law_nearly (defScope s__law_nearly):=⟨rfl,rfl,rfl,by decide +kernel,rfl,by decide +kernel,by decide +kernel⟩
theorem iT:((["_law_arrow_here"]:List Str)++(["_law_gone"]:List Str)).Nodup:=by decide +kernel
def bB:En->Res Fl:=fun env=>
 (yV 4 (dJ (ac (ad 5) (ac (ad 6) (ac (ad 7) ar))))) env
def bC:En->Res Fl:=fun env=>
 (gJ (CZ (ac (ad 2) ar)) (gN 7) bB) env
def bF:En->Res Fl:=fun env=>
 (gJ (CZ (ac (ad 3) ar)) (gN 6) bC) env
def b7:En->Res Bool:=fun env=>
 (vB (v2 Ba (ad 0) (ad 1))) env
def b8:En->Res R:=fun env=>
 (ad 0) env
def bG:En->Res Fl:=fun env=>
 (ay (cu 9 (aO cv (ac (ad 8) (ac (ad 2) (ac (ad 3) ar)))))
 (bo 4 (dv 1 [9] (gc (ad 4)) (gN 0) b7 b8))) env
def eh:En->Res Fl:=
 (ay (bo 4 (Em ar))
 (ay (gJ (CZ (ac (ad 2) ar)) (gN 5) bF)
 (ay (gJ (gc (gk (ad 0) nk (gM (v2 fA (vC (.int 1)) (v2 cS (ad 1) (vC (.int 4))))))) (gN 8) bG)
 (ay (bo 10 (i8 kh (ac (ad 2) ar)))
 (ay (kc (vB (v2 sG (v2 cS (v2 f_ (ad 1) (vC (.int 4))) (vC (.int 3))) (vC (.int 1)))) (zL 10 (v2 cS (v2 f_ (ad 1) (vC (.int 12))) (ad 2))) c4)
 (bX (dJ (ac (ad 2) (ac (ad 4) (ac (ad 10) ar))))))))))
def b4:List D->Res R:=d7 d_ eh
abbrev s__law_machine:Stmt:=top 15
abbrev cw:List Str:=["_law_cells", "_law_pick", "_law_rooms", "_law_signs", "_law_states", "_law_arrows", "_law_bits", "_law_ends"]
abbrev P__law_machine:List Str:=["_law_cells", "_law_pick", "_law_rooms", "_law_signs"]
theorem sc__law_machine:FnScope cw P__law_machine (defScope s__law_machine):=⟨rfl,rfl,rfl,by decide +kernel,rfl,by decide +kernel,by decide +kernel⟩
theorem hW:((["_law_cell"]:List Str)++(["_law_signs", "_law_states"]:List Str)).Nodup:=by decide +kernel
theorem hZ:((["_law_state"]:List Str)++(["_law_bits"]:List Str)).Nodup:=by decide +kernel
def bq:En->Res R:=fun env=>
 (aO cv (ac (ad 0) (ac (ad 2) (ac (ad 1) ar)))) env
def br:En->Res Bool:=fun env=>
 (vB (v2 sG (v2 zt (v2 EB (ad 1) (ad 0)) (vC (.int 1))) (vC (.int 1)))) env
def bt:En->Res R:=fun env=>
 (ad 0) env
def dF:En->Res Fl:=
 (ay (bo 4 (v2 fA (ad 2) (v2 cS (ad 1) (vC (.int 3)))))
 (ay (kc (vB (v2 sG (v2 cS (v2 f_ (ad 1) (vC (.int 3))) (vC (.int 2))) (vC (.int 0)))) (bX (aO b4 (ac (ad 0) (ac (v2 f_ (ad 1) (vC (.int 6))) (ac (ad 4) (ac (ad 3) ar)))))) c4)
 (ay (bo 5 (dv 1 [3,4] (gc (ad 0)) (gN 0) (fun _=>.ok true) bq))
 (ay (bo 6 (v2 f_ (ad 1) (vC (.int 6))))
 (ay (bo 7 (dv 1 [6] (CZ (ac (ad 4) ar)) (gN 0) br bt))
 (bX (dJ (ac (ad 4) (ac (Hr (ad 5)) (ac (ad 7) ar))))))))))
def bO:List D->Res R:=d7 cw dF
abbrev s__law_kept:Stmt:=top 16
abbrev jR:List Str:=["_law_machine_here", "_law_held", "_law_rule_here", "_law_far", "_law_to", "_law_put", "_law_arrow_here", "_law_mid"]
abbrev P__law_kept:List Str:=["_law_machine_here", "_law_held", "_law_rule_here", "_law_far"]
theorem sc__law_kept:FnScope jR P__law_kept (defScope s__law_kept):=⟨rfl,rfl,rfl,by decide +kernel,rfl,by decide +kernel,by decide +kernel⟩
def bh:En->Res Fl:=fun env=>
 (kc (xj (vB (v2 sG (aN 6 (vC (.int 0))) (ad 3))) (vB (v2 dS (dJ (ac (ad 4) (ac (aN 6 (vC (.int 1))) (ac (aN 6 (vC (.int 2))) ar)))) (ad 1)))) (bX (vC (.bl false))) c4) env
def bj:En->Res Fl:=fun env=>
 (kc (xj (vB (v2 rH (dJ (ac (ad 4) (ac (aN 5 (vC (.int 0))) (ac (ad 7) ar)))) (ad 1))) (vB (v2 rH (dJ (ac (ad 7) (ac (aN 5 (vC (.int 1))) (ac (ad 3) ar)))) (ad 1)))) (bX (vC (.bl true))) c4) env
def bP:En->Res Fl:=
 (ay (bo 4 (aN 2 (vC (.int 2))))
 (ay (bo 5 (aN 2 (vC (.int 3))))
 (ay (kc (vB (v2 sG (i8 io (ac (ad 5) ar)) (vC (.int 0)))) (ay (gJ (gc (aN 0 (vC (.int 1)))) (gN 6) bh)
 (bX (Hm (v2 dS (ad 3) (aN 0 (vC (.int 2)))) (v2 rH (ad 4) (aN 0 (vC (.int 2))))))) c4)
 (ay (kc (vB (v2 sG (i8 io (ac (ad 5) ar)) (vC (.int 1)))) (bX (v2 rH (dJ (ac (ad 4) (ac (aN 5 (vC (.int 0))) (ac (ad 3) ar)))) (ad 1))) c4)
 (ay (gJ (CZ (ac (aN 0 (vC (.int 0))) ar)) (gN 7) bj)
 (bX (vC (.bl false))))))))
def aP:List D->Res R:=d7 jR bP
abbrev s__law_due:Stmt:=top 17
abbrev ml:List Str:=["_law_rules", "_law_machine_here", "_law_held", "_law_arrow_here", "_law_number"]
abbrev P__law_due:List Str:=["_law_rules", "_law_machine_here"]
theorem sc__law_due:FnScope ml P__law_due (defScope s__law_due):=⟨rfl,rfl,rfl,by decide +kernel,rfl,by decide +kernel,by decide +kernel⟩
def bw:En->Res Fl:=fun env=>
 (rL 2 (ad 3) (vC (.bl true))) env
def bx:En->Res Fl:=fun env=>
 (kc (xj (vB (v2 sG (gk (ad 3) nk (gM (vC (.int 2)))) (gk (aN 0 (ad 4)) nk (gM (vC (.int 2)))))) (k8 (jX (aO aP (ac (ad 1) (ac (ad 2) (ac (aN 0 (ad 4)) (ac (aN 3 (vC (.int 2))) ar)))))))) (bX (dJ (ac (ad 4) (ac (ad 3) ar)))) c4) env
def bz:En->Res Fl:=fun env=>
 (gJ (gc (aN 1 (vC (.int 1)))) (gN 3) bx) env
def h8:En->Res Fl:=
 (ay (bo 2 (fun _=>.ok (.fre (.dic [] []))))
 (ay (gJ (gc (aN 1 (vC (.int 1)))) (gN 3) bw)
 (ay (gJ (CZ (ac (i8 io (ac (ad 0) ar)) ar)) (gN 4) bz)
 (bX (vC .non)))))
def bQ:List D->Res R:=d7 ml h8
abbrev s__law_whole:Stmt:=top 11
abbrev iU:List Str:=["_law_found"]
abbrev P__law_whole:List Str:=["_law_found"]
theorem mL:FnScope iU P__law_whole (defScope s__law_whole):=⟨rfl,rfl,rfl,by decide +kernel,rfl,by decide +kernel,by decide +kernel⟩
def iV:En->Res Fl:=
 (bX (BH (xr "int" (ad 0)) (Ek (xr "bool" (ad 0)))))
def cz:List D->Res R:=d7 iU iV
abbrev s__law_told:Stmt:=top 18
abbrev dY:List Str:=["_law_found", "_law_due_here"]
abbrev P__law_told:List Str:=["_law_found", "_law_due_here"]
theorem ql:FnScope dY P__law_told (defScope s__law_told):=⟨rfl,rfl,rfl,by decide +kernel,rfl,by decide +kernel,by decide +kernel⟩
theorem fQ:((["_law_part"]:List Str)++([]:List Str)).Nodup:=by decide +kernel
def bI:En->Res R:=fun env=>
 (aO cz (ac (ad 0) ar)) env
def gw:En->Res Fl:=
 (ay (kc (CY (zf (ad 1)) (zf (ad 0))) (bX (BH (tP (ad 1)) (tP (ad 0)))) c4)
 (ay (kc (CY (k8 (jX (xr "tuple" (ad 0)))) (CY (vB (v2 Ba (i8 io (ac (ad 0) ar)) (vC (.int 2)))) (k8 (jX (aO cz (ac (aN 0 (vC (.int 0))) ar)))))) (bX (vC (.bl false))) c4)
 (ay (kc (CY (k8 (jX (xr "tuple" (aN 0 (vC (.int 1)))))) (k8 (jX (i8 y_ (ac (bp 1 [] (aN 0 (vC (.int 1))) (gN 0) (fun _=>.ok true) bI) ar))))) (bX (vC (.bl false))) c4)
 (bX (v2 sG (ad 0) (ad 1))))))
def ci:List D->Res R:=d7 dY gw
abbrev s_arrow_table:Stmt:=top 3
abbrev gR:List Str:=["machine", "table", "start", "sign", "to"]
abbrev P_arrow_table:List Str:=["machine"]
theorem sc_arrow_table:FnScope gR P_arrow_table (defScope s_arrow_table):=⟨rfl,rfl,rfl,by decide +kernel,rfl,by decide +kernel,by decide +kernel⟩
def gS:En->Res Fl:=
 (ay (bo 1 (fun _=>.ok (.fre (.dic [] []))))
 (ay (zJ 1 2 3 4 (aN 0 (vC (.int 1))))
 (bX (ad 1))))
def b5:List D->Res R:=d7 gR gS
abbrev s_marked:Stmt:=top 1
abbrev iW:List Str:=["things"]
abbrev P_marked:List Str:=["things"]
theorem xG:FnScope iW P_marked (defScope s_marked):=⟨rfl,rfl,rfl,by decide +kernel,rfl,by decide +kernel,by decide +kernel⟩
theorem iX:((["thing"]:List Str)++([]:List Str)).Nodup:=by decide +kernel
def cc:En->Res R:=fun env=>
 (dJ (ac (ad 0) (ac (vC (.bl true)) ar))) env
def sh:En->Res Fl:=
 (bX (i8 jm (ac (bp 1 [] (ad 0) (gN 0) (fun _=>.ok true) cc) ar)))
def iY:List D->Res R:=d7 iW sh
abbrev s_led_to:Stmt:=top 4
abbrev sj:List Str:=["table", "start", "sign"]
abbrev P_led_to:List Str:=["table", "start", "sign"]
theorem xH:FnScope sj P_led_to (defScope s_led_to):=⟨rfl,rfl,rfl,by decide +kernel,rfl,by decide +kernel,by decide +kernel⟩
def sk:En->Res Fl:=
 (bX (rM (rM (ad 0) (ad 1) (fun _=>.ok (.fre (.dic [] [])))) (ad 2) (fun _=>.ok (.fre (.dic [] [])))))
def aV:List D->Res R:=d7 sj sk
abbrev s_unled:Stmt:=top 6
abbrev qo:List Str:=["table", "room", "put", "states", "left", "mid", "there"]
abbrev P_unled:List Str:=["table", "room", "put", "states"]
theorem sc_unled:FnScope qo P_unled (defScope s_unled):=⟨rfl,rfl,rfl,by decide +kernel,rfl,by decide +kernel,by decide +kernel⟩
theorem sn:((["state"]:List Str)++(["there"]:List Str)).Nodup:=by decide +kernel
def gF:En->Res Bool:=fun env=>
 (vB (v2 dS (ad 0) (ad 1))) env
def gG:En->Res R:=fun env=>
 (ad 0) env
def cj:En->Res Fl:=fun env=>
 (ay (cu 6 (aO aV (ac (ad 0) (ac (ad 5) (ac (aN 2 (vC (.int 1))) ar)))))
 (ay (bo 4 (dv 1 [6] (gc (ad 4)) (gN 0) gF gG))
 (kc (k8 (jX (ad 4))) (fun env=>.ok (.bk env)) c4))) env
def qp:En->Res Fl:=
 (ay (bo 4 (i8 dB (ac (ad 3) ar)))
 (ay (gJ (EG (ac (i8 dB (ac (aO aV (ac (ad 0) (ac (ad 1) (ac (aN 2 (vC (.int 0))) ar)))) ar)) ar)) (gN 5) cj)
 (bX (ad 4))))
def gH:List D->Res R:=d7 qo qp
abbrev s_goes_on_as:Stmt:=top 5
abbrev c6:List Str:=["table", "ends", "room", "state", "sign", "there", "known"]
abbrev P_goes_on_as:List Str:=["table", "ends", "room", "state"]
theorem sc_goes_on_as:FnScope c6 P_goes_on_as (defScope s_goes_on_as):=⟨rfl,rfl,rfl,by decide +kernel,rfl,by decide +kernel,by decide +kernel⟩
theorem ff:((["to"]:List Str)++(["known"]:List Str)).Nodup:=by decide +kernel
def bR:En->Res R:=fun env=>
 (v2 rH (ad 0) (ad 1)) env
def aK:En->Res Fl:=fun env=>
 (ay (cu 6 (aO aV (ac (ad 0) (ac (ad 2) (ac (ad 4) ar)))))
 (kc (k8 (jX (i8 y_ (ac (bp 1 [6] (ad 5) (gN 0) (fun _=>.ok true) bR) ar)))) (bX (vC (.bl false))) c4)) env
def bW:En->Res Fl:=
 (ay (kc (xj (vB (v2 rH (ad 3) (ad 1))) (vB (v2 dS (ad 2) (ad 1)))) (bX (vC (.bl false))) c4)
 (ay (zF (rM (ad 0) (ad 3) (fun _=>.ok (.fre (.dic [] [])))) (gT 2 (bb (gN 4) (bb (gN 5) gb))) aK)
 (bX (vC (.bl true)))))
def aW:List D->Res R:=d7 c6 bW
abbrev s_leaking:Stmt:=top 7
abbrev ck:List Str:=["table", "ends", "rule", "known", "room", "put", "states", "there", "state"]
abbrev P_leaking:List Str:=["table", "ends", "rule", "known"]
theorem sc_leaking:FnScope ck P_leaking (defScope s_leaking):=⟨rfl,rfl,rfl,by decide +kernel,rfl,by decide +kernel,by decide +kernel⟩
theorem gU:((["state"]:List Str)++(["there"]:List Str)).Nodup:=by decide +kernel
theorem gW:((["state"]:List Str)++(["known", "room"]:List Str)).Nodup:=by decide +kernel
def cN:En->Res Bool:=fun env=>
 (vB (v2 dS (ad 0) (ad 1))) env
def cO:En->Res R:=fun env=>
 (ad 0) env
def aG:En->Res Fl:=fun env=>
 (kc (vB (v2 dS (dJ (ac (ad 4) (ac (ad 8) ar))) (ad 3))) (rL 3 (dJ (ac (ad 4) (ac (ad 8) ar))) (aO aW (ac (ad 0) (ac (ad 1) (ac (ad 4) (ac (ad 8) ar)))))) c4) env
def cm:En->Res Bool:=fun env=>
 (k8 (jX (aN 1 (dJ (ac (ad 2) (ac (ad 0) ar)))))) env
def cn:En->Res R:=fun env=>
 (ad 0) env
def jz:En->Res Fl:=
 (ay (bo 4 (aN 2 (vC (.int 2))))
 (ay (bo 5 (aN 2 (vC (.int 3))))
 (ay (cu 6 (aO aV (ac (ad 0) (ac (aN 2 (vC (.int 0))) (ac (aN 2 (vC (.int 1))) ar)))))
 (ay (kc (vB (v2 sG (i8 io (ac (ad 5) ar)) (vC (.int 1)))) (ay (cu 7 (aO aV (ac (ad 0) (ac (ad 4) (ac (aN 5 (vC (.int 0))) ar)))))
 (jI (bp 1 [7] (ad 6) (gN 0) cN cO))) c4)
 (ay (kc (vB (v2 sG (i8 io (ac (ad 5) ar)) (vC (.int 2)))) (jI (aO gH (ac (ad 0) (ac (ad 4) (ac (ad 5) (ac (ad 6) ar)))))) c4)
 (ay (lz (ad 6) (gN 8) aG)
 (jI (bp 1 [3,4] (ad 6) (gN 0) cm cn))))))))
def gI:List D->D->Res (List D×D):=EN ck jz
abbrev s_leak:Stmt:=top 8
abbrev AJ:List Str:=["house", "machine", "table", "ends", "known", "number", "rule", "states"]
abbrev P_leak:List Str:=["house", "machine"]
theorem sc_leak:FnScope AJ P_leak (defScope s_leak):=⟨rfl,rfl,rfl,by decide +kernel,rfl,by decide +kernel,by decide +kernel⟩
def cA:En->Res Fl:=fun env=>
 (ay (lF 7 4 gI (ac (ad 2) (ac (ad 3) (ac (ad 6) ar))))
 (kc (jX (ad 7)) (bX (dJ (ac (ad 5) (ac (dJ (ac (aN 6 (vC (.int 0))) (ac (aN 6 (vC (.int 1))) (ac (i8 lH (ac (ad 7) ar)) ar)))) ar)))) c4)) env
def vg:En->Res Fl:=
 (ay (cu 2 (aO b5 (ac (ad 1) ar)))
 (ay (cu 3 (aO iY (ac (aN 1 (vC (.int 2))) ar)))
 (ay (bo 4 (fun _=>.ok (.fre (.dic [] []))))
 (ay (gJ (zb (ac (aN 0 (vC (.int 2))) ar)) (gT 2 (bb (gN 5) (bb (gN 6) gb))) cA)
 (bX (vC .non))))))
def h_:List D->Res R:=d7 AJ vg
abbrev s_law:Stmt:=top 19
abbrev AK:List Str:=["_law_script", "_law_size", "_law_rooms", "_law_signs", "_law_until", "_law_rules", "_law_machine_here", "_law_house", "_law_handed", "_law_due_here", "_law_less"]
abbrev P_law:List Str:=["_law_script"]
theorem sc_law:FnScope AK P_law (defScope s_law):=⟨rfl,rfl,rfl,by decide +kernel,rfl,by decide +kernel,by decide +kernel⟩
theorem xI:((["_law_cell"]:List Str)++(["_law_rooms", "_law_signs"]:List Str)).Nodup:=by decide +kernel
def iZ:En->Res R:=fun env=>
 (aO dX (ac (ad 0) (ac (ad 1) (ac (ad 2) ar)))) env
def sq:En->Res Fl:=fun env=>
 (bX (aO ci (ac (aO h_ (ac (ad 7) (ac (ad 8) ar))) (ac (aO bQ (ac (ad 5) (ac (ad 10) ar))) ar)))) env
def sr:En->Res Fl:=fun env=>
 (ay (bo 10 (GP (aN 6 (vC (.int 0))) (i8 dB (ac (aN 8 (vC (.int 1))) ar)) (i8 dB (ac (aN 6 (vC (.int 2))) ar))))
 sq) env
def su:En->Res Fl:=fun env=>
 (ay (rX 8 (aN 9 (vC (.int 1))))
 sr) env
def mq:En->Res Fl:=fun env=>
 (ay (kc (zf (ad 9)) (bX (vC (.bl true))) c4)
 su) env
def mr:En->Res Fl:=fun env=>
 (ay (kc (CY (k8 (jX (aO ci (ac (aO h_ (ac (ad 7) (ac (ad 8) ar))) (ac (ad 9) ar))))) (CY (vB (v2 Ba (ad 8) (ad 6))) (vB (v2 Ba (ad 7) (dJ (ac (ad 2) (ac (ad 3) (ac (ad 5) ar)))))))) (bX (vC (.bl false))) c4)
 mq) env
def qq:En->Res Fl:=fun env=>
 (ay (cu 9 (aO bQ (ac (ad 5) (ac (ad 6) ar))))
 mr) env
def qu:En->Res Fl:=fun env=>
 (ay (bo 8 (GP (aN 6 (vC (.int 0))) (i8 dB (ac (aN 6 (vC (.int 1))) ar)) (i8 dB (ac (aN 6 (vC (.int 2))) ar))))
 qq) env
def kr:En->Res Fl:=fun env=>
 (ay (bo 7 (dJ (ac (ad 2) (ac (ad 3) (ac (i8 dB (ac (ad 5) ar)) ar)))))
 qu) env
def wp:En->Res Fl:=fun env=>
 (ay (cu 6 (aO bO (ac (gk (ad 0) (gM (ad 4)) (gM (v2 fA (ad 4) (vC (.int 60))))) (ac (aO aJ (ac (ad 0) (ac (vC (.int 1)) ar))) (ac (ad 2) (ac (ad 3) ar))))))
 kr) env
def wq:En->Res Fl:=fun env=>
 (ay (bo 5 (dv 1 [2,3] (gc (gk (ad 0) (gM (vC (.int 4))) (gM (ad 4)))) (gN 0) (fun _=>.ok true) iZ))
 wp) env
def wt:En->Res Fl:=fun env=>
 (ay (bo 4 (v2 fA (vC (.int 4)) (v2 cS (v2 f_ (ad 1) (vC (.int 9))) (v2 fA (vC (.int 1)) (i8 lH (ac (vC (.int 20)) (ac (i8 Et (ac (vC (.int 0)) (ac (v2 f_ (v2 Eg (i8 io (ac (ad 0) ar)) (vC (.int 4))) (vC (.int 2))) ar))) ar)))))))
 wq) env
def wu:En->Res Fl:=fun env=>
 (ay (bo 3 (v2 fA (vC (.int 1)) (v2 cS (v2 f_ (ad 1) (vC (.int 3))) (vC (.int 3)))))
 wt) env
def wv:En->Res Fl:=fun env=>
 (ay (bo 2 (v2 fA (vC (.int 1)) (v2 cS (ad 1) (vC (.int 3)))))
 wu) env
def Dc:En->Res Fl:=
 (ay (cu 1 (aO aJ (ac (ad 0) (ac (vC (.int 0)) ar))))
 wv)
def sv:List D->Res R:=d7 AK Dc
set_option genInjectivity false in
structure Tx (K:PySem.W.Frag) (mg:Str->Option Value) where
 f_a:Addr
 fd_a:FuncData
 h_a:Fn K mg "_law_cell_at" s__law_cell_at P__law_cell_at f_a fd_a
 f_b:Addr
 fd_b:FuncData
 h_b:Fn K mg "_law_rule" s__law_rule P__law_rule f_b fd_b
 f_c:Addr
 fd_c:FuncData
 h_c:Fn K mg "_law_arrow" s__law_arrow P__law_arrow f_c fd_c
 f_d:Addr
 fd_d:FuncData
 h_d:Fn K mg "_law_nearly" s__law_nearly P__law_nearly f_d fd_d
 f_e:Addr
 fd_e:FuncData
 h_e:Fn K mg "_law_machine" s__law_machine P__law_machine f_e fd_e
 f_f:Addr
 fd_f:FuncData
 h_f:Fn K mg "_law_kept" s__law_kept P__law_kept f_f fd_f
 f_g:Addr
 fd_g:FuncData
 h_g:Fn K mg "_law_due" s__law_due P__law_due f_g fd_g
 f_h:Addr
 fd_h:FuncData
 h_h:Fn K mg "_law_whole" s__law_whole P__law_whole f_h fd_h
 f_i:Addr
 fd_i:FuncData
 h_i:Fn K mg "_law_told" s__law_told P__law_told f_i fd_i
 f_j:Addr
 fd_j:FuncData
 h_j:Fn K mg "arrow_table" s_arrow_table P_arrow_table f_j fd_j
 f_k:Addr
 fd_k:FuncData
 h_k:Fn K mg "marked" s_marked P_marked f_k fd_k
 f_l:Addr
 fd_l:FuncData
 h_l:Fn K mg "led_to" s_led_to P_led_to f_l fd_l
 f_m:Addr
 fd_m:FuncData
 h_m:Fn K mg "unled" s_unled P_unled f_m fd_m
 f_n:Addr
 fd_n:FuncData
 h_n:Fn K mg "goes_on_as" s_goes_on_as P_goes_on_as f_n fd_n
 f_o:Addr
 fd_o:FuncData
 h_o:Fn K mg "leaking" s_leaking P_leaking f_o fd_o
 f_p:Addr
 fd_p:FuncData
 h_p:Fn K mg "leak" s_leak P_leak f_p fd_p
 f_q:Addr
 fd_q:FuncData
 h_q:Fn K mg "law" s_law P_law f_q fd_q
 nb_all:mg "all"=none
 nb_bool:mg "bool"=none
 nb_dict:mg "dict"=none
 nb_enumerate:mg "enumerate"=none
 nb_int:mg "int"=none
 nb_isinstance:mg "isinstance"=none
 nb_len:mg "len"=none
 nb_list:mg "list"=none
 nb_max:mg "max"=none
 nb_min:mg "min"=none
 nb_range:mg "range"=none
 nb_reversed:mg "reversed"=none
 nb_set:mg "set"=none
 nb_sorted:mg "sorted"=none
 nb_tuple:mg "tuple"=none
section
variable {P:Program}{w:World}{K:PySem.W.Frag}{mg:Str->Option Value}{base:Heap}
theorem fR (t:Tx K mg):FnOk P w K mg base jF 1 t.f_a t.fd_a P__law_cell_at (nh mg 2 aJ):=
 cV t.h_a.fu j3 fun cdv A outer s H E hr=>
  have hu:=hr.units
  (ah (bg (aM (F3) (qv 1) (bn ga (by rfl) t.nb_len (by decide +kernel) (aa (qv 0) aj)) (b9 _)) (am (aA (aw aZ (aw oD (aw dr (aw dr (aw aZ (jl (jf (pv 0) (qv 1) (fun _ _=>rfl)) (gA hu (hG (pv 0)) (qv 1) (fun _ _=>rfl))) ap) ap) (aw oD (qv 1) (qv 1))) ap) ap))) aI)
    (am (aA ap)))
theorem qw (t:Tx K mg):FnOk P w K mg base jF 1 t.f_b t.fd_b P__law_rule (nh mg 3 dX):=
 cV t.h_b.fu sc__law_rule fun cdv A outer s H E hr=>
  have hu:=hr.units
  (ah (aD sc__law_rule.nd rfl (.inl rfl) (aw aZ (aw oD (aw dr (aw aZ (qv 0) ap) ap) ap) ap))
    (ah (aD sc__law_rule.nd rfl (.inl rfl) (aw aZ (qv 0) (qv 1)))
    (ah (aD sc__law_rule.nd rfl (.inl rfl) (aw cb (qv 0) (qv 1)))
    (ah (aD sc__law_rule.nd rfl (.inl rfl) (aw aZ (qv 0) (qv 2)))
    (ah (aD sc__law_rule.nd rfl (.inl rfl) (aw cb (qv 0) (qv 2)))
    (ah (aD sc__law_rule.nd rfl (.inl rfl) (aw aZ (qv 0) (qv 1)))
    (ah (aD sc__law_rule.nd rfl (.inl rfl) (aw cb (qv 0) (qv 1)))
    (ah (aD sc__law_rule.nd rfl (.inl rfl) (aw aZ (qv 0) ap))
    (ah (aD sc__law_rule.nd rfl (.inl rfl) (aw cb (qv 0) ap))
    (am (aA (aS (aa (qv 3) (aa (qv 4) (aa (qv 5) (aa (eQ (aS (aa (aw aZ (qv 0) (qv 2)) (aa (aw aZ (aw cb (qv 0) (qv 2)) (qv 2)) aj))) iq (cM (qv 6))) aj))))))))))))))))
theorem gX (t:Tx K mg):FnOk P w K mg base jF 1 t.f_c t.fd_c P__law_arrow (nh mg 3 cv):=
 cV t.h_c.fu sc__law_arrow fun cdv A outer s H E hr=>
  have hu:=hr.units
  (ah (aD sc__law_arrow.nd rfl (.inl rfl) (aw aZ (aw oD (aw dr (aw aZ (qv 0) ap) ap) ap) ap))
    (ah (aD sc__law_arrow.nd rfl (.inl rfl) (aw aZ (qv 0) (qv 1)))
    (ah (aD sc__law_arrow.nd rfl (.inl rfl) (aw cb (qv 0) (qv 1)))
    (am (aA (aS (aa (qv 3) (aa (aw aZ (qv 0) (qv 2)) (aa (aw aZ (aw cb (qv 0) (qv 2)) (qv 1)) aj)))))))))
theorem mt (t:Tx K mg):FnOk P w K mg base jF 2 t.f_d t.fd_d P__law_nearly (nh mg 4 b4):=
 cV t.h_d.fu sc__law_nearly fun cdv A outer s H E hr=>
  have hu:=hr.units
  (ah (aD sc__law_nearly.nd rfl (.inl rfl) (Eo aj))
    (ah (b6 PassesOwn.never rfl (cC (by rfl) t.nb_range (aa (qv 2) aj)) (au sc__law_nearly.nd rfl (.inl rfl)) (am (b6 PassesOwn.never rfl (cC (by rfl) t.nb_range (aa (qv 3) aj)) (au sc__law_nearly.nd rfl (.inl rfl)) (am (b6 PassesOwn.never rfl (cC (by rfl) t.nb_range (aa (qv 2) aj)) (au sc__law_nearly.nd rfl (.inl rfl)) (am (BM (pv 4) (aS (aa (qv 5) (aa (qv 6) (aa (qv 7) aj)))))))))))
    (ah (b6 PassesOwn.never rfl (bL (eQ (qv 0) iq (cM (aw dr ap (aw aZ (qv 1) ap))))) (au sc__law_nearly.nd rfl (.inl rfl)) (ah (bZ sc__law_nearly.nd rfl (.inr rfl) (aE (gX t) (hr.mono (by decide)) (by rfl) t.h_c.gl t.h_c.fu.kp t.h_c.bi ba (aa (qv 8) (aa (qv 2) (aa (qv 3) aj))) (af (af (af av)))))
    (am (gh rfl (CScope.of (osc:=defScope s__law_nearly) (N:=d_) (tN:=["_law_arrow_here"]) (capN:=["_law_gone"]) (caps:=[9]) rfl rfl (by decide +kernel)) sc__law_nearly.nd rfl rfl (bL (qv 4)) (by decide) (fun cl C s3 H3 fp=>(au iT rfl (.inl rfl))) (fun cl C s3 H3 fp=>(dw (aM (vR hu) (qv 0) (qv 1) (b9 _)))) (fun cl C s3 H3 fp=>(qv 0))))))
    (ah (aD sc__law_nearly.nd rfl (.inl rfl) (xD (by rfl) (by rfl) t.nb_list (by decide +kernel) (by rfl) t.nb_range (aa (qv 2) aj)))
    (ah (bg (aM (gL hu) (aw aZ (aw cb (qv 1) ap) ap) ap (b9 _)) (am (B_ hu (pv 10) (aw aZ (aw cb (qv 1) ap) (qv 2)))) aI)
    (am (aA (aS (aa (qv 2) (aa (qv 4) (aa (qv 10) aj)))))))))))
theorem j5 (t:Tx K mg):FnOk P w K mg base jF 3 t.f_e t.fd_e P__law_machine (nh mg 4 bO):=
 cV t.h_e.fu sc__law_machine fun cdv A outer s H E hr=>
  have hu:=hr.units
  (ah (aD sc__law_machine.nd rfl (.inr rfl) (aw dr (qv 2) (aw aZ (qv 1) ap)))
    (ah (bg (aM (gL hu) (aw aZ (aw cb (qv 1) ap) ap) ap (b9 _)) (am (aA (aE (mt t) (hr.mono (by decide)) (by rfl) t.h_d.gl t.h_d.fu.kp t.h_d.bi ba (aa (qv 0) (aa (aw cb (qv 1) ap) (aa (qv 4) (aa (qv 3) aj)))) (af (af (af (af av))))))) aI)
    (ah (gh rfl (CScope.of (osc:=defScope s__law_machine) (N:=cw) (tN:=["_law_cell"]) (capN:=["_law_signs", "_law_states"]) (caps:=[3,4]) rfl rfl (by decide +kernel)) sc__law_machine.nd rfl rfl (bL (qv 0)) (by decide) (fun cl C s3 H3 fp=>(au hW rfl (.inl rfl))) (fun cl C s3 H3 fp=>cL) (fun cl C s3 H3 fp=>(aE (gX t) (hr.mono (by decide)) (by rfl) t.h_c.gl t.h_c.fu.kp t.h_c.bi ba (aa (qv 0) (aa (qv 2) (aa (qv 1) aj))) (af (af (af av))))))
    (ah (aD sc__law_machine.nd rfl (.inr rfl) (aw cb (qv 1) ap))
    (ah (gh rfl (CScope.of (osc:=defScope s__law_machine) (N:=cw) (tN:=["_law_state"]) (capN:=["_law_bits"]) (caps:=[6]) rfl rfl (by decide +kernel)) sc__law_machine.nd rfl rfl (cC (by rfl) t.nb_range (aa (qv 4) aj)) (by decide) (fun cl C s3 H3 fp=>(au hZ rfl (.inl rfl))) (fun cl C s3 H3 fp=>(dw (aM (gL hu) (aw BZ (aw EC (qv 1) (qv 0)) ap) ap (b9 _)))) (fun cl C s3 H3 fp=>(qv 0)))
    (am (aA (aS (aa (qv 4) (aa (oS (by rfl) hu (qv 5) (by rfl) t.nb_sorted (by decide +kernel) (by rfl) t.nb_set (by decide +kernel)) (aa (qv 7) aj)))))))))))
theorem qx (t:Tx K mg):FnOk P w K mg base jF 1 t.f_f t.fd_f P__law_kept (nh mg 4 aP):=
 cV t.h_f.fu sc__law_kept fun cdv A outer s H E hr=>
  have hu:=hr.units
  (ah (aD sc__law_kept.nd rfl (.inl rfl) (aC hu (pv 2)))
    (ah (aD sc__law_kept.nd rfl (.inl rfl) (aC hu (pv 2)))
    (ah (bg (aM (gL hu) (bn ga (by rfl) t.nb_len (by decide +kernel) (aa (qv 5) aj)) ap (b9 _)) (ah (b6 PassesOwn.never rfl (bL (aC hu (pv 0))) (au sc__law_kept.nd rfl (.inl rfl)) (am (bg (PWD.pt (j9 (aM (gL hu) (aC hu (pv 6)) (qv 3) (b9 _)) (im (aM (cg hu) (aS (aa (qv 4) (aa (aC hu (pv 6)) (aa (aC hu (pv 6)) aj)))) (qv 1) (by rfl))))) (am (aA dR)) aI)))
    (am (aA (F5 (jd (cg hu) (qv 3) (aC hu (pv 0)) (by rfl)) (tQ (jd (hI hu) (qv 4) (aC hu (pv 0)) (by rfl))))))) aI)
    (ah (bg (aM (gL hu) (bn ga (by rfl) t.nb_len (by decide +kernel) (aa (qv 5) aj)) ap (b9 _)) (am (aA (jd (hI hu) (aS (aa (qv 4) (aa (aC hu (pv 5)) (aa (qv 3) aj)))) (qv 1) (by rfl)))) aI)
    (ah (b6 PassesOwn.never rfl (cC (by rfl) t.nb_range (aa (aC hu (pv 0)) aj)) (au sc__law_kept.nd rfl (.inl rfl)) (am (bg (PWD.pt (j9 (aM (hI hu) (aS (aa (qv 4) (aa (aC hu (pv 5)) (aa (qv 7) aj)))) (qv 1) (by rfl)) (im (aM (hI hu) (aS (aa (qv 7) (aa (aC hu (pv 5)) (aa (qv 3) aj)))) (qv 1) (by rfl))))) (am (aA dR)) aI)))
    (am (aA dR)))))))
theorem jS (t:Tx K mg):FnOk P w K mg base jF 2 t.f_g t.fd_g P__law_due (nh mg 2 bQ):=
 cV t.h_g.fu sc__law_due fun cdv A outer s H E hr=>
  have hu:=hr.units
  (ah (aD sc__law_due.nd rfl (.inl rfl) gz)
    (ah (b6 PassesOwn.never rfl (bL (aC hu (pv 1))) (au sc__law_due.nd rfl (.inl rfl)) (am (ln (lg (pv 2) (qv 3) dR) (oO hu (pv 2) (qv 3) dR))))
    (ah (b6 PassesOwn.never rfl (cC (by rfl) t.nb_range (aa (bn ga (by rfl) t.nb_len (by decide +kernel) (aa (qv 0) aj)) aj)) (au sc__law_due.nd rfl (.inl rfl)) (am (b6 PassesOwn.never rfl (bL (aC hu (pv 1))) (au sc__law_due.nd rfl (.inl rfl)) (am (bg (PWD.pt (j9 (aM (gL hu) (eQ (qv 3) iq (cM ap)) (eQ (jl (jf (pv 0) (qv 4) (fun _ _=>rfl)) (gA hu (hG (pv 0)) (qv 4) (fun _ _=>rfl))) iq (cM ap)) (b9 _)) (im (cG (dt (aE (qx t) (hr.mono (by decide)) (by rfl) t.h_f.gl t.h_f.fu.kp t.h_f.bi ba (aa (qv 1) (aa (qv 2) (aa (jl (jf (pv 0) (qv 4) (fun _ _=>rfl)) (gA hu (hG (pv 0)) (qv 4) (fun _ _=>rfl))) (aa (aC hu (pv 3)) aj)))) (af (af (af (af av)))))))))) (am (aA (aS (aa (qv 4) (aa (qv 3) aj))))) aI)))))
    (am (aA yP)))))
theorem eF (t:Tx K mg):FnOk P w K mg base jF 1 t.f_h t.fd_h P__law_whole (nh mg 1 cz):=
 cV t.h_h.fu mL fun cdv A outer s H E hr=>
  have hu:=hr.units
  (am (aA (yS (oJ y8 (by rfl) t.nb_isinstance (by rfl) t.nb_int (by decide +kernel) (qv 0)) (tQ (El (oJ xq (by rfl) t.nb_isinstance (by rfl) t.nb_bool (by decide +kernel) (qv 0)))))))
theorem i6 (t:Tx K mg):FnOk P w K mg base jF 2 t.f_i t.fd_i P__law_told (nh mg 2 ci):=
 cV t.h_i.fu ql fun cdv A outer s H E hr=>
  have hu:=hr.units
  (ah (bg (PWD.pt (je (oK (qv 1)) (j8 (oK (qv 0))))) (am (aA (yS (yR (qv 1)) (tQ (yR (qv 0)))))) aI)
    (ah (bg (PWD.pt (je (cG (dt (oJ lf (by rfl) t.nb_isinstance (by rfl) t.nb_tuple (by decide +kernel) (qv 0)))) (je (aM (vR hu) (bn ga (by rfl) t.nb_len (by decide +kernel) (aa (qv 0) aj)) ap (b9 _)) (j8 (cG (dt (aE (eF t) (hr.mono (by decide)) (by rfl) t.h_h.gl t.h_h.fu.kp t.h_h.bi ba (aa (aC hu (pv 0)) aj) (af av)))))))) (am (aA dR)) aI)
    (ah (bg (PWD.pt (je (cG (dt (oJ lf (by rfl) t.nb_isinstance (by rfl) t.nb_tuple (by decide +kernel) (aC hu (pv 0))))) (j8 (cG (dt (bn (za (by rfl)) (by rfl) t.nb_all (by decide +kernel) (aa (gr (ip rfl (CScope.of (osc:=defScope s__law_told) (N:=dY) (tN:=["_law_part"]) (capN:=[]) (caps:=[]) rfl rfl (by decide +kernel)) (bL (aC hu (pv 0))) (by decide) (fun cl C s3 H3 fp=>(au fQ rfl (.inl rfl))) (fun cl C s3 H3 fp=>cL) (fun cl C s3 H3 fp=>(aE (eF t) (hr.mono (by decide)) (by rfl) t.h_h.gl t.h_h.fu.kp t.h_h.bi ba (aa (qv 0) aj) (af av)))) (gq rfl (CScope.of (osc:=defScope s__law_told) (N:=dY) (tN:=["_law_part"]) (capN:=[]) (caps:=[]) rfl rfl (by decide +kernel)) (aC hu (pv 0)) (by decide) (fun cl C s3 H3 fp=>(au fQ rfl (.inl rfl))) (fun cl C s3 H3 fp=>cL) (fun cl C s3 H3 fp=>(aE (eF t) (hr.mono (by decide)) (by rfl) t.h_h.gl t.h_h.fu.kp t.h_h.bi ba (aa (qv 0) aj) (af av))))) aj))))))) (am (aA dR)) aI)
    (am (aA (jd (gL hu) (qv 0) (qv 1) (b9 _)))))))
theorem mv (t:Tx K mg):FnOk P w K mg base jF 1 t.f_j t.fd_j P_arrow_table (nh mg 1 b5):=
 cV t.h_j.fu sc_arrow_table fun cdv A outer s H E hr=>
  have hu:=hr.units
  (ah (aD sc_arrow_table.nd rfl (.inl rfl) gz)
    (ah (B9 PassesOwn.never rfl (aC hu (pv 0)) (x9 rfl (dh (j6 sc_arrow_table.nd rfl (.inl rfl)) (dh (j6 sc_arrow_table.nd rfl (.inl rfl)) (dh (j6 sc_arrow_table.nd rfl (.inl rfl)) vw)))) (vv (qR (lt1 hu) (qN PySem.F.plainAttrs_dict PySem.F.slot_dict_setdefault PySem.F.type_dict_setdefault vH (qN PySem.F.plainAttrs_dict PySem.F.slot_dict_setdefault PySem.F.type_dict_setdefault vH (pv 1) (be (pv 2) (be kH di))) (be (pv 3) (be kH di))) (pv 4) CL rfl)))
    (am (aA (qv 1)))))
theorem xJ (t:Tx K mg):FnOk P w K mg base jF 1 t.f_k t.fd_k P_marked (nh mg 1 iY):=
 cV t.h_k.fu xG fun cdv A outer s H E hr=>
  have hu:=hr.units
  (am (aA (cf (zC (by rfl) hu) (by rfl) t.nb_dict (by decide +kernel) (aa (gr (ip rfl (CScope.of (osc:=defScope s_marked) (N:=iW) (tN:=["thing"]) (capN:=[]) (caps:=[]) rfl rfl (by decide +kernel)) (bL (qv 0)) (by decide) (fun cl C s3 H3 fp=>(au iX rfl (.inl rfl))) (fun cl C s3 H3 fp=>cL) (fun cl C s3 H3 fp=>(aS (aa (qv 0) (aa dR aj))))) (gq rfl (CScope.of (osc:=defScope s_marked) (N:=iW) (tN:=["thing"]) (capN:=[]) (caps:=[]) rfl rfl (by decide +kernel)) (qv 0) (by decide) (fun cl C s3 H3 fp=>(au iX rfl (.inl rfl))) (fun cl C s3 H3 fp=>cL) (fun cl C s3 H3 fp=>(aS (aa (qv 0) (aa dR aj)))))) aj))))
theorem fg (t:Tx K mg):FnOk P w K mg base jF 1 t.f_l t.fd_l P_led_to (nh mg 3 aV):=
 cV t.h_l.fu xH fun cdv A outer s H E hr=>
  have hu:=hr.units
  (am (aA (oP hu (oP hu (qv 0) (qv 1) gz ⟨rfl,rfl,rfl,rfl⟩) (qv 2) gz ⟨rfl,rfl,rfl,rfl⟩)))
theorem AL (t:Tx K mg):FnOk P w K mg base jF 2 t.f_m t.fd_m P_unled (nh mg 4 gH):=
 cV t.h_m.fu sc_unled fun cdv A outer s H E hr=>
  have hu:=hr.units
  (ah (aD sc_unled.nd rfl (.inl rfl) (cf (dC (by rfl)) (by rfl) t.nb_list (by decide +kernel) (aa (qv 3) aj)))
    (ah (b6 PassesOwn.never rfl (B1 (by rfl) t.nb_reversed (aa (cf (dC (by rfl)) (by rfl) t.nb_list (by decide +kernel) (aa (aE (fg t) (hr.mono (by decide)) (by rfl) t.h_l.gl t.h_l.fu.kp t.h_l.bi ba (aa (qv 0) (aa (qv 1) (aa (aC hu (pv 2)) aj))) (af (af (af av)))) aj)) aj)) (au sc_unled.nd rfl (.inl rfl)) (ah (bZ sc_unled.nd rfl (.inr rfl) (aE (fg t) (hr.mono (by decide)) (by rfl) t.h_l.gl t.h_l.fu.kp t.h_l.bi ba (aa (qv 0) (aa (qv 5) (aa (aC hu (pv 2)) aj))) (af (af (af av)))))
    (ah (gh rfl (CScope.of (osc:=defScope s_unled) (N:=qo) (tN:=["state"]) (capN:=["there"]) (caps:=[6]) rfl rfl (by decide +kernel)) sc_unled.nd rfl rfl (bL (qv 4)) (by decide) (fun cl C s3 H3 fp=>(au sn rfl (.inl rfl))) (fun cl C s3 H3 fp=>(dw (aM (cg hu) (qv 0) (qv 1) (by rfl)))) (fun cl C s3 H3 fp=>(qv 0)))
    (am (bg (cG (dt (qv 4))) (am xk) aI)))))
    (am (aA (qv 4)))))
theorem cI (t:Tx K mg):FnOk P w K mg base jF 2 t.f_n t.fd_n P_goes_on_as (nh mg 4 aW):=
 cV t.h_n.fu sc_goes_on_as fun cdv A outer s H E hr=>
  have hu:=hr.units
  (ah (bg (PWD.pt (j9 (aM (hI hu) (qv 3) (qv 1) (by rfl)) (im (aM (cg hu) (qv 2) (qv 1) (by rfl))))) (am (aA dR)) aI)
    (ah (zG PassesOwn.never rfl (oP hu (qv 0) (qv 3) gz ⟨rfl,rfl,rfl,rfl⟩) (vT rfl (gy (au sc_goes_on_as.nd rfl (.inl rfl)) (gy (au sc_goes_on_as.nd rfl (.inl rfl)) rB (fun _ a _ b=>dh a b)) (fun _ a _ b=>dh a b))) (ah (bZ sc_goes_on_as.nd rfl (.inr rfl) (aE (fg t) (hr.mono (by decide)) (by rfl) t.h_l.gl t.h_l.fu.kp t.h_l.bi ba (aa (qv 0) (aa (qv 2) (aa (qv 4) aj))) (af (af (af av)))))
    (am (bg (cG (dt (bn (za (by rfl)) (by rfl) t.nb_all (by decide +kernel) (aa (gr (ip rfl (CScope.of (osc:=defScope s_goes_on_as) (N:=c6) (tN:=["to"]) (capN:=["known"]) (caps:=[6]) rfl rfl (by decide +kernel)) (bL (qv 5)) (by decide) (fun cl C s3 H3 fp=>(au ff rfl (.inl rfl))) (fun cl C s3 H3 fp=>cL) (fun cl C s3 H3 fp=>(jd (hI hu) (qv 0) (qv 1) (by rfl)))) (gq rfl (CScope.of (osc:=defScope s_goes_on_as) (N:=c6) (tN:=["to"]) (capN:=["known"]) (caps:=[6]) rfl rfl (by decide +kernel)) (qv 5) (by decide) (fun cl C s3 H3 fp=>(au ff rfl (.inl rfl))) (fun cl C s3 H3 fp=>cL) (fun cl C s3 H3 fp=>(jd (hI hu) (qv 0) (qv 1) (by rfl))))) aj)))) (am (aA dR)) aI))))
    (am (aA dR))))
theorem vh (t:Tx K mg):FnOk P w K mg base jF 3 t.f_o t.fd_o P_leaking (Ht 3 gI):=
 Gj t.h_o.fu sc_leaking rfl (by decide) fun cdv A outer s H E hr=>
  have hu:=hr.units
  (ah (aD sc_leaking.nd rfl (.inr rfl) (aC hu (pv 2)))
    (ah (aD sc_leaking.nd rfl (.inl rfl) (aC hu (pv 2)))
    (ah (bZ sc_leaking.nd rfl (.inl rfl) (aE (fg t) (hr.mono (by decide)) (by rfl) t.h_l.gl t.h_l.fu.kp t.h_l.bi ba (aa (qv 0) (aa (aC hu (pv 2)) (aa (aC hu (pv 2)) aj))) (af (af (af av)))))
    (ah (bg (aM (gL hu) (bn ga (by rfl) t.nb_len (by decide +kernel) (aa (qv 5) aj)) ap (b9 _)) (ah (bZ sc_leaking.nd rfl (.inr rfl) (aE (fg t) (hr.mono (by decide)) (by rfl) t.h_l.gl t.h_l.fu.kp t.h_l.bi ba (aa (qv 0) (aa (qv 4) (aa (aC hu (pv 5)) aj))) (af (af (af av)))))
    (am (lc (gr (ip rfl (CScope.of (osc:=defScope s_leaking) (N:=ck) (tN:=["state"]) (capN:=["there"]) (caps:=[7]) rfl rfl (by decide +kernel)) (bL (qv 6)) (by decide) (fun cl C s3 H3 fp=>(au gU rfl (.inl rfl))) (fun cl C s3 H3 fp=>(dw (aM (cg hu) (qv 0) (qv 1) (by rfl)))) (fun cl C s3 H3 fp=>(qv 0))) (gq rfl (CScope.of (osc:=defScope s_leaking) (N:=ck) (tN:=["state"]) (capN:=["there"]) (caps:=[7]) rfl rfl (by decide +kernel)) (qv 6) (by decide) (fun cl C s3 H3 fp=>(au gU rfl (.inl rfl))) (fun cl C s3 H3 fp=>(dw (aM (cg hu) (qv 0) (qv 1) (by rfl)))) (fun cl C s3 H3 fp=>(qv 0))))))) aI)
    (ah (bg (aM (gL hu) (bn ga (by rfl) t.nb_len (by decide +kernel) (aa (qv 5) aj)) ap (b9 _)) (am (lc (aE (AL t) (hr.mono (by decide)) (by rfl) t.h_m.gl t.h_m.fu.kp t.h_m.bi ba (aa (qv 0) (aa (qv 4) (aa (qv 5) (aa (qv 6) aj)))) (af (af (af (af av))))))) aI)
    (ah (zE (b6 PassesOwn.never rfl (bL (qv 6)) (au sc_leaking.nd rfl (.inl rfl)) (am (bg (aM (cg hu) (aS (aa (qv 4) (aa (qv 8) aj))) (qv 3) (by rfl)) (am (ln (lg (pv 3) (aS (aa (qv 4) (aa (qv 8) aj))) (aE (cI t) (hr.mono (by decide)) (by rfl) t.h_n.gl t.h_n.fu.kp t.h_n.bi ba (aa (qv 0) (aa (qv 1) (aa (qv 4) (aa (qv 8) aj)))) (af (af (af (af av)))))) (oO hu (pv 3) (aS (aa (qv 4) (aa (qv 8) aj))) (aE (cI t) (hr.mono (by decide)) (by rfl) t.h_n.gl t.h_n.fu.kp t.h_n.bi ba (aa (qv 0) (aa (qv 1) (aa (qv 4) (aa (qv 8) aj)))) (af (af (af (af av)))))))) aI))) (zx PassesOwn.never rfl (qv 6) (au sc_leaking.nd rfl (.inl rfl)) (am (bg (aM (cg hu) (aS (aa (qv 4) (aa (qv 8) aj))) (qv 3) (by rfl)) (am (ln (lg (pv 3) (aS (aa (qv 4) (aa (qv 8) aj))) (aE (cI t) (hr.mono (by decide)) (by rfl) t.h_n.gl t.h_n.fu.kp t.h_n.bi ba (aa (qv 0) (aa (qv 1) (aa (qv 4) (aa (qv 8) aj)))) (af (af (af (af av)))))) (oO hu (pv 3) (aS (aa (qv 4) (aa (qv 8) aj))) (aE (cI t) (hr.mono (by decide)) (by rfl) t.h_n.gl t.h_n.fu.kp t.h_n.bi ba (aa (qv 0) (aa (qv 1) (aa (qv 4) (aa (qv 8) aj)))) (af (af (af (af av)))))))) aI))))
    (am (lc (gr (ip rfl (CScope.of (osc:=defScope s_leaking) (N:=ck) (tN:=["state"]) (capN:=["known", "room"]) (caps:=[3,4]) rfl rfl (by decide +kernel)) (bL (qv 6)) (by decide) (fun cl C s3 H3 fp=>(au gW rfl (.inl rfl))) (fun cl C s3 H3 fp=>(dw (cG (dt (jl (jf (pv 1) (aS (aa (qv 2) (aa (qv 0) aj))) (fun _ _=>rfl)) (gA hu (hG (pv 1)) (aS (aa (qv 2) (aa (qv 0) aj))) (fun _ _=>rfl))))))) (fun cl C s3 H3 fp=>(qv 0))) (gq rfl (CScope.of (osc:=defScope s_leaking) (N:=ck) (tN:=["state"]) (capN:=["known", "room"]) (caps:=[3,4]) rfl rfl (by decide +kernel)) (qv 6) (by decide) (fun cl C s3 H3 fp=>(au gW rfl (.inl rfl))) (fun cl C s3 H3 fp=>(dw (cG (dt (jl (jf (pv 1) (aS (aa (qv 2) (aa (qv 0) aj))) (fun _ _=>rfl)) (gA hu (hG (pv 1)) (aS (aa (qv 2) (aa (qv 0) aj))) (fun _ _=>rfl))))))) (fun cl C s3 H3 fp=>(qv 0))))))))))))
theorem ww (t:Tx K mg):FnOk P w K mg base jF 4 t.f_p t.fd_p P_leak (nh mg 2 h_):=
 cV t.h_p.fu sc_leak fun cdv A outer s H E hr=>
  have hu:=hr.units
  (ah (bZ sc_leak.nd rfl (.inl rfl) (aE (mv t) (hr.mono (by decide)) (by rfl) t.h_j.gl t.h_j.fu.kp t.h_j.bi ba (aa (qv 1) aj) (af av)))
    (ah (bZ sc_leak.nd rfl (.inl rfl) (aE (xJ t) (hr.mono (by decide)) (by rfl) t.h_k.gl t.h_k.fu.kp t.h_k.bi ba (aa (aC hu (pv 1)) aj) (af av)))
    (ah (aD sc_leak.nd rfl (.inl rfl) gz)
    (ah (b6 PassesOwn.never rfl (zd (by rfl) t.nb_enumerate (aa (aC hu (pv 0)) aj)) (vT rfl (gy (au sc_leak.nd rfl (.inl rfl)) (gy (au sc_leak.nd rfl (.inl rfl)) rB (fun _ a _ b=>dh a b)) (fun _ a _ b=>dh a b))) (ah (xB sc_leak.nd rfl (.inl rfl) (vh t) (hr.mono (by decide)) (by rfl) t.h_o.gl t.h_o.fu.kp t.h_o.bi ba (jq (qv 2) (jq (qv 3) (jq (qv 6) (zI (pv 4))))) (af (af (af av))))
    (am (bg (dt (qv 7)) (am (aA (aS (aa (qv 5) (aa (aS (aa (aC hu (pv 6)) (aa (aC hu (pv 6)) (aa (bn (v_ (by rfl)) (by rfl) t.nb_min (by decide +kernel) (aa (qv 7) aj)) aj)))) aj))))) aI))))
    (am (aA yP))))))
theorem Ff (t:Tx K mg):FnOk P w K mg base jF 5 t.f_q t.fd_q P_law (nh mg 1 sv):=
 cV t.h_q.fu sc_law fun cdv A outer s H E hr=>
  have hu:=hr.units
  (ah (bZ sc_law.nd rfl (.inl rfl) (aE (fR t) (hr.mono (by decide)) (by rfl) t.h_a.gl t.h_a.fu.kp t.h_a.bi ba (aa (qv 0) (aa ap aj)) (af (af av))))
    (ah (aD sc_law.nd rfl (.inr rfl) (aw dr ap (aw aZ (qv 1) ap)))
    (ah (aD sc_law.nd rfl (.inr rfl) (aw dr ap (aw aZ (aw cb (qv 1) ap) ap)))
    (ah (aD sc_law.nd rfl (.inl rfl) (aw dr ap (aw aZ (aw cb (qv 1) ap) (aw dr ap (bn (v_ (by rfl)) (by rfl) t.nb_min (by decide +kernel) (aa ap (aa (bn (Eu (by rfl)) (by rfl) t.nb_max (by decide +kernel) (aa ap (aa (aw cb (aw Eh (bn ga (by rfl) t.nb_len (by decide +kernel) (aa (qv 0) aj)) ap) ap) aj))) aj)))))))
    (ah (gh rfl (CScope.of (osc:=defScope s_law) (N:=AK) (tN:=["_law_cell"]) (capN:=["_law_rooms", "_law_signs"]) (caps:=[2,3]) rfl rfl (by decide +kernel)) sc_law.nd rfl rfl (bL (eQ (qv 0) (cM ap) (cM (qv 4)))) (by decide) (fun cl C s3 H3 fp=>(au xI rfl (.inl rfl))) (fun cl C s3 H3 fp=>cL) (fun cl C s3 H3 fp=>(aE (qw t) (hr.mono (by decide)) (by rfl) t.h_b.gl t.h_b.fu.kp t.h_b.bi ba (aa (qv 0) (aa (qv 1) (aa (qv 2) aj))) (af (af (af av))))))
    (ah (bZ sc_law.nd rfl (.inl rfl) (aE (j5 t) (hr.mono (by decide)) (by rfl) t.h_e.gl t.h_e.fu.kp t.h_e.bi ba (aa (eQ (qv 0) (cM (qv 4)) (cM (aw dr (qv 4) ap))) (aa (aE (fR t) (hr.mono (by decide)) (by rfl) t.h_a.gl t.h_a.fu.kp t.h_a.bi ba (aa (qv 0) (aa ap aj)) (af (af av))) (aa (qv 2) (aa (qv 3) aj)))) (af (af (af (af av))))))
    (ah (aD sc_law.nd rfl (.inl rfl) (aS (aa (qv 2) (aa (qv 3) (aa (cf (dC (by rfl)) (by rfl) t.nb_list (by decide +kernel) (aa (qv 5) aj)) aj)))))
    (ah (aD sc_law.nd rfl (.inl rfl) (C4 (aC hu (pv 6)) (cf (dC (by rfl)) (by rfl) t.nb_list (by decide +kernel) (aa (aC hu (pv 6)) aj)) (cf (dC (by rfl)) (by rfl) t.nb_list (by decide +kernel) (aa (aC hu (pv 6)) aj))))
    (ah (bZ sc_law.nd rfl (.inl rfl) (aE (jS t) (hr.mono (by decide)) (by rfl) t.h_g.gl t.h_g.fu.kp t.h_g.bi ba (aa (qv 5) (aa (qv 6) aj)) (af (af av))))
    (ah (bg (PWD.pt (je (cG (dt (aE (i6 t) (hr.mono (by decide)) (by rfl) t.h_i.gl t.h_i.fu.kp t.h_i.bi ba (aa (aE (ww t) (hr.mono (by decide)) (by rfl) t.h_p.gl t.h_p.fu.kp t.h_p.bi ba (aa (qv 7) (aa (qv 8) aj)) (af (af av))) (aa (qv 9) aj)) (af (af av))))) (je (aM (vR hu) (qv 8) (qv 6) (b9 _)) (j8 (aM (vR hu) (qv 7) (aS (aa (qv 2) (aa (qv 3) (aa (qv 5) aj)))) (b9 _)))))) (am (aA dR)) aI)
    (ah (bg (oK (qv 9)) (am (aA dR)) aI)
    (ah (zM hu (pv 8) (fun _ _=>rfl) (aC hu (pv 9)))
    (ah (aD sc_law.nd rfl (.inl rfl) (C4 (aC hu (pv 6)) (cf (dC (by rfl)) (by rfl) t.nb_list (by decide +kernel) (aa (aC hu (pv 8)) aj)) (cf (dC (by rfl)) (by rfl) t.nb_list (by decide +kernel) (aa (aC hu (pv 6)) aj))))
    (am (aA (aE (i6 t) (hr.mono (by decide)) (by rfl) t.h_i.gl t.h_i.fu.kp t.h_i.bi ba (aa (aE (ww t) (hr.mono (by decide)) (by rfl) t.h_p.gl t.h_p.fu.kp t.h_p.bi ba (aa (qv 7) (aa (qv 8) aj)) (af (af av))) (aa (aE (jS t) (hr.mono (by decide)) (by rfl) t.h_g.gl t.h_g.fu.kp t.h_g.bi ba (aa (qv 5) (aa (qv 10) aj)) (af (af av))) aj)) (af (af av))))))))))))))))))
end
theorem Gz {K:PySem.W.Frag}{mg:Str->Option Value}{h:Heap}(X:K.In h)(G:h.Ns mainGlobals mg)
 {f_a:Addr} {od_a an_a:Option Addr} {sl_a:Array (Option Value)} {oc_a kV_a dc_a pm_a cd_a ct_a:Value}
 (a_a:PySem.W.nsIn K mainGlobals "_law_cell_at"=some (some (.ref f_a))) (l_a:K.lookup f_a=some ⟨oc_a,od_a,.func (PySem.W.fnOf "_law_cell_at" "_law_cell_at" (defArgs s__law_cell_at) (defBody s__law_cell_at) (defScope s__law_cell_at) .none kV_a dc_a pm_a an_a cd_a ct_a),sl_a⟩) (c_a:PySem.W.codeIn K cd_a "_law_cell_at"=true) (k_a:PySem.W.keepIn K (.ref f_a)=true)
 {f_b:Addr} {od_b an_b:Option Addr} {sl_b:Array (Option Value)} {oc_b kV_b dc_b pm_b cd_b ct_b:Value}
 (a_b:PySem.W.nsIn K mainGlobals "_law_rule"=some (some (.ref f_b))) (l_b:K.lookup f_b=some ⟨oc_b,od_b,.func (PySem.W.fnOf "_law_rule" "_law_rule" (defArgs s__law_rule) (defBody s__law_rule) (defScope s__law_rule) .none kV_b dc_b pm_b an_b cd_b ct_b),sl_b⟩) (c_b:PySem.W.codeIn K cd_b "_law_rule"=true) (k_b:PySem.W.keepIn K (.ref f_b)=true)
 {f_c:Addr} {od_c an_c:Option Addr} {sl_c:Array (Option Value)} {oc_c kV_c dc_c pm_c cd_c ct_c:Value}
 (a_c:PySem.W.nsIn K mainGlobals "_law_arrow"=some (some (.ref f_c))) (l_c:K.lookup f_c=some ⟨oc_c,od_c,.func (PySem.W.fnOf "_law_arrow" "_law_arrow" (defArgs s__law_arrow) (defBody s__law_arrow) (defScope s__law_arrow) .none kV_c dc_c pm_c an_c cd_c ct_c),sl_c⟩) (c_c:PySem.W.codeIn K cd_c "_law_arrow"=true) (k_c:PySem.W.keepIn K (.ref f_c)=true)
 {f_d:Addr} {od_d an_d:Option Addr} {sl_d:Array (Option Value)} {oc_d kV_d dc_d pm_d cd_d ct_d:Value}
 (a_d:PySem.W.nsIn K mainGlobals "_law_nearly"=some (some (.ref f_d))) (l_d:K.lookup f_d=some ⟨oc_d,od_d,.func (PySem.W.fnOf "_law_nearly" "_law_nearly" (defArgs s__law_nearly) (defBody s__law_nearly) (defScope s__law_nearly) .none kV_d dc_d pm_d an_d cd_d ct_d),sl_d⟩) (c_d:PySem.W.codeIn K cd_d "_law_nearly"=true) (k_d:PySem.W.keepIn K (.ref f_d)=true)
 {f_e:Addr} {od_e an_e:Option Addr} {sl_e:Array (Option Value)} {oc_e kV_e dc_e pm_e cd_e ct_e:Value}
 (a_e:PySem.W.nsIn K mainGlobals "_law_machine"=some (some (.ref f_e))) (l_e:K.lookup f_e=some ⟨oc_e,od_e,.func (PySem.W.fnOf "_law_machine" "_law_machine" (defArgs s__law_machine) (defBody s__law_machine) (defScope s__law_machine) .none kV_e dc_e pm_e an_e cd_e ct_e),sl_e⟩) (c_e:PySem.W.codeIn K cd_e "_law_machine"=true) (k_e:PySem.W.keepIn K (.ref f_e)=true)
 {f_f:Addr} {od_f an_f:Option Addr} {sl_f:Array (Option Value)} {oc_f kV_f dc_f pm_f cd_f ct_f:Value}
 (a_f:PySem.W.nsIn K mainGlobals "_law_kept"=some (some (.ref f_f))) (l_f:K.lookup f_f=some ⟨oc_f,od_f,.func (PySem.W.fnOf "_law_kept" "_law_kept" (defArgs s__law_kept) (defBody s__law_kept) (defScope s__law_kept) .none kV_f dc_f pm_f an_f cd_f ct_f),sl_f⟩) (c_f:PySem.W.codeIn K cd_f "_law_kept"=true) (k_f:PySem.W.keepIn K (.ref f_f)=true)
 {f_g:Addr} {od_g an_g:Option Addr} {sl_g:Array (Option Value)} {oc_g kV_g dc_g pm_g cd_g ct_g:Value}
 (a_g:PySem.W.nsIn K mainGlobals "_law_due"=some (some (.ref f_g))) (l_g:K.lookup f_g=some ⟨oc_g,od_g,.func (PySem.W.fnOf "_law_due" "_law_due" (defArgs s__law_due) (defBody s__law_due) (defScope s__law_due) .none kV_g dc_g pm_g an_g cd_g ct_g),sl_g⟩) (c_g:PySem.W.codeIn K cd_g "_law_due"=true) (k_g:PySem.W.keepIn K (.ref f_g)=true)
 {f_h:Addr} {od_h an_h:Option Addr} {sl_h:Array (Option Value)} {oc_h kV_h dc_h pm_h cd_h ct_h:Value}
 (a_h:PySem.W.nsIn K mainGlobals "_law_whole"=some (some (.ref f_h))) (l_h:K.lookup f_h=some ⟨oc_h,od_h,.func (PySem.W.fnOf "_law_whole" "_law_whole" (defArgs s__law_whole) (defBody s__law_whole) (defScope s__law_whole) .none kV_h dc_h pm_h an_h cd_h ct_h),sl_h⟩) (c_h:PySem.W.codeIn K cd_h "_law_whole"=true) (k_h:PySem.W.keepIn K (.ref f_h)=true)
 {f_i:Addr} {od_i an_i:Option Addr} {sl_i:Array (Option Value)} {oc_i kV_i dc_i pm_i cd_i ct_i:Value}
 (a_i:PySem.W.nsIn K mainGlobals "_law_told"=some (some (.ref f_i))) (l_i:K.lookup f_i=some ⟨oc_i,od_i,.func (PySem.W.fnOf "_law_told" "_law_told" (defArgs s__law_told) (defBody s__law_told) (defScope s__law_told) .none kV_i dc_i pm_i an_i cd_i ct_i),sl_i⟩) (c_i:PySem.W.codeIn K cd_i "_law_told"=true) (k_i:PySem.W.keepIn K (.ref f_i)=true)
 {f_j:Addr} {od_j an_j:Option Addr} {sl_j:Array (Option Value)} {oc_j kV_j dc_j pm_j cd_j ct_j:Value}
 (a_j:PySem.W.nsIn K mainGlobals "arrow_table"=some (some (.ref f_j))) (l_j:K.lookup f_j=some ⟨oc_j,od_j,.func (PySem.W.fnOf "arrow_table" "arrow_table" (defArgs s_arrow_table) (defBody s_arrow_table) (defScope s_arrow_table) .none kV_j dc_j pm_j an_j cd_j ct_j),sl_j⟩) (c_j:PySem.W.codeIn K cd_j "arrow_table"=true) (k_j:PySem.W.keepIn K (.ref f_j)=true)
 {f_k:Addr} {od_k an_k:Option Addr} {sl_k:Array (Option Value)} {oc_k kV_k dc_k pm_k cd_k ct_k:Value}
 (a_k:PySem.W.nsIn K mainGlobals "marked"=some (some (.ref f_k))) (l_k:K.lookup f_k=some ⟨oc_k,od_k,.func (PySem.W.fnOf "marked" "marked" (defArgs s_marked) (defBody s_marked) (defScope s_marked) .none kV_k dc_k pm_k an_k cd_k ct_k),sl_k⟩) (c_k:PySem.W.codeIn K cd_k "marked"=true) (k_k:PySem.W.keepIn K (.ref f_k)=true)
 {f_l:Addr} {od_l an_l:Option Addr} {sl_l:Array (Option Value)} {oc_l kV_l dc_l pm_l cd_l ct_l:Value}
 (a_l:PySem.W.nsIn K mainGlobals "led_to"=some (some (.ref f_l))) (l_l:K.lookup f_l=some ⟨oc_l,od_l,.func (PySem.W.fnOf "led_to" "led_to" (defArgs s_led_to) (defBody s_led_to) (defScope s_led_to) .none kV_l dc_l pm_l an_l cd_l ct_l),sl_l⟩) (c_l:PySem.W.codeIn K cd_l "led_to"=true) (k_l:PySem.W.keepIn K (.ref f_l)=true)
 {f_m:Addr} {od_m an_m:Option Addr} {sl_m:Array (Option Value)} {oc_m kV_m dc_m pm_m cd_m ct_m:Value}
 (a_m:PySem.W.nsIn K mainGlobals "unled"=some (some (.ref f_m))) (l_m:K.lookup f_m=some ⟨oc_m,od_m,.func (PySem.W.fnOf "unled" "unled" (defArgs s_unled) (defBody s_unled) (defScope s_unled) .none kV_m dc_m pm_m an_m cd_m ct_m),sl_m⟩) (c_m:PySem.W.codeIn K cd_m "unled"=true) (k_m:PySem.W.keepIn K (.ref f_m)=true)
 {f_n:Addr} {od_n an_n:Option Addr} {sl_n:Array (Option Value)} {oc_n kV_n dc_n pm_n cd_n ct_n:Value}
 (a_n:PySem.W.nsIn K mainGlobals "goes_on_as"=some (some (.ref f_n))) (l_n:K.lookup f_n=some ⟨oc_n,od_n,.func (PySem.W.fnOf "goes_on_as" "goes_on_as" (defArgs s_goes_on_as) (defBody s_goes_on_as) (defScope s_goes_on_as) .none kV_n dc_n pm_n an_n cd_n ct_n),sl_n⟩) (c_n:PySem.W.codeIn K cd_n "goes_on_as"=true) (k_n:PySem.W.keepIn K (.ref f_n)=true)
 {f_o:Addr} {od_o an_o:Option Addr} {sl_o:Array (Option Value)} {oc_o kV_o dc_o pm_o cd_o ct_o:Value}
 (a_o:PySem.W.nsIn K mainGlobals "leaking"=some (some (.ref f_o))) (l_o:K.lookup f_o=some ⟨oc_o,od_o,.func (PySem.W.fnOf "leaking" "leaking" (defArgs s_leaking) (defBody s_leaking) (defScope s_leaking) .none kV_o dc_o pm_o an_o cd_o ct_o),sl_o⟩) (c_o:PySem.W.codeIn K cd_o "leaking"=true) (k_o:PySem.W.keepIn K (.ref f_o)=true)
 {f_p:Addr} {od_p an_p:Option Addr} {sl_p:Array (Option Value)} {oc_p kV_p dc_p pm_p cd_p ct_p:Value}
 (a_p:PySem.W.nsIn K mainGlobals "leak"=some (some (.ref f_p))) (l_p:K.lookup f_p=some ⟨oc_p,od_p,.func (PySem.W.fnOf "leak" "leak" (defArgs s_leak) (defBody s_leak) (defScope s_leak) .none kV_p dc_p pm_p an_p cd_p ct_p),sl_p⟩) (c_p:PySem.W.codeIn K cd_p "leak"=true) (k_p:PySem.W.keepIn K (.ref f_p)=true)
 {f_q:Addr} {od_q an_q:Option Addr} {sl_q:Array (Option Value)} {oc_q kV_q dc_q pm_q cd_q ct_q:Value}
 (a_q:PySem.W.nsIn K mainGlobals "law"=some (some (.ref f_q))) (l_q:K.lookup f_q=some ⟨oc_q,od_q,.func (PySem.W.fnOf "law" "law" (defArgs s_law) (defBody s_law) (defScope s_law) .none kV_q dc_q pm_q an_q cd_q ct_q),sl_q⟩) (c_q:PySem.W.codeIn K cd_q "law"=true) (k_q:PySem.W.keepIn K (.ref f_q)=true)
 (z_all:PySem.W.nsIn K mainGlobals "all"=some none)
 (z_bool:PySem.W.nsIn K mainGlobals "bool"=some none)
 (z_dict:PySem.W.nsIn K mainGlobals "dict"=some none)
 (z_enumerate:PySem.W.nsIn K mainGlobals "enumerate"=some none)
 (z_int:PySem.W.nsIn K mainGlobals "int"=some none)
 (z_isinstance:PySem.W.nsIn K mainGlobals "isinstance"=some none)
 (z_len:PySem.W.nsIn K mainGlobals "len"=some none)
 (z_list:PySem.W.nsIn K mainGlobals "list"=some none)
 (z_max:PySem.W.nsIn K mainGlobals "max"=some none)
 (z_min:PySem.W.nsIn K mainGlobals "min"=some none)
 (z_range:PySem.W.nsIn K mainGlobals "range"=some none)
 (z_reversed:PySem.W.nsIn K mainGlobals "reversed"=some none)
 (z_set:PySem.W.nsIn K mainGlobals "set"=some none)
 (z_sorted:PySem.W.nsIn K mainGlobals "sorted"=some none)
 (z_tuple:PySem.W.nsIn K mainGlobals "tuple"=some none)
 : ∃ t:Tx K mg,t.f_q=f_q:=
 ⟨⟨f_a,_,⟨aH (st:=s__law_cell_at) l_a c_a k_a,(aH (st:=s__law_cell_at) l_a c_a k_a).binds (ps:=P__law_cell_at) fun _ _ _ _ _ _ us hl=>match us,hl with|[_,_],_=>rfl,PySem.W.mg_of X G a_a⟩,
   f_b,_,⟨aH (st:=s__law_rule) l_b c_b k_b,(aH (st:=s__law_rule) l_b c_b k_b).binds (ps:=P__law_rule) fun _ _ _ _ _ _ us hl=>match us,hl with|[_,_,_],_=>rfl,PySem.W.mg_of X G a_b⟩,
   f_c,_,⟨aH (st:=s__law_arrow) l_c c_c k_c,(aH (st:=s__law_arrow) l_c c_c k_c).binds (ps:=P__law_arrow) fun _ _ _ _ _ _ us hl=>match us,hl with|[_,_,_],_=>rfl,PySem.W.mg_of X G a_c⟩,
   f_d,_,⟨aH (st:=s__law_nearly) l_d c_d k_d,(aH (st:=s__law_nearly) l_d c_d k_d).binds (ps:=P__law_nearly) fun _ _ _ _ _ _ us hl=>match us,hl with|[_,_,_,_],_=>rfl,PySem.W.mg_of X G a_d⟩,
   f_e,_,⟨aH (st:=s__law_machine) l_e c_e k_e,(aH (st:=s__law_machine) l_e c_e k_e).binds (ps:=P__law_machine) fun _ _ _ _ _ _ us hl=>match us,hl with|[_,_,_,_],_=>rfl,PySem.W.mg_of X G a_e⟩,
   f_f,_,⟨aH (st:=s__law_kept) l_f c_f k_f,(aH (st:=s__law_kept) l_f c_f k_f).binds (ps:=P__law_kept) fun _ _ _ _ _ _ us hl=>match us,hl with|[_,_,_,_],_=>rfl,PySem.W.mg_of X G a_f⟩,
   f_g,_,⟨aH (st:=s__law_due) l_g c_g k_g,(aH (st:=s__law_due) l_g c_g k_g).binds (ps:=P__law_due) fun _ _ _ _ _ _ us hl=>match us,hl with|[_,_],_=>rfl,PySem.W.mg_of X G a_g⟩,
   f_h,_,⟨aH (st:=s__law_whole) l_h c_h k_h,(aH (st:=s__law_whole) l_h c_h k_h).binds (ps:=P__law_whole) fun _ _ _ _ _ _ us hl=>match us,hl with|[_],_=>rfl,PySem.W.mg_of X G a_h⟩,
   f_i,_,⟨aH (st:=s__law_told) l_i c_i k_i,(aH (st:=s__law_told) l_i c_i k_i).binds (ps:=P__law_told) fun _ _ _ _ _ _ us hl=>match us,hl with|[_,_],_=>rfl,PySem.W.mg_of X G a_i⟩,
   f_j,_,⟨aH (st:=s_arrow_table) l_j c_j k_j,(aH (st:=s_arrow_table) l_j c_j k_j).binds (ps:=P_arrow_table) fun _ _ _ _ _ _ us hl=>match us,hl with|[_],_=>rfl,PySem.W.mg_of X G a_j⟩,
   f_k,_,⟨aH (st:=s_marked) l_k c_k k_k,(aH (st:=s_marked) l_k c_k k_k).binds (ps:=P_marked) fun _ _ _ _ _ _ us hl=>match us,hl with|[_],_=>rfl,PySem.W.mg_of X G a_k⟩,
   f_l,_,⟨aH (st:=s_led_to) l_l c_l k_l,(aH (st:=s_led_to) l_l c_l k_l).binds (ps:=P_led_to) fun _ _ _ _ _ _ us hl=>match us,hl with|[_,_,_],_=>rfl,PySem.W.mg_of X G a_l⟩,
   f_m,_,⟨aH (st:=s_unled) l_m c_m k_m,(aH (st:=s_unled) l_m c_m k_m).binds (ps:=P_unled) fun _ _ _ _ _ _ us hl=>match us,hl with|[_,_,_,_],_=>rfl,PySem.W.mg_of X G a_m⟩,
   f_n,_,⟨aH (st:=s_goes_on_as) l_n c_n k_n,(aH (st:=s_goes_on_as) l_n c_n k_n).binds (ps:=P_goes_on_as) fun _ _ _ _ _ _ us hl=>match us,hl with|[_,_,_,_],_=>rfl,PySem.W.mg_of X G a_n⟩,
   f_o,_,⟨aH (st:=s_leaking) l_o c_o k_o,(aH (st:=s_leaking) l_o c_o k_o).binds (ps:=P_leaking) fun _ _ _ _ _ _ us hl=>match us,hl with|[_,_,_,_],_=>rfl,PySem.W.mg_of X G a_o⟩,
   f_p,_,⟨aH (st:=s_leak) l_p c_p k_p,(aH (st:=s_leak) l_p c_p k_p).binds (ps:=P_leak) fun _ _ _ _ _ _ us hl=>match us,hl with|[_,_],_=>rfl,PySem.W.mg_of X G a_p⟩,
   f_q,_,⟨aH (st:=s_law) l_q c_q k_q,(aH (st:=s_law) l_q c_q k_q).binds (ps:=P_law) fun _ _ _ _ _ _ us hl=>match us,hl with|[_],_=>rfl,PySem.W.mg_of X G a_q⟩,
   PySem.W.mg_none_of X G z_all,
   PySem.W.mg_none_of X G z_bool,
   PySem.W.mg_none_of X G z_dict,
   PySem.W.mg_none_of X G z_enumerate,
   PySem.W.mg_none_of X G z_int,
   PySem.W.mg_none_of X G z_isinstance,
   PySem.W.mg_none_of X G z_len,
   PySem.W.mg_none_of X G z_list,
   PySem.W.mg_none_of X G z_max,
   PySem.W.mg_none_of X G z_min,
   PySem.W.mg_none_of X G z_range,
   PySem.W.mg_none_of X G z_reversed,
   PySem.W.mg_none_of X G z_set,
   PySem.W.mg_none_of X G z_sorted,
   PySem.W.mg_none_of X G z_tuple⟩,rfl⟩
theorem Fg {l:PySem.W.OpenLaw} {w:World} {K:PySem.W.Frag} {mg:Str->Option Value} {h:Heap} {fa:Addr} (X:K.In h) (G:h.Ns mainGlobals mg) (hfa:mg "law"=some (.ref fa)) (T:∃ t:Tx K mg,True) :
 ∃ fd:FuncData,(∀(s:Shared)(v:Value),BindsTo s fd ⟨[v],[]⟩ [("_law_script",v)])/\∀ base:Heap,K.In base->base.Ns mainGlobals mg->FnOk l.prog w K mg base jF 5 fa fd ["_law_script"] (GN sv):=by
 obtain⟨t,_⟩:=T
 have e:=hfa.symm.trans t.h_q.gl
 cases e
 obtain⟨oc,od,kV,doc,pm,an,cdv,ct,osl,efd,lk,hcd⟩:=t.h_q.fu.ex
 exact⟨t.fd_q,fun s v=>by rw[efd];exact .of_eq rfl,fun base _ _=>FnOk.top (Ff t)⟩
end W
open L3 L2

namespace W
open PySem L2 L3
theorem wx (ns:List Int)(k:Int)(h0:0<=k)(h1:-18446744073709551616<k)(h2:k<18446744073709551616):aJ [.lst (ns.map .int),.int k]=.ok (.val (.int (cell ns k)) true []):=by
 by_cases h:k<ns.length
 ·have hd:decide (k<(ns.length:Int))=true:=decide_eq_true h
  obtain⟨a,ea,_⟩:=Fe h0 h
  have ha:atI (ns.map D.int) k=some (.int a):=by rw[Cu,ea];rfl
  simp_arith[aJ,dE,List.length_map,hd,ha,h1,h2]
  unfold cell;rw[if_pos h,ea];rfl
 ·have hd:decide (k<(ns.length:Int))=false:=decide_eq_false h
  simp_arith[aJ,dE,List.length_map,hd]
  unfold cell;rw[if_neg h]
theorem GA (ns:List Int):aJ [.lst (ns.map .int),.int 0]=.ok (.val (.int (cell ns 0)) true []):=wx ns 0 (by decide) (by decide) (by decide)
theorem GB (ns:List Int):aJ [.lst (ns.map .int),.int 1]=.ok (.val (.int (cell ns 1)) true []):=wx ns 1 (by decide) (by decide) (by decide)
end W
namespace W
open PySem L2 L3
theorem Cv (c rooms signs:Int)(h1:0<rooms)(h2:rooms<1073741824)(h3:0<signs)(h4:signs<1073741824):dX [.int c,.int rooms,.int signs]=.ok (.val (jy c rooms signs).d true []):=by
 have hm:∀(a b:Int) lo hi,bU [D.int a,D.int b] lo hi=(bU [a,b] lo hi).map D.int:=fun a b lo hi=>mj D.int [a,b] lo hi
 simp_arith[dX,jQ,h1,h2,h3,h4,hm,aq]
 rfl
end W
namespace W
open PySem L2 L3
theorem dg {α:Type}(g:α->D){asg:D->Bool->En->Option En}{fr:Bool}{body:En->Res Fl}(P:En->Prop)(p:α->Bool)(res:α->R):∀(xs:List α)(env:En),P env->
 (∀ a∈xs,∀ env,P env->∃ dO,asg (g a) fr env=some dO/\((p a=true/\body dO=.ok (.rt (res a)))\/(p a=false/\∃ env2,body dO=.ok (.nx env2)/\P env2)))->
 (∀ a,xs.find? p=some a->bY asg fr body (xs.map g) env=.ok (.rt (res a)))/\(xs.find? p=none->∃ aB,bY asg fr body (xs.map g) env=.ok (.nx aB)/\P aB)
 | [],env,h,_=>⟨fun _ e=>(by cases e),fun _=>⟨env,rfl,h⟩⟩
 |a::r,env,h,st=>by
  obtain⟨dO,h1,h2⟩:=st a (by simp) env h
  rw[List.find?_cons,List.map_cons]
  rcases h2 with⟨hp,hb⟩|⟨hp,env2,hb,h3⟩
  ·rw[hp]
   refine⟨fun b e=>?_,fun e=>(by cases e)⟩
   cases e
   unfold bY;rw[h1];dsimp only;rw[hb];rfl
  ·rw[hp]
   obtain⟨i1,i2⟩:=dg g P p res r env2 h3 fun b hb=>st b (by simp[hb])
   refine⟨fun b e=>?_,fun e=>?_⟩
   ·rw[<- i1 b e];conv=>lhs;unfold bY
    rw[h1];dsimp only;rw[hb];rfl
   ·obtain⟨aB,e1,e2⟩:=i2 e
    refine⟨aB,?_,e2⟩
    rw[<- e1];conv=>lhs;unfold bY
    rw[h1];dsimp only;rw[hb];rfl
def tD (t:Tri):D:=.tup [.int t.1,.int t.2.1,.int t.2.2]
theorem c7 (t:Tri):(tD t).flat=true:=(rfl)
theorem mw (t:Tri):(tD t).dep<=1:=Nat.le_refl _
theorem GC (t u:Tri):cB (tD t) (tD u)=decide (t=u):=by
 obtain⟨a,b,c⟩:=t
 obtain⟨d,e,f⟩:=u
 show(a==d&&(b==e&&(c==f&&true)))=_
 rw[Bool.eq_iff_iff]
 simp only[Bool.and_true,Bool.and_eq_true,beq_iff_eq,decide_eq_true_eq,Prod.mk.injEq]
def xW (c n g:Int):Tri:=
 let c:=(c % 2147483587+7)*16807 % 2147483587
 (c % n,c / n % g,c / n / g % n)
theorem sw (c n g:Int)(h1:0<n)(h2:n<1073741824)(h3:0<g)(h4:g<1073741824):cv [.int c,.int n,.int g]=.ok (.val (tD (xW c n g)) true []):=by
 simp_arith[cv,iS,h1,h2,h3,h4]
 rfl
def Mc (n:Int)(ts:List Tri)(es:List Int):D:=.tup [.int n,.lst (ts.map tD),.lst (es.map .int)]
theorem kt (n:Int)(ts:List Tri)(es:List Int):(Mc n ts es).flat=false:=by unfold Mc;simp only[eY,bv,eV,iJ,Bool.true_and,Bool.false_and]
def Up (t u:Tri):Prop:=t.1=u.1->t.2.1=u.2.1->t.2.2<u.2.2
structure Good (n:Int) (ts:List Tri):Prop where
 up:ts.Pairwise Up
 bd:∀ t∈ts,0<=t.2.2/\t.2.2<n
 len:ts.length<=200
theorem Good.nodup {n:Int}{ts:List Tri}(h:Good n ts):ts.Nodup:=List.Pairwise.imp (fun{a b} z e=>by subst e;exact absurd (z rfl rfl) (by omega)) h.up
theorem Good.sub {n:Int}{ts us:List Tri}(h:Good n ts)(s:List.Sublist us ts):Good n us:=⟨h.up.sublist s,fun t ht=>h.bd t (s.subset ht),Nat.le_trans s.length_le h.len⟩
def GD:List Int->Tri
 | [a,b,c]=>(a,b,c)
 |_=>(0,0,0)
def sx (t:Tri):List Int:=[t.1,t.2.1,t.2.2]
theorem wy (k:List Int):∀ l,(mK k l).length<=l.length+1
 | []=>by simp[mK]
 |h::t=>by
  have:=wy k t
  unfold mK
  split
  ·simp
  ·split<;>simp<;>omega
theorem sA:∀ ks,(dA ks).length<=ks.length
 | []=>Nat.le_refl _
 |k::r=>by have h1:=wy k (dA r);have h2:=sA r;unfold dA;simp only[List.length_cons];omega
def dG (ts:List Tri):List Tri:=(dA (ts.map sx)).map GD
theorem AM (ts:List Tri):(dG ts).length<=ts.length:=by
 have:=sA (ts.map sx);unfold dG;rw[List.length_map];rw[List.length_map]at this;exact this
theorem Cw (ts:List Tri):(dA (ts.map sx)).map rN=(dG ts).map tD:=by
 unfold dG;rw[List.map_map]
 refine List.map_congr_left fun k hk=>?_
 obtain⟨t,_,rfl⟩:=List.mem_map.mp ((gm k _).mp hk)
 rfl
theorem Fh (ts:List Tri)(h:ts.length<=63)(f:Bool)(al:List Nat):EF (.val (.lst (ts.map tD)) f al)=.ok (.new ((dG ts).map tD) true):=by
 have e:(R.val (.lst (ts.map tD)) f al).d=.lst ((ts.map sx).map rN):=by
  rw[dW,List.map_map];rfl
 rw[E9 e (by rw[List.length_map];exact h) (by rw[List.all_map,List.all_eq_true];intro t _;rfl),Cw]
theorem AN (ts:List Tri)(t:Tri)(h:t∈dG ts):t∈ts:=by
 unfold dG at h
 obtain⟨k,hk,rfl⟩:=List.mem_map.mp h
 obtain⟨u,hu,rfl⟩:=List.mem_map.mp ((gm k _).mp hk)
 exact hu
theorem xK {n:Int}{ts:List Tri}(hb:∀ t∈ts,0<=t.2.2/\t.2.2<n)(hl:ts.length<=200):Good n (dG ts):=by
 refine⟨?_,fun t ht=>hb t (AN ts t ht),Nat.le_trans (AM ts) hl⟩
 unfold dG
 rw[List.pairwise_map]
 have hm:∀ k∈dA (ts.map sx),∃ t,k=sx t:=fun k hk=>by
  obtain⟨u,_,rfl⟩:=List.mem_map.mp ((gm k _).mp hk)
  exact⟨u,rfl⟩
 refine List.Pairwise.imp_of_mem (fun{a b} ha hb' z=>?_) (oR (ts.map sx))
 obtain⟨t,rfl⟩:=hm a ha
 obtain⟨u,rfl⟩:=hm b hb'
 intro e1 e2
 have e1:t.1=u.1:=e1
 have e2:t.2.1=u.2.1:=e2
 unfold sx lexB lexB lexB at z
 rw[if_pos e1,if_pos e2]at z
 show t.2.2<u.2.2
 by_cases e3:t.2.2=u.2.2
 ·rw[if_pos e3]at z;cases z
 ·rw[if_neg e3]at z;exact of_decide_eq_true z
def rI (n:Nat):List Int:=(List.range n).map fun k=>((k:Nat):Int)
theorem rI_mem {n:Nat}{x:Int}:x∈rI n↔0<=x/\x<n:=by
 unfold rI;rw[List.mem_map]
 constructor
 ·rintro⟨k,hk,rfl⟩;rw[List.mem_range]at hk;omega
 ·rintro⟨h1,h2⟩;exact⟨x.toNat,by rw[List.mem_range];omega,by omega⟩
theorem AO (n:Nat):(rI n).Pairwise (·< ·):=by
 unfold rI;rw[List.pairwise_map]
 exact List.Pairwise.imp (fun{a b} h=>by omega) List.pairwise_lt_range
theorem c8 (n:Nat):du 0 n=(rI n).map .int:=by rw[Ct];unfold rI;rw[List.map_map];rfl
def qy (a b:Int)(n:Nat):List Tri:=(rI n).map fun c=>(a,b,c)
def mM (a:Int)(g n:Nat):List Tri:=(rI g).flatMap fun b=>qy a b n
def jT (n g:Nat):List Tri:=(rI n).flatMap fun a=>mM a g n
theorem sB (a b:Int)(n:Nat):(qy a b n).length=n:=by unfold qy rI;simp
theorem mz {α β:Type}(f:α->List β)(n:Nat):∀ l:List α,(∀ a∈l,(f a).length=n)->(l.flatMap f).length=l.length*n
 | [],_=>by simp
 |a::r,h=>by rw[List.flatMap_cons,List.length_append,h a (by simp),mz f n r fun b hb=>h b (by simp[hb]),List.length_cons,Nat.add_mul];omega
theorem fI (n:Nat):(rI n).length=n:=by unfold rI;simp
theorem sC (a:Int)(g n:Nat):(mM a g n).length=g*n:=by unfold mM;rw[mz _ n _ fun b _=>sB a b n,fI]
theorem AQ (n g:Nat):(jT n g).length=n*(g*n):=by unfold jT;rw[mz _ (g*n) _ fun a _=>sC a g n,fI]
theorem mB {a:Int}{g n:Nat}{t:Tri}(h:t∈mM a g n):t.1=a/\0<=t.2.2/\t.2.2<n:=by
 unfold mM qy at h
 obtain⟨b,_,h2⟩:=List.mem_flatMap.mp h
 obtain⟨c,h3,rfl⟩:=List.mem_map.mp h2
 exact⟨rfl,rI_mem.mp h3⟩
theorem xL (n g:Nat)(h:n*(g*n)<=200):Good (n:Nat) (jT n g):=by
 refine⟨?_,fun t ht=>?_,by rw[AQ];exact h⟩
 ·unfold jT
  rw[List.pairwise_flatMap]
  refine⟨fun a _=>?_,List.Pairwise.imp (fun{a a'} ha t ht u hu e=>?_) (AO n)⟩
  ·unfold mM
   rw[List.pairwise_flatMap]
   refine⟨fun b _=>?_,List.Pairwise.imp (fun{b b'} hb t ht u hu _ e=>?_) (AO g)⟩
   ·unfold qy
    rw[List.pairwise_map]
    exact List.Pairwise.imp (fun{c c'} hc _ _=>hc) (AO n)
   ·unfold qy at ht hu
    obtain⟨c,_,rfl⟩:=List.mem_map.mp ht
    obtain⟨c',_,rfl⟩:=List.mem_map.mp hu
    dsimp only at e;omega
  ·have:=(mB ht).1;have:=(mB hu).1;omega
 ·unfold jT at ht
  obtain⟨a,_,h2⟩:=List.mem_flatMap.mp ht
  exact(mB h2).2
end W
namespace W
open PySem L2 L3
section
variable {c0 c1 c2 c3 e5 e6 e7 e8 e9 e10:Option Sl}
theorem Dd {a b:Int}{f5 f6:Bool}:∀(xs:List Int)(acc:List Tri)(e7:Option Sl),acc.length+xs.length<=1000->
 ∃ e7',bY (gN 7) true bB (xs.map .int) [c0,c1,c2,c3,some (.own (acc.map tD) true),some (.val (.int a) f5),some (.val (.int b) f6),e7,e8,e9,e10]=.ok (.nx [c0,c1,c2,c3,some (.own ((acc++xs.map fun c=>(a,b,c)).map tD) true),some (.val (.int a) f5),some (.val (.int b) f6),e7',e8,e9,e10])
 | [],acc,e7,_=>⟨e7,by simp;rfl⟩
 |x::xs,acc,e7,h=>by
  have bc:(acc.map tD).length<1000000:=by rw[List.length_map];simp at h;omega
  obtain⟨e7',ih⟩:=Dd (a:=a) (b:=b) (f5:=f5) (f6:=f6) xs (acc++[(a,b,x)]) (some (.val (.int x) true)) (by simp at h ⊢;omega)
  refine⟨e7',?_⟩
  have eb:bB [c0,c1,c2,c3,some (.own (acc.map tD) true),some (.val (.int a) f5),some (.val (.int b) f6),some (.val (.int x) true),e8,e9,e10]=.ok (.nx [c0,c1,c2,c3,some (.own ((acc++[(a,b,x)]).map tD) true),some (.val (.int a) f5),some (.val (.int b) f6),some (.val (.int x) true),e8,e9,e10]):=by
   simp_arith[bB,E5,bc]
   rw[List.map_append];rfl
  rw[List.map_cons,hJ (iI (by simp))]
  show(bB [c0,c1,c2,c3,some (.own (acc.map tD) true),some (.val (.int a) f5),some (.val (.int b) f6),some (.val (.int x) true),e8,e9,e10]).bind _=_
  rw[eb,fU,cH,ih]
  simp
theorem Df {a:Int}{n:Int}{f2 f5:Bool}(h1:0<=n)(h2:n<=100):∀(xs:List Int)(acc:List Tri)(e6 e7:Option Sl),acc.length+xs.length*n.toNat<=1000->
 ∃ e6' e7',bY (gN 6) true bC (xs.map .int) [c0,c1,some (.val (.int n) f2),c3,some (.own (acc.map tD) true),some (.val (.int a) f5),e6,e7,e8,e9,e10]=.ok (.nx [c0,c1,some (.val (.int n) f2),c3,some (.own ((acc++xs.flatMap fun b=>qy a b n.toNat).map tD) true),some (.val (.int a) f5),e6',e7',e8,e9,e10])
 | [],acc,e6,e7,_=>⟨e6,e7,by simp;rfl⟩
 |x::xs,acc,e6,e7,h=>by
  have hm:acc.length+(rI n.toNat).length<=1000:=by rw[fI];simp only[List.length_cons,Nat.add_mul]at h;omega
  obtain⟨e7',h7⟩:=Dd (c0:=c0) (c1:=c1) (c2:=some (.val (.int n) f2)) (c3:=c3) (e8:=e8) (e9:=e9) (e10:=e10) (a:=a) (b:=x) (f5:=f5) (f6:=true) (rI n.toNat) acc e7 hm
  obtain⟨e6'',e7'',ih⟩:=Df (a:=a) (f2:=f2) (f5:=f5) h1 h2 xs (acc++qy a x n.toNat) (some (.val (.int x) true)) e7' (by rw[List.length_append,sB];simp only[List.length_cons,Nat.add_mul]at h;omega)
  refine⟨e6'',e7'',?_⟩
  have m1:-4611686018427387904<=n:=by omega
  have m2:n<4611686018427387904:=by omega
  have eb:bC [c0,c1,some (.val (.int n) f2),c3,some (.own (acc.map tD) true),some (.val (.int a) f5),some (.val (.int x) true),e7,e8,e9,e10]=.ok (.nx [c0,c1,some (.val (.int n) f2),c3,some (.own ((acc++qy a x n.toNat).map tD) true),some (.val (.int a) f5),some (.val (.int x) true),e7',e8,e9,e10]):=by
   simp_arith[bC,iH,m1,m2,c8]
   exact h7
  rw[List.map_cons,hJ (iI (by simp))]
  show(bC [c0,c1,some (.val (.int n) f2),c3,some (.own (acc.map tD) true),some (.val (.int a) f5),some (.val (.int x) true),e7,e8,e9,e10]).bind _=_
  rw[eb,fU,cH,ih]
  simp
theorem Dg {n g:Int}{f2 f3:Bool}(h1:0<=n)(h2:n<=100)(h3:0<=g)(h4:g<=100):∀(xs:List Int)(acc:List Tri)(e5 e6 e7:Option Sl),acc.length+xs.length*(g.toNat*n.toNat)<=1000->
 ∃ e5' e6' e7',bY (gN 5) true bF (xs.map .int) [c0,c1,some (.val (.int n) f2),some (.val (.int g) f3),some (.own (acc.map tD) true),e5,e6,e7,e8,e9,e10]=.ok (.nx [c0,c1,some (.val (.int n) f2),some (.val (.int g) f3),some (.own ((acc++xs.flatMap fun a=>mM a g.toNat n.toNat).map tD) true),e5',e6',e7',e8,e9,e10])
 | [],acc,e5,e6,e7,_=>⟨e5,e6,e7,by simp;rfl⟩
 |x::xs,acc,e5,e6,e7,h=>by
  obtain⟨e6',e7',h7⟩:=Df (c0:=c0) (c1:=c1) (c3:=some (.val (.int g) f3)) (e8:=e8) (e9:=e9) (e10:=e10) (a:=x) (f2:=f2) (f5:=true) h1 h2 (rI g.toNat) acc e6 e7 (by rw[fI];simp only[List.length_cons,Nat.add_mul]at h;omega)
  obtain⟨e5'',e6'',e7'',ih⟩:=Dg (f2:=f2) (f3:=f3) h1 h2 h3 h4 xs (acc++mM x g.toNat n.toNat) (some (.val (.int x) true)) e6' e7' (by rw[List.length_append,sC];simp only[List.length_cons,Nat.add_mul]at h;omega)
  refine⟨e5'',e6'',e7'',?_⟩
  have m1:-4611686018427387904<=g:=by omega
  have m2:g<4611686018427387904:=by omega
  have eb:bF [c0,c1,some (.val (.int n) f2),some (.val (.int g) f3),some (.own (acc.map tD) true),some (.val (.int x) true),e6,e7,e8,e9,e10]=.ok (.nx [c0,c1,some (.val (.int n) f2),some (.val (.int g) f3),some (.own ((acc++mM x g.toNat n.toNat).map tD) true),some (.val (.int x) true),e6',e7',e8,e9,e10]):=by
   simp_arith[bF,iH,m1,m2,c8]
   exact h7
  rw[List.map_cons,hJ (iI (by simp))]
  show(bF [c0,c1,some (.val (.int n) f2),some (.val (.int g) f3),some (.own (acc.map tD) true),some (.val (.int x) true),e6,e7,e8,e9,e10]).bind _=_
  rw[eb,fU,cH,ih]
  simp
theorem xM {e5 e6 e7 e8:Option Sl}{gone:Tri}{g9:Bool}(ts:List Tri)(hl:ts.length<=1000000) :
 gQ 1 [9] (gN 0) b7 b8 [c0,c1,c2,c3,some (.own (ts.map tD) true),e5,e6,e7,e8,some (.val (tD gone) g9),e10] ⟨ts.map tD,true,[4]⟩=.ok (.new ((ts.filter fun t=>!decide (t=gone)).map tD) true):=by
 have h:=bV (mk:=fun d=>gN 0 d true (cD [c0,c1,c2,c3,some (.own (ts.map tD) true),e5,e6,e7,e8,some (.val (tD gone) g9),e10] 1 [9])) (test:=b7) (elt:=b8)
  tD (fun t=>!decide (t=gone)) (fun t=>.val (tD t) true []) ts fun t ht=>⟨[some (.val (tD t) true),some (.val (tD gone) g9)],rfl,by
   have d1:(tD t).dep<=50:=Nat.le_trans (mw t) (by omega)
   have d2:(tD gone).dep<=50:=Nat.le_trans (mw gone) (by omega)
   simp_arith[b7,c7,Ca,d1,d2,GC],fun _=>by
   simp_arith[b8,c7]⟩
 rw[fH (by rw[List.length_map];exact hl) h,fP,e_,fG (bH _ _ c7)]
theorem Dh {n g:Int}{f2 f3 fr:Bool}(h1:0<n)(h2:n<=100)(h3:0<g)(h4:g<=100):∀(xs:List Int)(ts:List Tri)(e8 e9:Option Sl),ts.length<=1000->
 ∃ us e8' e9',List.Sublist us ts/\bY (gN 8) fr bG (xs.map .int) [c0,c1,some (.val (.int n) f2),some (.val (.int g) f3),some (.own (ts.map tD) true),e5,e6,e7,e8,e9,e10]=.ok (.nx [c0,c1,some (.val (.int n) f2),some (.val (.int g) f3),some (.own (us.map tD) true),e5,e6,e7,e8',e9',e10])
 | [],ts,e8,e9,_=>⟨ts,e8,e9,List.Sublist.refl _,by simp;rfl⟩
 |x::xs,ts,e8,e9,h=>by
  have hs:List.Sublist (ts.filter fun t=>!decide (t=xW x n g)) ts:=List.filter_sublist
  obtain⟨us,e8',e9',s,ih⟩:=Dh (f2:=f2) (f3:=f3) (fr:=fr) h1 h2 h3 h4 xs (ts.filter fun t=>!decide (t=xW x n g)) (some (.val (.int x) fr)) (some (.val (tD (xW x n g)) true)) (Nat.le_trans hs.length_le h)
  refine⟨us,e8',e9',s.trans hs,?_⟩
  have n2:n<1073741824:=by omega
  have g2:g<1073741824:=by omega
  have hc:=fun(e10:Option Sl)=>xM (c0:=c0) (c1:=c1) (c2:=some (.val (.int n) f2)) (c3:=some (.val (.int g) f3)) (e10:=e10) (e5:=e5) (e6:=e6) (e7:=e7) (e8:=some (.val (.int x) fr)) (gone:=xW x n g) (g9:=true) ts (by omega)
  have eb:bG [c0,c1,some (.val (.int n) f2),some (.val (.int g) f3),some (.own (ts.map tD) true),e5,e6,e7,some (.val (.int x) fr),e9,e10]=.ok (.nx [c0,c1,some (.val (.int n) f2),some (.val (.int g) f3),some (.own ((ts.filter fun t=>!decide (t=xW x n g)).map tD) true),e5,e6,e7,some (.val (.int x) fr),some (.val (tD (xW x n g)) true),e10]):=by
   simp_arith[bG,sw,h1,n2,h3,g2,c7,hc]
  rw[List.map_cons,hJ (iI (by simp))]
  show(bG [c0,c1,some (.val (.int n) f2),some (.val (.int g) f3),some (.own (ts.map tD) true),e5,e6,e7,some (.val (.int x) fr),e9,e10]).bind _=_
  rw[eb,fU,cH,ih]
end
end W
namespace W
open PySem L2 L3
theorem AR {es:List Int}{v:Int}(h:v∈es):∃ j,fO (es.map .int) (.int v)=some j:=by
 unfold fO
 rw[if_pos ⟨Nat.le_trans (de es) (by omega),Nat.zero_le _,aq es,rfl⟩]
 cases q:(es.map D.int).findIdx? (fun e=>cB e (.int v)) with
 |some j=>exact⟨j,rfl⟩
 |none=>
  rw[List.findIdx?_eq_none_iff]at q
  have:=q (.int v) (List.mem_map.mpr ⟨v,h,rfl⟩)
  rw[cp]at this;cases this
theorem jA {α:Type}(f:α->D):∀(es:List α)(j:Nat),(es.map f).eraseIdx j=(es.eraseIdx j).map f
 | [],_=>(rfl)
 |_::_,0=>(rfl)
 |e::es,j+1=>by show f e::(es.map f).eraseIdx j=_;rw[jA f es j];rfl
theorem xN (cells:List Int)(pick n g:Int)(h0:0<=pick)(h1:0<n)(h2:n<=5)(h3:0<g)(h4:g<=3) :
 ∃ ts es al,Good n ts/\es.length<=10/\b4 [.lst (cells.map .int),.int pick,.int n,.int g]=.ok (.val (Mc n ts es) true al):=by
 have hng:n.toNat*(g.toNat*n.toNat)<=200:=by
  have a1:n.toNat<=5:=by omega
  have a2:g.toNat<=3:=by omega
  calc n.toNat*(g.toNat*n.toNat)<=5*(3*5):=Nat.mul_le_mul a1 (Nat.mul_le_mul a2 a1)
   _<=200:=by decide
 obtain⟨e5',e6',e7',n3⟩:=Dg (c0:=some (.val (.lst (cells.map .int)) false)) (c1:=some (.val (.int pick) false)) (e8:=none) (e9:=none) (e10:=none) (n:=n) (g:=g) (f2:=false) (f3:=false) (by omega) (by omega) (by omega) (by omega) (rI n.toNat) [] none none none (by rw[fI];simp only[List.length_nil];omega)
 rw[List.map_nil,List.nil_append]at n3
 have hfull:(rI n.toNat).flatMap (fun a=>mM a g.toNat n.toNat)=jT n.toNat g.toNat:=rfl
 rw[hfull]at n3
 have gd:Good n (jT n.toNat g.toNat):=by
  have:=xL n.toNat g.toNat hng
  have e:((n.toNat:Nat):Int)=n:=by omega
  rw[e]at this;exact this
 have hcut:bU (cells.map D.int) none (some (1+pick % 4))=(bU cells none (some (1+pick % 4))).map D.int:=mj _ _ _ _
 obtain⟨us,e8',e9',sub,n4⟩:=Dh (c0:=some (.val (.lst (cells.map .int)) false)) (c1:=some (.val (.int pick) false)) (e5:=e5') (e6:=e6') (e7:=e7') (e10:=none) (n:=n) (g:=g) (f2:=false) (f3:=false) (fr:=true) h1 (by omega) h3 (by omega) (bU cells none (some (1+pick % 4))) (jT n.toNat g.toNat) none none (by have:=gd.len;omega)
 have m1:-4611686018427387904<=n:=by omega
 have m2:n<4611686018427387904:=by omega
 have n0:0<=n:=by omega
 have n1000:n<=1000:=by omega
 have hd12:pick / 12 % n∈rI n.toNat:=rI_mem.mpr ⟨Int.emod_nonneg _ (by omega),by have:=Int.emod_lt_of_pos (pick / 12) h1;omega⟩
 obtain⟨j,hj⟩:=AR hd12
 have hfl:D.flats (List.map D.int (bU cells none (some (1+pick % 4))))=true:=aq _
 by_cases hc:pick / 4 % 3=1
 ·have hb:(pick / 4 % 3==1)=true:=by rw[hc];rfl
  refine⟨us,(rI n.toNat).eraseIdx j,?_,gd.sub sub,?_,?_⟩
  rotate_left
  ·have:=List.length_eraseIdx_le (rI n.toNat) j;rw[fI]at this;omega
  ·have hk:∀ env,tZ 10 ((rI n.toNat).map .int) true env (.val (.int (pick / 12 % n)) true [])=.ok (.nx (env.set 10 (some (.own (((rI n.toNat).map .int).eraseIdx j) true)))):=fun env=>Fb hj
   simp_arith[b4,eh,iH,m1,m2,c8,n3,hcut,hfl,n4,r9,n0,n1000,d9,hb,h1,hk,jA]
   rfl
 ·have hb:(pick / 4 % 3==1)=false:=by simpa using hc
  refine⟨us,rI n.toNat,?_,gd.sub sub,?_,?_⟩
  rotate_left
  ·rw[fI];omega
  ·simp_arith[b4,eh,iH,m1,m2,c8,n3,hcut,hfl,n4,r9,n0,n1000,d9,hb]
   rfl
theorem Cy {c0 c1 c2 e5 e6 e7:Option Sl}{n g:Int}{g3 g4 fr:Bool}(h1:0<n)(h2:n<1073741824)(h3:0<g)(h4:g<1073741824)(xs:List Int)(hl:xs.length<=1000000) :
 gQ 1 [3,4] (gN 0) (fun _=>.ok true) bq [c0,c1,c2,some (.val (.int g) g3),some (.val (.int n) g4),e5,e6,e7] ⟨xs.map .int,fr,[]⟩=.ok (.new ((xs.map fun c=>xW c n g).map tD) true):=by
 have h:=db (mk:=fun d=>gN 0 d fr (cD [c0,c1,c2,some (.val (.int g) g3),some (.val (.int n) g4),e5,e6,e7] 1 [3,4])) (test:=fun _=>.ok true)
  (elt:=bq) D.int (fun c=>.val (tD (xW c n g)) true []) xs fun c hc=>⟨_,rfl,rfl,by
    show bq [some (.val (.int c) fr),some (.val (.int g) g3),some (.val (.int n) g4)]=_
    simp_arith[bq,sw,h1,h2,h3,h4,c7]⟩
 rw[fH (by rw[List.length_map];exact hl) h,fP,e_,List.map_map]
 rw[fG (bH _ _ fun c=>rfl)]
 rfl
def Di (bits:Int)(k:Int):Bool:=Builtin.bitAnd (bits / 2 ^ k.toNat) 1==1
def qz (bits:Int)(n:Nat):List Int:=(rI n).filter (Di bits)
theorem AS (bits:Int)(n:Nat):(qz bits n).length<=n:=by
 unfold qz
 exact Nat.le_trans (List.length_filter_le _ _) (by rw[fI];exact Nat.le_refl _)
theorem xO {c0 c1 c2 c3 e4 e5 e7:Option Sl}{bits:Int}{g fr:Bool}(n:Nat)(hn:n<=1000000) :
 gQ 1 [6] (gN 0) br bt [c0,c1,c2,c3,e4,e5,some (.val (.int bits) g),e7] ⟨(rI n).map .int,fr,[]⟩=.ok (.new ((qz bits n).map .int) true):=by
 have h:=bV (mk:=fun d=>gN 0 d fr (cD [c0,c1,c2,c3,e4,e5,some (.val (.int bits) g),e7] 1 [6])) (test:=br)
  (elt:=bt) D.int (Di bits) (fun k=>.val (.int k) true []) (rI n) fun k hk=>⟨_,rfl,by
    show br [some (.val (.int k) fr),some (.val (.int bits) g)]=_
    have hp:(0:Int)<=k:=(rI_mem.mp hk).1
    simp_arith[br,hp,d9]
    rfl,fun _=>by
    show bt [some (.val (.int k) fr),some (.val (.int bits) g)]=_
    simp_arith[bt]⟩
 rw[fH (by rw[List.length_map,fI];exact hn) h,fP,e_,fG (bH _ _ fun c=>rfl)]
 rfl
theorem vi (cells:List Int)(pick rooms signs:Int)(hl:cells.length<=63)(h0:0<=pick)(h1:0<rooms)(h2:rooms<=3)(h3:0<signs)(h4:signs<=3) :
 ∃ n ts es,(0<=n/\n<=1000)/\Good n ts/\es.length<=10/\∀ rs,(bO [.lst (cells.map .int),.int pick,.int rooms,.int signs]).bind (uf rs)=.ok (.fre (Mc n ts es)):=by
 have n1:0<rooms+pick % 3:=by omega
 have n2:rooms+pick % 3<=5:=by omega
 by_cases hc:pick / 3 % 2=0
 ·have hb:(pick / 3 % 2==0)=true:=by rw[hc];rfl
  obtain⟨ts,es,al,p1,p2,p3⟩:=xN cells (pick / 6) (rooms+pick % 3) signs (by omega) n1 n2 h3 h4
  refine⟨_,ts,es,⟨by omega,by omega⟩,p1,p2,fun rs=>?_⟩
  simp_arith[bO,dF,d9,hb,p3,b0,kt,dc]
 ·have hb:(pick / 3 % 2==0)=false:=by simpa using hc
  have b1:rooms+pick % 3<1073741824:=by omega
  have b2:signs<1073741824:=by omega
  have bc:cells.length<=1000000:=by omega
  have m1:-4611686018427387904<=rooms+pick % 3:=by omega
  have m2:rooms+pick % 3<4611686018427387904:=by omega
  have hn:(rooms+pick % 3).toNat<=1000000:=by omega
  have hk:∀ f al,EF (.val (.lst ((cells.map fun c=>xW c (rooms+pick % 3) signs).map tD)) f al)=.ok (.new ((dG (cells.map fun c=>xW c (rooms+pick % 3) signs)).map tD) true):=fun f al=>Fh _ (by rw[List.length_map];omega) f al
  refine⟨rooms+pick % 3,dG (cells.map fun c=>xW c (rooms+pick % 3) signs),qz (pick / 6) (rooms+pick % 3).toNat,⟨by omega,by omega⟩,xK (fun t ht=>?_) (by rw[List.length_map];omega),Nat.le_trans (AS _ _) (by omega),fun rs=>?_⟩
  ·obtain⟨c,_,rfl⟩:=List.mem_map.mp ht
   exact⟨Int.emod_nonneg _ (by omega),Int.emod_lt_of_pos _ n1⟩
  ·simp_arith[bO,dF,d9,hb,Cy n1 b1 h3 b2 cells bc,aq,hk,iH,m1,m2,c8,xO _ hn,b0,kt]
   rfl
end W
namespace W
open PySem L2 L3
def tk (t:Tri):DK:=.inr [.inl t.1,.inl t.2.1,.inl t.2.2]
theorem Fi {t u:Tri}(h:tk t=tk u):t=u:=by
 obtain⟨a,b,c⟩:=t
 obtain⟨d,e,f⟩:=u
 have h:=Sum.inr.inj h
 simp only[List.cons.injEq,Sum.inl.injEq,and_true]at h
 simp only[Prod.mk.injEq]
 exact h
def hD (ts:List Tri):D:=.dic (ts.map tk) (ts.map fun _=>.bl true)
theorem AT (a b c:Int):keyX (.tup [.int a,.int b,.int c])=some (tk (a,b,c)):=(rfl)
theorem vj (ts:List Tri)(t:Tri):(ts.map tk).all (kin (tk t))=true:=by
 rw[List.all_map,List.all_eq_true];intro x _;rfl
theorem vk (ts:List Tri)(t:Tri):fD (ts.map tk) (tk t)=decide (t∈ts):=by
 unfold fD
 rw[List.any_map,Bool.eq_iff_iff,List.any_eq_true,decide_eq_true_iff]
 constructor
 ·rintro⟨u,h1,h2⟩
  have h2:tk u=tk t:=of_decide_eq_true h2
  exact Fi h2▸h1
 ·intro h
  exact⟨t,h,decide_eq_true rfl⟩
theorem ku (ts:List Tri)(a b c:Int):iP false (.tup [.int a,.int b,.int c]) (hD ts)=.ok (.val (.bl (decide ((a,b,c)∈ts))) true []):=by
 unfold hD;rw[wg (AT a b c) (vj ts (a,b,c)),vk];rfl
theorem sD (ts:List Tri)(a b c:Int):iP true (.tup [.int a,.int b,.int c]) (hD ts)=.ok (.val (.bl (!decide ((a,b,c)∈ts))) true []):=by
 unfold hD;rw[wg (AT a b c) (vj ts (a,b,c)),vk];rfl
theorem dZ (ts:List Tri):(hD ts).flat=false:=(rfl)
theorem AU {pre:List Tri}{t:Tri}(h:t∉pre):cT (pre.map tk) (pre.map fun _=>D.bl true) (tk t) (.bl true)=hD (pre++[t]):=by
 unfold cT;rw[vk,if_neg (by rw[decide_eq_false h];simp)]
 unfold hD;rw[List.map_append,List.map_append];rfl
theorem nN {c0 c1 e4:Option Sl}{fr:Bool}:∀(ts pre:List Tri)(e3:Option Sl),(pre++ts).Nodup->pre.length+ts.length<=1000->
 ∃ e3',bY (gN 3) fr bw (ts.map tD) [c0,c1,some (.tre (hD pre)),e3,e4]=.ok (.nx [c0,c1,some (.tre (hD (pre++ts))),e3',e4])
 | [],pre,e3,_,_=>⟨e3,by simp;rfl⟩
 |t::ts,pre,e3,hn,hl=>by
  have ht:t∉pre:=fun z=>by
   rw[List.nodup_append]at hn
   exact hn.2.2 t z t (by simp) rfl
  obtain⟨e3',ih⟩:=nN (c0:=c0) (c1:=c1) (e4:=e4) (fr:=fr) ts (pre++[t]) (some (.val (tD t) fr)) (by simpa using hn) (by simp at hl ⊢;omega)
  refine⟨e3',?_⟩
  have bc:(pre.map tk).length<1000000:=by rw[List.length_map];simp at hl;omega
  have hp:∀ env:En,rJ 2 env (pre.map tk) (pre.map fun _=>D.bl true) (.bl true) (.val (tD t) true [])=.ok (.nx (env.set 2 (some (.tre (hD (pre++[t])))))):=fun env=>by
   rw[Ci (x:=tk t) rfl (vj pre t) bc,AU ht]
  have eb:bw [c0,c1,some (.tre (hD pre)),some (.val (tD t) fr),e4]=.ok (.nx [c0,c1,some (.tre (hD (pre++[t]))),some (.val (tD t) fr),e4]):=by
   show bw [c0,c1,some (.tre (.dic (pre.map tk) (pre.map fun _=>.bl true))),some (.val (tD t) fr),e4]=_
   simp_arith[bw,Cg,c7,hp]
  rw[List.map_cons,hJ (iI (by simp))]
  show(bw [c0,c1,some (.tre (hD pre)),some (.val (tD t) fr),e4]).bind _=_
  rw[eb,fU,cH,ih]
  simp
def bm (ts:List Tri)(es:List Int)(q:Int)(put:List Int)(s:Int):Bool:=match put with
 | []=>(ts.find? fun t=>decide (t.1=s)&&!decide ((q,t.2.1,t.2.2)∈ts)).isNone&&(!decide (s∈es) || decide (q∈es))
 | [b]=>decide ((q,b,s)∈ts)
 |b::c::_=>ts.any fun t=>decide (t.1=q)&&decide (t.2.1=b)&&decide ((t.2.2,c,s)∈ts)
theorem wz (es:List Int)(x:Int):((es.map D.int).any fun e=>cB e (.int x))=decide (x∈es):=by
 rw[List.any_map,Bool.eq_iff_iff,List.any_eq_true,decide_eq_true_iff]
 constructor
 ·rintro⟨u,h1,h2⟩
  have h2:u=x:=by simpa[cB] using h2
  exact h2▸h1
 ·intro h
  exact⟨x,h,cp _⟩
theorem wA (es:List Int)(x:Int):iP false (.int x) (.lst (es.map .int))=.ok (.val (.bl (decide (x∈es))) true []):=by
 rw[C_ (Nat.le_trans (de es) (by omega)) (Nat.zero_le _),wz];rfl
theorem sE (es:List Int)(x:Int):iP true (.int x) (.lst (es.map .int))=.ok (.val (.bl (!decide (x∈es))) true []):=by
 rw[C_ (Nat.le_trans (de es) (by omega)) (Nat.zero_le _),wz];rfl
theorem Cz {n:Int}{ts:List Tri}{es:List Int}(r:Rl)(s:Int)(gd:Good n ts)(hn0:0<=n)(hn:n<=1000)(hp:r.put.length<=2) :
 aP [Mc n ts es,hD ts,r.d,.int s]=.ok (.val (.bl (bm ts es r.to r.put s)) true []):=by
 have hMc:Mc n ts es=.tup [.int n,.lst (ts.map tD),.lst (es.map .int)]:=rfl
 obtain⟨room,sign,q,put⟩:=r
 match put,hp with
 | [],_=>
  have he:(([]:List Int).map D.int)=[]:=rfl
  have len0:((((0:Nat):Int))==0)=true:=rfl
  obtain⟨f1,f2⟩:=dg (asg:=gN 6) (fr:=false) (body:=bh) tD (fun env=>∃ e6,env=[some (.val (.tup [.int n,.lst (ts.map tD),.lst (es.map .int)]) false),some (.val (hD ts) false),some (.val (.tup [.int room,.int sign,.int q,.tup []]) false),some (.val (.int s) false),some (.val (.int q) true),some (.val (.tup []) true),e6,none])
   (fun t=>decide (t.1=s)&&!decide ((q,t.2.1,t.2.2)∈ts)) (fun _=>.val (.bl false) true []) ts [some (.val (.tup [.int n,.lst (ts.map tD),.lst (es.map .int)]) false),some (.val (hD ts) false),some (.val (.tup [.int room,.int sign,.int q,.tup []]) false),some (.val (.int s) false),some (.val (.int q) true),some (.val (.tup []) true),none,none] ⟨none,rfl⟩ (fun t ht env hE=>by
     obtain⟨e6,rfl⟩:=hE
     refine⟨_,iI (by simp),?_⟩
     show(_/\bh [some (.val (.tup [.int n,.lst (ts.map tD),.lst (es.map .int)]) false),some (.val (hD ts) false),some (.val (.tup [.int room,.int sign,.int q,.tup []]) false),some (.val (.int s) false),some (.val (.int q) true),some (.val (.tup []) true),some (.val (tD t) false),none]=_)\/(_/\∃ env2,bh [some (.val (.tup [.int n,.lst (ts.map tD),.lst (es.map .int)]) false),some (.val (hD ts) false),some (.val (.tup [.int room,.int sign,.int q,.tup []]) false),some (.val (.int s) false),some (.val (.int q) true),some (.val (.tup []) true),some (.val (tD t) false),none]=_/\_)
     obtain⟨a,b,c⟩:=t
     by_cases h1:a=s
     ·have hb:(a==s)=true:=by simpa using h1
      by_cases h2:(q,b,c)∈ts
      ·right
       refine⟨by simp[h2],_,?_,⟨some (.val (tD (a,b,c)) false),rfl⟩⟩
       simp_arith[bh,tD,d9,hb,dZ,bM,sD,h2]
      ·left
       refine⟨by simp[h1,h2],?_⟩
       simp_arith[bh,tD,d9,hb,dZ,bM,sD,h2]
     ·have hb:(a==s)=false:=by simpa using h1
      right
      refine⟨by simp[h1],_,?_,⟨some (.val (tD (a,b,c)) false),rfl⟩⟩
      simp_arith[bh,tD,d9,hb])
  unfold bm Mc Rl.d
  dsimp only
  cases hq:ts.find? (fun t=>decide (t.1=s)&&!decide ((q,t.2.1,t.2.2)∈ts)) with
  |some a=>
   simp_arith[aP,bP,he,d9,len0,f1 a hq]
   rfl
  |none=>
   obtain⟨aB,g1,e6,rfl⟩:=f2 hq
   by_cases h1:s∈es
   ·simp_arith[aP,bP,he,d9,len0,g1,bM,sE,wA,h1,hV]
    simp
   ·simp_arith[aP,bP,he,d9,len0,g1,bM,sE,wA,h1,hV]
    simp
 | [b],_=>
  have he:([b].map D.int)=[.int b]:=rfl
  have l0:((((1:Nat):Int))==0)=false:=rfl
  have l1:((((1:Nat):Int))==1)=true:=rfl
  unfold bm Mc Rl.d
  dsimp only
  simp_arith[aP,bP,he,d9,l0,l1,hV,ku,dZ]
 | [b,c],_=>
  have he:([b,c].map D.int)=[.int b,.int c]:=rfl
  have l0:((((2:Nat):Int))==0)=false:=rfl
  have l1:((((2:Nat):Int))==1)=false:=rfl
  obtain⟨f1,f2⟩:=dg (asg:=gN 7) (fr:=true) (body:=bj) D.int (fun env=>∃ e7,env=[some (.val (.tup [.int n,.lst (ts.map tD),.lst (es.map .int)]) false),some (.val (hD ts) false),some (.val (.tup [.int room,.int sign,.int q,.tup [.int b,.int c]]) false),some (.val (.int s) false),some (.val (.int q) true),some (.val (.tup [.int b,.int c]) true),none,e7])
   (fun m=>decide ((q,b,m)∈ts)&&decide ((m,c,s)∈ts)) (fun _=>.val (.bl true) true []) (rI n.toNat) [some (.val (.tup [.int n,.lst (ts.map tD),.lst (es.map .int)]) false),some (.val (hD ts) false),some (.val (.tup [.int room,.int sign,.int q,.tup [.int b,.int c]]) false),some (.val (.int s) false),some (.val (.int q) true),some (.val (.tup [.int b,.int c]) true),none,none] ⟨none,rfl⟩ (fun m hm env hE=>by
     obtain⟨e7,rfl⟩:=hE
     refine⟨_,iI (by simp),?_⟩
     show(_/\bj [some (.val (.tup [.int n,.lst (ts.map tD),.lst (es.map .int)]) false),some (.val (hD ts) false),some (.val (.tup [.int room,.int sign,.int q,.tup [.int b,.int c]]) false),some (.val (.int s) false),some (.val (.int q) true),some (.val (.tup [.int b,.int c]) true),none,some (.val (.int m) true)]=_)\/(_/\∃ env2,bj [some (.val (.tup [.int n,.lst (ts.map tD),.lst (es.map .int)]) false),some (.val (hD ts) false),some (.val (.tup [.int room,.int sign,.int q,.tup [.int b,.int c]]) false),some (.val (.int s) false),some (.val (.int q) true),some (.val (.tup [.int b,.int c]) true),none,some (.val (.int m) true)]=_/\_)
     by_cases h1:(q,b,m)∈ts
     ·by_cases h2:(m,c,s)∈ts
      ·left
       refine⟨by simp[h1,h2],?_⟩
       simp_arith[bj,dZ,hV,ku,h1,h2]
      ·right
       refine⟨by simp[h2],_,?_,⟨some (.val (.int m) true),rfl⟩⟩
       simp_arith[bj,dZ,hV,ku,h1,h2]
     ·right
      refine⟨by simp[h1],_,?_,⟨some (.val (.int m) true),rfl⟩⟩
      simp_arith[bj,dZ,hV,ku,h1])
  have hany:(ts.any fun t=>decide (t.1=q)&&decide (t.2.1=b)&&decide ((t.2.2,c,s)∈ts))=((rI n.toNat).find? fun m=>decide ((q,b,m)∈ts)&&decide ((m,c,s)∈ts)).isSome:=by
   rw[Bool.eq_iff_iff,List.any_eq_true,List.find?_isSome]
   constructor
   ·rintro⟨⟨x,y,z⟩,h1,h2⟩
    simp only[Bool.and_eq_true,decide_eq_true_eq]at h2
    obtain⟨⟨rfl,rfl⟩,h3⟩:=h2
    have hb:=gd.bd _ h1
    exact⟨z,rI_mem.mpr ⟨hb.1,by have:=hb.2;dsimp only at this;omega⟩,by simp[h1,h3]⟩
   ·rintro⟨m,_,h2⟩
    simp only[Bool.and_eq_true,decide_eq_true_eq]at h2
    exact⟨(q,b,m),h2.1,by simp[h2.2]⟩
  have eB:bm ts es q [b,c] s=((rI n.toNat).find? fun m=>decide ((q,b,m)∈ts)&&decide ((m,c,s)∈ts)).isSome:=hany
  show aP [Mc n ts es,hD ts,Rl.d ⟨room,sign,q,[b,c]⟩,.int s]=.ok (.val (.bl (bm ts es q [b,c] s)) true [])
  rw[eB]
  unfold Mc Rl.d
  dsimp only
  have m1:-4611686018427387904<=n:=by omega
  have m2:n<4611686018427387904:=by omega
  cases hq:(rI n.toNat).find? (fun m=>decide ((q,b,m)∈ts)&&decide ((m,c,s)∈ts)) with
  |some a=>
   simp_arith[aP,bP,he,d9,l0,l1,iH,m1,m2,c8,f1 a hq]
   rfl
  |none=>
   obtain⟨aB,g1,e7,rfl⟩:=f2 hq
   simp_arith[aP,bP,he,d9,l0,l1,iH,m1,m2,c8,g1]
   rfl
end W
namespace W
open PySem L2 L3
def xP (ts:List Tri)(es:List Int)(r:Rl)(t:Tri):Bool:=decide (t.1=r.room)&&decide (t.2.1=r.sign)&&!bm ts es r.to r.put t.2.2
def dN (ts:List Tri)(es:List Int)(r:Rl):Option Tri:=ts.find? (xP ts es r)
def nO (ts:List Tri)(es:List Int)(rules:List Rl):Option (Rl×Nat):=rules.zipIdx.find? fun p=>(dN ts es p.1).isSome
def ia (ts:List Tri)(es:List Int)(rules:List Rl):D:=match nO ts es rules with
 |none=>.non
 |some p=>.tup [.int (p.2:Nat),tD ((dN ts es p.1).getD (0,0,0))]
theorem nP (ts:List Tri)(es:List Int)(rules:List Rl):(ia ts es rules).flat=true:=by
 unfold ia;split<;>rfl
theorem Fj (a b c:D):bU [a,b,c] none (some 2)=[a,b]:=by
 unfold bU
 have h2:HT.sIx 3 3 (some 2)=2:=HT.sIx_nat 3 3 2
 have h1:HT.sIx 3 0 none=0:=rfl
 show([a,b,c].drop (HT.sIx 3 0 none)).take (HT.sIx 3 3 (some 2)-HT.sIx 3 0 none)=_
 rw[h1,h2];rfl
theorem Fk (a b c d:D):bU [a,b,c,d] none (some 2)=[a,b]:=by
 unfold bU
 have h2:HT.sIx 4 4 (some 2)=2:=HT.sIx_nat 4 4 2
 have h1:HT.sIx 4 0 none=0:=rfl
 show([a,b,c,d].drop (HT.sIx 4 0 none)).take (HT.sIx 4 4 (some 2)-HT.sIx 4 0 none)=_
 rw[h1,h2];rfl
theorem wB {rules:List Rl}{p:Rl×Nat}(h:p∈rules.zipIdx):rules[p.2]?=some p.1/\p.1∈rules:=by
 obtain⟨r,k⟩:=p
 have:=List.mem_zipIdx_iff_getElem?.mp h
 exact⟨this,List.mem_of_getElem? this⟩
theorem wC (rules:List Rl):(rI rules.length).map D.int=rules.zipIdx.map fun p=>D.int (p.2:Nat):=by
 have:rules.zipIdx.map (fun p=>p.2)=List.range rules.length:=by
  rw[List.zipIdx_map_snd,List.range_eq_range']
 unfold rI
 rw[<- this,List.map_map,List.map_map];rfl
theorem Fm {n:Int}{ts:List Tri}{es:List Int}(rules:List Rl)(gd:Good n ts)(hn0:0<=n)(hn:n<=1000)(hr:rules.length<=1000)(hp:∀ r∈rules,r.put.length<=2) :
 bQ [.lst (rules.map Rl.d),Mc n ts es]=.ok (.val (ia ts es rules) true []):=by
 obtain⟨e3,hh⟩:=nN (c0:=some (.val (.lst (rules.map Rl.d)) false)) (c1:=some (.val (Mc n ts es) false)) (e4:=none) (fr:=false) ts [] none (by simpa using gd.nodup) (by have:=gd.len;simp;omega)
 rw[List.nil_append]at hh
 have hh:bY (gN 3) false bw (ts.map tD) [some (.val (.lst (rules.map Rl.d)) false),some (.val (.tup [.int n,.lst (ts.map tD),.lst (es.map .int)]) false),some (.tre (.dic [] [])),none,none]=.ok (.nx [some (.val (.lst (rules.map Rl.d)) false),some (.val (.tup [.int n,.lst (ts.map tD),.lst (es.map .int)]) false),some (.tre (hD ts)),e3,none]):=hh
 have inner:∀(p:Rl×Nat),p∈rules.zipIdx->∀ e3:Option Sl,∃ e3':Option Sl,bz [some (.val (.lst (rules.map Rl.d)) false),some (.val (.tup [.int n,.lst (ts.map tD),.lst (es.map .int)]) false),some (.tre (hD ts)),e3,some (.val (.int (p.2:Nat)) true)] =
  (match dN ts es p.1 with|some t=>.ok (.rt (.val (.tup [.int (p.2:Nat),tD t]) true []))|none=>.ok (.nx [some (.val (.lst (rules.map Rl.d)) false),some (.val (.tup [.int n,.lst (ts.map tD),.lst (es.map .int)]) false),some (.tre (hD ts)),e3',some (.val (.int (p.2:Nat)) true)])):=by
  intro p hpm e3
  obtain⟨hat,hmem⟩:=wB hpm
  have hatD:atI (rules.map Rl.d) ((p.2:Nat):Int)=some p.1.d:=HU (by rw[List.getElem?_map,hat];rfl)
  obtain⟨f1,f2⟩:=dg (asg:=gN 3) (fr:=false) (body:=bx) tD (fun env=>∃ e3,env=[some (.val (.lst (rules.map Rl.d)) false),some (.val (.tup [.int n,.lst (ts.map tD),.lst (es.map .int)]) false),some (.tre (hD ts)),e3,some (.val (.int (p.2:Nat)) true)])
   (xP ts es p.1) (fun t=>.val (.tup [.int (p.2:Nat),tD t]) true []) ts [some (.val (.lst (rules.map Rl.d)) false),some (.val (.tup [.int n,.lst (ts.map tD),.lst (es.map .int)]) false),some (.tre (hD ts)),e3,some (.val (.int (p.2:Nat)) true)] ⟨e3,rfl⟩ (fun t ht env hE=>by
     obtain⟨e3',rfl⟩:=hE
     refine⟨_,iI (by simp),?_⟩
     show(_/\bx [some (.val (.lst (rules.map Rl.d)) false),some (.val (.tup [.int n,.lst (ts.map tD),.lst (es.map .int)]) false),some (.tre (hD ts)),some (.val (tD t) false),some (.val (.int (p.2:Nat)) true)]=_)\/(_/\∃ env2,bx [some (.val (.lst (rules.map Rl.d)) false),some (.val (.tup [.int n,.lst (ts.map tD),.lst (es.map .int)]) false),some (.tre (hD ts)),some (.val (tD t) false),some (.val (.int (p.2:Nat)) true)]=_/\_)
     obtain⟨a,b,c⟩:=t
     have hk:aP [.tup [.int n,.lst (ts.map tD),.lst (es.map .int)],hD ts,p.1.d,.int c]=.ok (.val (.bl (bm ts es p.1.to p.1.put c)) true []):=Cz p.1 c gd hn0 hn (hp p.1 hmem)
     have hk':aP [.tup [.int n,.lst (ts.map tD),.lst (es.map .int)],hD ts,.tup [.int p.1.room,.int p.1.sign,.int p.1.to,.tup (p.1.put.map .int)],.int c]=.ok (.val (.bl (bm ts es p.1.to p.1.put c)) true []):=hk
     have hdp:D.deps (p.1.put.map .int)<=0:=de _
     have eqh:cB (.tup [.int a,.int b]) (.tup [.int p.1.room,.int p.1.sign])=(decide (a=p.1.room)&&decide (b=p.1.sign)):=by
      show(a==p.1.room&&(b==p.1.sign&&true))=_
      rw[Bool.and_true];rfl
     by_cases h1:(decide (a=p.1.room)&&decide (b=p.1.sign))=true
     ·cases h2:bm ts es p.1.to p.1.put c with
      |false=>
       left
       refine⟨by unfold xP;dsimp only;rw[h1,h2];rfl,?_⟩
       simp_arith[bx,tD,hatD,Rl.d,aq,Fj,Fk,d9,eqh,h1,hk',h2,dZ]
      |true=>
       right
       refine⟨by unfold xP;dsimp only;rw[h1,h2];rfl,_,?_,⟨some (.val (tD (a,b,c)) false),rfl⟩⟩
       simp_arith[bx,tD,hatD,Rl.d,aq,Fj,Fk,d9,eqh,h1,hk',h2,dZ]
     ·have h1:(decide (a=p.1.room)&&decide (b=p.1.sign))=false:=by simpa using h1
      right
      refine⟨by unfold xP;dsimp only;rw[h1];rfl,_,?_,⟨some (.val (tD (a,b,c)) false),rfl⟩⟩
      simp_arith[bx,tD,hatD,Rl.d,aq,Fj,Fk,d9,eqh,h1])
  unfold dN
  cases hq:ts.find? (xP ts es p.1) with
  |some t=>
   refine⟨none,?_⟩
   simp_arith[bz,f1 t hq]
  |none=>
   obtain⟨aB,g1,e3',rfl⟩:=f2 hq
   refine⟨e3',?_⟩
   simp_arith[bz,g1]
 obtain⟨f1,f2⟩:=dg (asg:=gN 4) (fr:=true) (body:=bz) (fun p:Rl×Nat=>D.int (p.2:Nat)) (fun env=>∃ e3 e4,env=[some (.val (.lst (rules.map Rl.d)) false),some (.val (.tup [.int n,.lst (ts.map tD),.lst (es.map .int)]) false),some (.tre (hD ts)),e3,e4])
  (fun p=>(dN ts es p.1).isSome) (fun p=>.val (.tup [.int (p.2:Nat),tD ((dN ts es p.1).getD (0,0,0))]) true []) rules.zipIdx [some (.val (.lst (rules.map Rl.d)) false),some (.val (.tup [.int n,.lst (ts.map tD),.lst (es.map .int)]) false),some (.tre (hD ts)),e3,none] ⟨e3,none,rfl⟩ (fun p hp env hE=>by
    obtain⟨e3,e4,rfl⟩:=hE
    refine⟨_,iI (by simp),?_⟩
    obtain⟨e3',hi⟩:=inner p hp e3
    show(_/\bz [some (.val (.lst (rules.map Rl.d)) false),some (.val (.tup [.int n,.lst (ts.map tD),.lst (es.map .int)]) false),some (.tre (hD ts)),e3,some (.val (.int (p.2:Nat)) true)]=_)\/(_/\∃ env2,bz [some (.val (.lst (rules.map Rl.d)) false),some (.val (.tup [.int n,.lst (ts.map tD),.lst (es.map .int)]) false),some (.tre (hD ts)),e3,some (.val (.int (p.2:Nat)) true)]=_/\_)
    cases hq:dN ts es p.1 with
    |some t=>rw[hq]at hi;left;exact⟨rfl,hi⟩
    |none=>rw[hq]at hi;right;exact⟨rfl,_,hi,e3',_,rfl⟩)
 have hm:(rules.map Rl.d).length=rules.length:=List.length_map ..
 have m1:-4611686018427387904<=((rules.length:Nat):Int):=by omega
 have m2:((rules.length:Nat):Int)<4611686018427387904:=by omega
 have tn:((rules.length:Nat):Int).toNat=rules.length:=by omega
 show bQ [.lst (rules.map Rl.d),.tup [.int n,.lst (ts.map tD),.lst (es.map .int)]]=_
 unfold ia nO
 cases hq:rules.zipIdx.find? (fun p=>(dN ts es p.1).isSome) with
 |some p=>
  simp_arith[bQ,h8,hh,hm,iH,m1,m2,tn,c8,wC,f1 p hq]
 |none=>
  obtain⟨aB,g1,e3,e4,rfl⟩:=f2 hq
  simp_arith[bQ,h8,hh,hm,iH,m1,m2,tn,c8,wC,g1]
end W
namespace W
open PySem L2 L3
theorem eG (ts:List Tri)(x y z:Int):z∈g3 ts x y↔(x,y,z)∈ts:=by
 unfold g3
 rw[List.mem_map]
 constructor
 ·rintro⟨⟨a,b,c⟩,h,rfl⟩
  rw[List.mem_filter,Bool.and_eq_true,decide_eq_true_iff,decide_eq_true_iff]at h
  obtain⟨h1,h2,h3⟩:=h
  dsimp only at h2 h3 ⊢
  rw[<- h2,<- h3];exact h1
 ·intro h
  exact⟨(x,y,z),List.mem_filter.mpr ⟨h,by simp⟩,rfl⟩
theorem Dj {n:Int}{ts:List Tri}(gd:Good n ts)(x y:Int):(g3 ts x y).Pairwise (·< ·):=by
 unfold g3
 rw[List.pairwise_map]
 refine List.Pairwise.imp_of_mem (fun{a b} ha hb z=>?_) (List.Pairwise.filter _ gd.up)
 rw[List.mem_filter,Bool.and_eq_true,decide_eq_true_iff,decide_eq_true_iff]at ha hb
 exact z (ha.2.1.trans hb.2.1.symm) (ha.2.2.trans hb.2.2.symm)
theorem Fo {l:List Int}{x:Int}(h:x∉l):dd l x=l++[x]:=if_neg h
theorem nQ:∀(xs l:List Int),(l++xs).Nodup->xs.foldl dd l=l++xs
 | [],l,_=>by simp
 |x::r,l,h=>by
  have hx:x∉l:=fun z=>by
   rw[List.nodup_append]at h
   exact h.2.2 x z x (by simp) rfl
  rw[List.foldl_cons,Fo hx,nQ r (l++[x]) (by simpa using h)];simp
theorem vm {l:List Int}(h:l.Nodup):aF l=l:=by unfold aF;rw[nQ l [] (by simpa using h)];rfl
theorem AV {n:Int}{ts:List Tri}(gd:Good n ts)(x y:Int):(g3 ts x y).Nodup:=List.Pairwise.imp (fun{a b} z e=>by omega) (Dj gd x y)
theorem qA {n:Int}{ts:List Tri}(gd:Good n ts)(x y:Int):dU (g3 ts x y)=bD (g3 ts x y):=by
 show bD (aF (g3 ts x y))=_
 rw[vm (AV gd x y)]
theorem lw (ts:List Tri)(x y:Int):(g3 ts x y).length<=ts.length:=by
 unfold g3;rw[List.length_map];exact List.length_filter_le _ _
theorem aX (ks:List Int):(bD ks).flat=false:=(rfl)
theorem aL (ts:List Tri):(ax ts).flat=false:=(rfl)
theorem Fp {ts:List Tri}{x:Int}(h:x∉g1 ts):g2 ts x=[]:=by
 rw[List.eq_nil_iff_forall_not_mem]
 intro y hy
 obtain⟨t,h1,h2,_⟩:=(jo ts x y).mp hy
 exact h ((tW ts x).mpr ⟨t,h1,h2⟩)
theorem Fq {ts:List Tri}{x y:Int}(h:y∉g2 ts x):g3 ts x y=[]:=by
 rw[List.eq_nil_iff_forall_not_mem]
 intro z hz
 exact h ((jo ts x y).mpr ⟨(x,y,z),(eG ts x y z).mp hz,rfl,rfl⟩)
theorem AW (ts:List Tri)(x:Int)(ra rk rz:R)(ha:ra=.val (ax ts) false [])(hk:rk.d=.int x)(hz:rz=.fre (.dic [] [])) :
 ∃ f,ED ra ((g1 ts).map ik) ((g1 ts).map (js ts)) rk rz=.ok (.val (js ts x) f []):=by
 unfold ED
 rw[hk]
 show ∃ f,(if ((g1 ts).map ik).all (kin (.inl (.inl x))) then (match L3.getD ((g1 ts).map ik) ((g1 ts).map (js ts)) (.inl (.inl x)) with|some d=>Res.ok (mkV d ra.fr ra.al)|none=>.ok (mkV rz.d rz.fr rz.al)) else .stuck)=_
 rw[if_pos (pS x _),pT]
 by_cases h:x∈g1 ts
 ·rw[if_pos h];dsimp only;rw[ha];exact⟨false,rfl⟩
 ·rw[if_neg h];dsimp only;rw[hz]
  refine⟨true,?_⟩
  have:js ts x=.dic [] []:=by unfold js;rw[Fp h];rfl
  rw[this];rfl
theorem CA (ts:List Tri)(x y:Int)(f:Bool)(rk rz:R)(hk:rk.d=.int y)(hz:rz=.fre (.dic [] [])) :
 ∃ f',ED (.val (js ts x) f []) ((g2 ts x).map ik) ((g2 ts x).map fun y=>dU (g3 ts x y)) rk rz=.ok (.val (dU (g3 ts x y)) f' []):=by
 unfold ED
 rw[hk]
 show ∃ f',(if ((g2 ts x).map ik).all (kin (.inl (.inl y))) then (match L3.getD ((g2 ts x).map ik) ((g2 ts x).map fun y=>dU (g3 ts x y)) (.inl (.inl y)) with|some d=>Res.ok (mkV d f [])|none=>.ok (mkV rz.d rz.fr rz.al)) else .stuck)=_
 rw[if_pos (pS y _),pT]
 by_cases h:y∈g2 ts x
 ·rw[if_pos h];dsimp only;exact⟨f,rfl⟩
 ·rw[if_neg h];dsimp only;rw[hz]
  refine⟨true,?_⟩
  rw[Fq h];rfl
theorem AX (ts:List Tri)(x y:Int):∃ f,aV [ax ts,.int x,.int y]=.ok (.val (dU (g3 ts x y)) f []):=by
 obtain⟨f,h1⟩:=AW ts x (.val (ax ts) false []) (.val (.int x) true []) (.fre (.dic [] [])) rfl rfl rfl
 obtain⟨f',h2⟩:=CA ts x y f (.val (.int y) true []) (.fre (.dic [] [])) rfl rfl
 refine⟨f',?_⟩
 have k1:∀ fk fx env,C3 fk fx env (.val (ax ts) false [])=(fk env).bind (Fy fx env (.val (ax ts) false []) ((g1 ts).map ik) ((g1 ts).map (js ts))):=fun fk fx env=>At rfl
 have k2:∀ fk fx env,C3 fk fx env (.val (js ts x) f [])=(fk env).bind (Fy fx env (.val (js ts x) f []) ((g2 ts x).map ik) ((g2 ts x).map fun y=>dU (g3 ts x y))):=fun fk fx env=>At rfl
 simp_arith[aV,sk,aL,gu,k1,jO,h1,k2,h2]
theorem CB (ts:List Tri)(x y:Int){i:Nat}{env:En}{rs:List R}(hd:rs.map R.d=[ax ts,.int x,.int y])(ha:aY rs=[])(hi:i<env.length) :
 ∃ f,(z9 aV rs).bind (Ax i env)=.ok (.nx (env.set i (some (.val (dU (g3 ts x y)) f)))):=by
 obtain⟨f,h⟩:=AX ts x y
 rw[kj,hd,h,fU,iG]
 cases f with
 |true=>
  rw[b0 rs (rfl:(dU (g3 ts x y)).flat=false),fU,pV hi];exact⟨true,rfl⟩
 |false=>
  rw[gs rs (rfl:(dU (g3 ts x y)).flat=false),fU,pV hi]
  refine⟨aR rs,?_⟩
  rw[iM,ha];rfl
theorem xQ (es:List Int)(hl:es.length<=1000000):iY [.lst (es.map .int)]=.ok (.fre (bD (aF es))):=by
 have h:=fun(env:En)(fr:Bool)(al:List Nat)=>db (mk:=fun d=>gN 0 d fr (cD env 1 [])) (test:=fun _=>.ok true) (elt:=cc) D.int (fun h=>.val (.tup [.int h,.bl true]) true []) es fun c hc=>⟨_,rfl,rfl,by
  show cc [some (.val (.int c) fr)]=_
  simp_arith[cc]⟩
 have hc:∀ env fr al,gQ 1 [] (gN 0) (fun _=>.ok true) cc env ⟨es.map .int,fr,al⟩=.ok (.new (es.map fun h=>.tup [.int h,.bl true]) true):=fun env fr al=>by
  rw[fH (by rw[List.length_map];exact hl) (h env fr al),fP,e_,fG (bH _ _ fun c=>rfl)]
 have hx:∀ env:En,bp 1 [] (ad 0) (gN 0) (fun _=>.ok true) cc [some (.val (.lst (es.map .int)) false)]=dv 1 [] (gc (ad 0)) (gN 0) (fun _=>.ok true) cc [some (.val (.lst (es.map .int)) false)]:=fun env=>AE (ds:=es.map .int) (fr:=false) (al:=[]) (by simp_arith)
 have hd2:∀ f,jm [.new (es.map fun h=>.tup [.int h,.bl true]) f]=.ok (.fre (bD (aF es))):=fun f=>by
  rw[Aw (xs:=es) rfl]
 simp_arith[iY,sh,hx [],hc,hd2]
theorem AY (n:Int)(ts:List Tri)(es:List Int)(h:ts.length<=1000):b5 [Mc n ts es]=.ok (.val (ax ts) true [1]):=by
 have hg:∀(env:En) f,env.length=5->xC 1 2 3 4 env (.val (.lst (ts.map tD)) f [])=.ok (.nx ((((env.set 2 none).set 3 none).set 4 none).set 1 (some (.tre (ax ts))))):=fun env f he=>by
  unfold xC
  show(match eS (ts.map tD) with|some ts=>if _ then _ else _|none=>_)=_
  have:eS (ts.map tD)=some ts:=nK ts
  rw[this]
  dsimp only
  rw[if_pos ⟨h,by simp[R.al],by decide,by decide,by decide,by decide,by decide,by decide,by omega,by omega,by omega⟩]
  rfl
 unfold Mc
 simp_arith[b5,gS,hg,aL]
end W
namespace W
open PySem L2 L3
theorem i7 {n:Int}{ts:List Tri}(gd:Good n ts)(x y:Int){i:Nat}{env:En}{fs:En->Res (List R)}{rs:List R}(h1:fs env=.ok rs)(hd:rs.map R.d=[ax ts,.int x,.int y])(ha:aY rs=[])(hi:i<env.length) :
 ∃ f,cu i (aO aV fs) env=.ok (.nx (env.set i (some (.val (bD (g3 ts x y)) f)))):=by
 obtain⟨f,h⟩:=CB ts x y (env:=env) hd ha hi
 refine⟨f,?_⟩
 rw[Ay,o7,h1,fU,h,qA gd]
theorem HM {i j:Nat}{env:En}{a b:D}{fr:Bool}(hi:i<env.length)(hj:j<env.length):gT 2 (bb (gN i) (bb (gN j) gb)) (.tup [a,b]) fr env=some ((env.set i (some (.val a fr))).set j (some (.val b fr))):=by
 show(bb (gN i) (bb (gN j) gb)) [a,b] fr env=_
 rw[wn,iI hi]
 show(bb (gN j) gb) [b] fr _=_
 rw[wn,iI (by rw[List.length_set];exact hj)]
 rfl
theorem AZ (es:List Int)(x:Int):decide (x∈aF es)=decide (x∈es):=by
 rw[Bool.eq_iff_iff,decide_eq_true_iff,decide_eq_true_iff]
 unfold aF;rw[iD];simp
theorem nR (ks:List Int)(x:Int):iP false (.int x) (bD ks)=.ok (.val (.bl (decide (x∈ks))) true []):=by rw[Da];rfl
theorem mC (ks:List Int)(x:Int):iP true (.int x) (bD ks)=.ok (.val (.bl (!decide (x∈ks))) true []):=by rw[Da];rfl
theorem xR {c0 c1 c2 c3 e4:Option Sl}(ks ls:List Int)(f5 f6:Bool)(hl:ks.length<=1000000) :
 bp 1 [6] (ad 5) (gN 0) (fun _=>.ok true) bR [c0,c1,c2,c3,e4,some (.val (bD ks) f5),some (.val (bD ls) f6)]=.ok (.new (ks.map fun t=>.bl (decide (t∈ls))) true):=by
 have hc:=db (mk:=fun d=>gN 0 d true (cD [c0,c1,c2,c3,e4,some (.val (bD ks) f5),some (.val (bD ls) f6)] 1 [6])) (test:=fun _=>.ok true) (elt:=bR) D.int (fun t=>.val (.bl (decide (t∈ls))) true []) ks fun t ht=>⟨_,rfl,rfl,by
  show bR [some (.val (.int t) true),some (.val (bD ls) f6)]=_
  simp_arith[bR,aX,hV,nR]⟩
 have e1:ad 5 [c0,c1,c2,c3,e4,some (.val (bD ks) f5),some (.val (bD ls) f6)]=.ok (.val (.dic (ks.map ik) (ks.map fun _=>.bl true)) f5 []):=by
  simp_arith[aX];rfl
 rw[me e1]
 have hz:=mf (fr:=f5) hl hc (by rw[fP];exact bH _ _ fun _=>rfl)
 rw[fP]at hz
 exact hz
theorem xS {n:Int}{ts:List Tri}(gd:Good n ts)(q s k:Int)(ends:D)(f fe e4f:Bool)(e6:Option Sl)(hfe:ends.flat=false) :
 (((g3 ts s k).all fun t=>decide (t∈g3 ts q k))=false/\aK [some (.val (ax ts) false),some (.val ends fe),some (.val (.int q) false),some (.val (.int s) false),some (.val (.int k) f),some (.val (bD (g3 ts s k)) f),e6]=.ok (.rt (.val (.bl false) true [])))\/
 (((g3 ts s k).all fun t=>decide (t∈g3 ts q k))=true/\∃ f6,aK [some (.val (ax ts) false),some (.val ends fe),some (.val (.int q) false),some (.val (.int s) false),some (.val (.int k) f),some (.val (bD (g3 ts s k)) f),e6]=.ok (.nx [some (.val (ax ts) false),some (.val ends fe),some (.val (.int q) false),some (.val (.int s) false),some (.val (.int k) f),some (.val (bD (g3 ts s k)) f),some (.val (bD (g3 ts q k)) f6)])):=by
 obtain⟨f6,hs⟩:=i7 gd q k (i:=6) (env:=[some (.val (ax ts) false),some (.val ends fe),some (.val (.int q) false),some (.val (.int s) false),some (.val (.int k) f),some (.val (bD (g3 ts s k)) f),e6]) (fs:=ac (ad 0) (ac (ad 2) (ac (ad 4) ar))) (rs:=[.val (ax ts) false [],.val (.int q) true [],.val (.int k) true []]) (by simp_arith[aL]) rfl rfl (by simp)
 have hs:cu 6 (aO aV (ac (ad 0) (ac (ad 2) (ac (ad 4) ar)))) [some (.val (ax ts) false),some (.val ends fe),some (.val (.int q) false),some (.val (.int s) false),some (.val (.int k) f),some (.val (bD (g3 ts s k)) f),e6]=.ok (.nx [some (.val (ax ts) false),some (.val ends fe),some (.val (.int q) false),some (.val (.int s) false),some (.val (.int k) f),some (.val (bD (g3 ts s k)) f),some (.val (bD (g3 ts q k)) f6)]):=hs
 have hgl:=lw ts s k
 have hc:=xR (c0:=some (.val (ax ts) false)) (c1:=some (.val ends fe)) (c2:=some (.val (.int q) false)) (c3:=some (.val (.int s) false)) (e4:=some (.val (.int k) f)) (g3 ts s k) (g3 ts q k) f f6 (by have:=gd.len;omega)
 cases hb:(g3 ts s k).all fun t=>decide (t∈g3 ts q k) with
 |false=>
  left
  refine⟨rfl,?_⟩
  unfold aK
  rw[iF,hs]
  simp_arith[hc,nG,rY,hb]
 |true=>
  right
  refine⟨rfl,f6,?_⟩
  unfold aK
  rw[iF,hs]
  simp_arith[hc,nG,rY,hb]
theorem vY {n:Int}{ts:List Tri}{es:List Int}(gd:Good n ts)(q s:Int):aW [ax ts,bD (aF es),.int q,.int s]=.ok (.val (.bl (bm ts es q [] s)) true []):=by
 have hkept:((g2 ts s).find? fun k=>!((g3 ts s k).all fun t=>decide (t∈g3 ts q k))).isNone=(ts.find? fun t=>decide (t.1=s)&&!decide ((q,t.2.1,t.2.2)∈ts)).isNone:=by
  rw[Bool.eq_iff_iff,Option.isNone_iff_eq_none,Option.isNone_iff_eq_none,List.find?_eq_none,List.find?_eq_none]
  constructor
  ·intro h t ht
   obtain⟨a,b,c⟩:=t
   simp only[Bool.and_eq_true,decide_eq_true_eq,Bool.not_eq_true',decide_eq_false_iff_not,not_and,Classical.not_not]
   rintro rfl
   have:=h b ((jo ts a b).mpr ⟨(a,b,c),ht,rfl,rfl⟩)
   simp only[Bool.not_eq_true',Bool.not_eq_false,List.all_eq_true,decide_eq_true_eq]at this
   exact(eG ts q b c).mp (this c ((eG ts a b c).mpr ht))
  ·intro h k hk
   simp only[Bool.not_eq_true',Bool.not_eq_false,List.all_eq_true,decide_eq_true_eq]
   intro c hc
   have:=h (s,k,c) ((eG ts s k c).mp hc)
   simp only[Bool.and_eq_true,decide_eq_true_eq,Bool.not_eq_true',decide_eq_false_iff_not,not_and,Classical.not_not,true_implies]at this
   exact(eG ts q k c).mpr this
 obtain⟨fr,hrow⟩:=AW ts s (.val (ax ts) false []) (.val (.int s) true []) (.fre (.dic [] [])) rfl rfl rfl
 have k1:∀ fk fx env,C3 fk fx env (.val (ax ts) false [])=(fk env).bind (Fy fx env (.val (ax ts) false []) ((g1 ts).map ik) ((g1 ts).map (js ts))):=fun fk fx env=>At rfl
 have kf:∀(env:En),rT (gT 2 (bb (gN 4) (bb (gN 5) gb))) aK env (.val (js ts s) fr [])=d8 (bY (gT 2 (bb (gN 4) (bb (gN 5) gb))) fr aK ((g2 ts s).map fun k=>.tup [.int k,dU (g3 ts s k)]) env):=fun env=>Cp
 obtain⟨f1,f2⟩:=dg (asg:=gT 2 (bb (gN 4) (bb (gN 5) gb))) (fr:=fr) (body:=aK) (fun k:Int=>D.tup [.int k,dU (g3 ts s k)]) (fun env=>∃ e4 e5 e6,env=[some (.val (ax ts) false),some (.val (bD (aF es)) false),some (.val (.int q) false),some (.val (.int s) false),e4,e5,e6])
  (fun k=>!((g3 ts s k).all fun t=>decide (t∈g3 ts q k))) (fun _=>.val (.bl false) true []) (g2 ts s) [some (.val (ax ts) false),some (.val (bD (aF es)) false),some (.val (.int q) false),some (.val (.int s) false),none,none,none] ⟨none,none,none,rfl⟩ (fun k hk env hE=>by
    obtain⟨e4,e5,e6,rfl⟩:=hE
    refine⟨_,HM (by simp) (by simp),?_⟩
    show(_/\aK [some (.val (ax ts) false),some (.val (bD (aF es)) false),some (.val (.int q) false),some (.val (.int s) false),some (.val (.int k) fr),some (.val (dU (g3 ts s k)) fr),e6]=_)\/(_/\∃ env2,aK [some (.val (ax ts) false),some (.val (bD (aF es)) false),some (.val (.int q) false),some (.val (.int s) false),some (.val (.int k) fr),some (.val (dU (g3 ts s k)) fr),e6]=_/\_)
    rw[qA gd]
    rcases xS gd q s k (bD (aF es)) fr false true e6 rfl with⟨h1,h2⟩|⟨h1,f6,h2⟩
    ·left;exact⟨by rw[h1];rfl,h2⟩
    ·right;exact⟨by rw[h1];rfl,_,h2,_,_,_,rfl⟩)
 unfold bm
 dsimp only
 rw[<- hkept]
 have hin:=AZ es
 by_cases c1:s∈es
 ·have d1:decide (s∈aF es)=true:=by rw[hin];exact decide_eq_true c1
  by_cases c2:q∈es
  ·have d2:decide (q∈aF es)=true:=by rw[hin];exact decide_eq_true c2
   cases hq:(g2 ts s).find? (fun k=>!((g3 ts s k).all fun t=>decide (t∈g3 ts q k))) with
   |some k=>
    simp_arith[aW,bW,aX,hV,nR,d1,bM,mC,d2,aL,gu,k1,jO,hrow,kf,f1 k hq,sd]
    simp
   |none=>
    obtain⟨aB,g1',e4,e5,e6,rfl⟩:=f2 hq
    simp_arith[aW,bW,aX,hV,nR,d1,bM,mC,d2,aL,gu,k1,jO,hrow,kf,g1',r_]
    simp[c1,c2]
  ·have d2:decide (q∈aF es)=false:=by rw[hin];exact decide_eq_false c2
   simp_arith[aW,bW,aX,hV,nR,d1,bM,mC,d2]
   simp[c1,c2]
 ·have d1:decide (s∈aF es)=false:=by rw[hin];exact decide_eq_false c1
  cases hq:(g2 ts s).find? (fun k=>!((g3 ts s k).all fun t=>decide (t∈g3 ts q k))) with
  |some k=>
   simp_arith[aW,bW,aX,hV,nR,d1,aL,gu,k1,jO,hrow,kf,f1 k hq,sd]
   simp
  |none=>
   obtain⟨aB,g1',e4,e5,e6,rfl⟩:=f2 hq
   simp_arith[aW,bW,aX,hV,nR,d1,aL,gu,k1,jO,hrow,kf,g1',r_]
   simp[c1]
end W
namespace W
open PySem L2 L3
theorem CC (asg:D->Bool->En->Option En)(fr:Bool)(body:En->Res Fl)(xs:List D)(e:En):wd asg fr body xs (.bk e)=.ok (.nx e):=(rfl)
theorem CD {c0 c1 c2 c3 e5:Option Sl}(left ls:List Int)(f6:Bool)(hl:left.length<=1000000) :
 gQ 1 [6] (gN 0) gF gG [c0,c1,c2,c3,some (.own (left.map .int) true),e5,some (.val (bD ls) f6)] ⟨left.map .int,true,[4]⟩=.ok (.new ((left.filter fun s=>!decide (s∈ls)).map .int) true):=by
 have h:=bV (mk:=fun d=>gN 0 d true (cD [c0,c1,c2,c3,some (.own (left.map .int) true),e5,some (.val (bD ls) f6)] 1 [6])) (test:=gF) (elt:=gG)
  D.int (fun s=>!decide (s∈ls)) (fun s=>.val (.int s) true []) left fun s hs=>⟨[some (.val (.int s) true),some (.val (bD ls) f6)],rfl,by
   simp_arith[gF,aX,bM,mC],fun _=>by simp_arith[gG]⟩
 rw[fH (by rw[List.length_map];exact hl) h,fP,e_,fG (aq _)]
theorem wD {n:Int}{ts:List Tri}(gd:Good n ts){b c:Int}{c1 c3:Option Sl}{fr:Bool}:∀(ms left:List Int)(e5 e6:Option Sl),left.length<=1000->
 ∃ e5' e6',bY (gN 5) fr cj (ms.map .int) [some (.val (ax ts) false),c1,some (.val (.tup [.int b,.int c]) false),c3,some (.own (left.map .int) true),e5,e6]=.ok (.nx [some (.val (ax ts) false),c1,some (.val (.tup [.int b,.int c]) false),c3,some (.own ((left.filter fun s=>ms.all fun m=>!decide (s∈g3 ts m c)).map .int) true),e5',e6'])
 | [],left,e5,e6,_=>⟨e5,e6,by
  have hf:(left.filter fun s=>([]:List Int).all fun m=>!decide (s∈g3 ts m c))=left:=List.filter_eq_self.mpr fun _ _=>rfl
  rw[hf];rfl⟩
 |m::ms,left,e5,e6,h=>by
  obtain⟨f6,hs⟩:=i7 gd m c (i:=6) (env:=[some (.val (ax ts) false),c1,some (.val (.tup [.int b,.int c]) false),c3,some (.own (left.map .int) true),some (.val (.int m) fr),e6]) (fs:=ac (ad 0) (ac (ad 5) (ac (aN 2 (vC (.int 1))) ar))) (rs:=[.val (ax ts) false [],.val (.int m) true [],.val (.int c) true []]) (by simp_arith[aL]) rfl rfl (by simp)
  have hs:cu 6 (aO aV (ac (ad 0) (ac (ad 5) (ac (aN 2 (vC (.int 1))) ar)))) [some (.val (ax ts) false),c1,some (.val (.tup [.int b,.int c]) false),c3,some (.own (left.map .int) true),some (.val (.int m) fr),e6]=.ok (.nx [some (.val (ax ts) false),c1,some (.val (.tup [.int b,.int c]) false),c3,some (.own (left.map .int) true),some (.val (.int m) fr),some (.val (bD (g3 ts m c)) f6)]):=hs
  have hc:=CD (c0:=some (.val (ax ts) false)) (c1:=c1) (c2:=some (.val (.tup [.int b,.int c]) false)) (c3:=c3) (e5:=some (.val (.int m) fr)) left (g3 ts m c) f6 (by omega)
  have hff:(left.filter fun s=>(m::ms).all fun m=>!decide (s∈g3 ts m c))=(left.filter fun s=>!decide (s∈g3 ts m c)).filter fun s=>ms.all fun m=>!decide (s∈g3 ts m c):=by
   rw[List.filter_filter]
   refine List.filter_congr fun s _=>?_
   rw[List.all_cons,Bool.and_comm]
  rw[hff,List.map_cons,hJ (iI (by simp))]
  generalize hL:(left.filter fun s=>!decide (s∈g3 ts m c))=L at hc
  have hlL:L.length<=1000:=by rw[<- hL];exact Nat.le_trans (List.length_filter_le _ _) h
  cases L with
  |nil=>
   refine⟨some (.val (.int m) fr),some (.val (bD (g3 ts m c)) f6),?_⟩
   have eb:cj [some (.val (ax ts) false),c1,some (.val (.tup [.int b,.int c]) false),c3,some (.own (left.map .int) true),some (.val (.int m) fr),e6]=.ok (.bk [some (.val (ax ts) false),c1,some (.val (.tup [.int b,.int c]) false),c3,some (.own [] true),some (.val (.int m) fr),some (.val (bD (g3 ts m c)) f6)]):=by
    have hem:([]:List D).isEmpty=true:=rfl
    unfold cj
    rw[iF,hs]
    simp_arith[hc,hem]
   show(cj [some (.val (ax ts) false),c1,some (.val (.tup [.int b,.int c]) false),c3,some (.own (left.map .int) true),some (.val (.int m) fr),e6]).bind _=_
   rw[eb,fU,CC];rfl
  |cons l0 L0=>
   obtain⟨e5',e6',ih⟩:=wD gd (b:=b) (c:=c) (c1:=c1) (c3:=c3) (fr:=fr) ms (l0::L0) (some (.val (.int m) fr)) (some (.val (bD (g3 ts m c)) f6)) hlL
   refine⟨e5',e6',?_⟩
   have eb:cj [some (.val (ax ts) false),c1,some (.val (.tup [.int b,.int c]) false),c3,some (.own (left.map .int) true),some (.val (.int m) fr),e6]=.ok (.nx [some (.val (ax ts) false),c1,some (.val (.tup [.int b,.int c]) false),c3,some (.own ((l0::L0).map .int) true),some (.val (.int m) fr),some (.val (bD (g3 ts m c)) f6)]):=by
    have hem:(D.int l0::L0.map D.int).isEmpty=false:=rfl
    unfold cj
    rw[iF,hs]
    simp_arith[hc,hem]
   show(cj [some (.val (ax ts) false),c1,some (.val (.tup [.int b,.int c]) false),c3,some (.own (left.map .int) true),some (.val (.int m) fr),e6]).bind _=_
   rw[eb,fU,cH,ih]
theorem A0 {n:Int}{ts:List Tri}(gd:Good n ts)(q b c:Int)(ks:List Int)(hk:ks.length<=1000) :
 gH [ax ts,.int q,.tup [.int b,.int c],bD ks]=.ok (.val (.lst ((ks.filter fun s=>(g3 ts q b).reverse.all fun m=>!decide (s∈g3 ts m c)).map .int)) true [4]):=by
 obtain⟨f,hl⟩:=AX ts q b
 rw[qA gd]at hl
 have hgl:=lw ts q b
 have hgd:=gd.len
 have bc:(g3 ts q b).length<=1000000:=by omega
 have hlen2:ks.length<=1000000:=by omega
 obtain⟨e5',e6',hloop⟩:=wD gd (b:=b) (c:=c) (c1:=some (.val (.int q) false)) (c3:=some (.val (bD ks) false)) (fr:=true) (g3 ts q b).reverse ks none none hk
 rw[List.map_reverse]at hloop
 have krev:∀(ds:List D),zy [.new ds true]=.ok ⟨ds.reverse,true,[]⟩:=fun ds=>rfl
 cases f with
 |true=>simp_arith[gH,qp,aX,aL,hl,b0,r8,bc,hlen2,krev,l9,hloop,aq]
 |false=>simp_arith[gH,qp,aX,aL,hl,gs,r8,bc,hlen2,krev,l9,hloop,aq]
end W
namespace W
open PySem L2 L3
def pk (p:Int×Int):DK:=.inr [.inl p.1,.inl p.2]
theorem A1 {p u:Int×Int}(h:pk p=pk u):p=u:=by
 obtain⟨a,b⟩:=p
 obtain⟨d,e⟩:=u
 have h:=Sum.inr.inj h
 simp only[List.cons.injEq,Sum.inl.injEq,and_true]at h
 simp only[Prod.mk.injEq]
 exact h
theorem Fr (a b:Int):keyX (.tup [.int a,.int b])=some (pk (a,b)):=(rfl)
theorem vn (ps:List (Int×Int))(p:Int×Int):(ps.map pk).all (kin (pk p))=true:=by
 rw[List.all_map,List.all_eq_true];intro x _;rfl
theorem A2 (ps:List (Int×Int))(p:Int×Int):fD (ps.map pk) (pk p)=decide (p∈ps):=by
 unfold fD
 rw[List.any_map,Bool.eq_iff_iff,List.any_eq_true,decide_eq_true_iff]
 constructor
 ·rintro⟨u,h1,h2⟩
  have h2:pk u=pk p:=of_decide_eq_true h2
  exact A1 h2▸h1
 ·intro h
  exact⟨p,h,decide_eq_true rfl⟩
theorem A3 (g:Int×Int->D)(p:Int×Int):∀ ps:List (Int×Int),p∈ps->L3.getD (ps.map pk) (ps.map g) (pk p)=some (g p)
 | [],h=>by cases h
 |u::r,h=>by
  rw[List.map_cons,List.map_cons]
  unfold L3.getD
  by_cases e:pk u=pk p
  ·rw[if_pos e,A1 e]
  ·rw[if_neg e]
   rcases List.mem_cons.mp h with rfl|h
   ·exact(e rfl).elim
   ·exact A3 g p r h
def c9 (ts:List Tri)(es:List Int)(ps:List (Int×Int)):D:=.dic (ps.map pk) (ps.map fun p=>.bl (bm ts es p.1 [] p.2))
theorem CF {ts:List Tri}{es:List Int}{ps:List (Int×Int)}{p:Int×Int}(h:p∉ps):cT (ps.map pk) (ps.map fun p=>D.bl (bm ts es p.1 [] p.2)) (pk p) (.bl (bm ts es p.1 [] p.2))=c9 ts es (ps++[p]):=by
 unfold cT;rw[A2,if_neg (by rw[decide_eq_false h];simp)]
 unfold c9;rw[List.map_append,List.map_append];rfl
theorem nS (ts:List Tri)(es:List Int)(ps:List (Int×Int))(a b:Int):iP true (.tup [.int a,.int b]) (c9 ts es ps)=.ok (.val (.bl (!decide ((a,b)∈ps))) true []):=by
 unfold c9;rw[wg (Fr a b) (vn ps (a,b)),A2];rfl
theorem ib {n:Int}{ts:List Tri}{es:List Int}(gd:Good n ts)(q:Int){c2 e5 e6 e7:Option Sl}:∀(ss:List Int)(ps:List (Int×Int))(e8:Option Sl),ps.length+ss.length<=100000->
 ∃ ps' e8',(∀ p∈ps,p∈ps')/\(∀ s∈ss,(q,s)∈ps')/\ps'.length<=ps.length+ss.length/\
  dL (gN 8) aG (ss.map .int) [some (.val (ax ts) false),some (.val (bD (aF es)) false),c2,some (.pin (c9 ts es ps)),some (.val (.int q) true),e5,e6,e7,e8]=.ok (.nx [some (.val (ax ts) false),some (.val (bD (aF es)) false),c2,some (.pin (c9 ts es ps')),some (.val (.int q) true),e5,e6,e7,e8'])
 | [],ps,e8,_=>⟨ps,e8,fun _ z=>z,fun _ z=>(by cases z),by simp,rfl⟩
 |s::ss,ps,e8,h=>by
  by_cases hm:(q,s)∈ps
  ·obtain⟨ps',e8',i1,i2,i3,i4⟩:=ib gd q (es:=es) (c2:=c2) (e5:=e5) (e6:=e6) (e7:=e7) ss ps (some (.val (.int s) true)) (by simp at h;omega)
   refine⟨ps',e8',i1,fun x hx=>?_,by simp;omega,?_⟩
   ·rcases List.mem_cons.mp hx with rfl|hx
    ·exact i1 _ hm
    ·exact i2 x hx
   ·have eb:aG [some (.val (ax ts) false),some (.val (bD (aF es)) false),c2,some (.pin (c9 ts es ps)),some (.val (.int q) true),e5,e6,e7,some (.val (.int s) true)]=.ok (.nx [some (.val (ax ts) false),some (.val (bD (aF es)) false),c2,some (.pin (c9 ts es ps)),some (.val (.int q) true),e5,e6,e7,some (.val (.int s) true)]):=by
     simp_arith[aG,bM,nS,hm]
    rw[List.map_cons]
    unfold dL
    rw[iI (by simp)]
    dsimp only
    show(match aG [some (.val (ax ts) false),some (.val (bD (aF es)) false),c2,some (.pin (c9 ts es ps)),some (.val (.int q) true),e5,e6,e7,some (.val (.int s) true)] with|.ok (.nx aB)=>dL (gN 8) aG (ss.map .int) aB|.ok (.ct aB)=>dL (gN 8) aG (ss.map .int) aB|.ok (.bk aB)=>.ok (.nx aB)|_=>.stuck)=_
    rw[eb];exact i4
  ·obtain⟨ps',e8',i1,i2,i3,i4⟩:=ib gd q (es:=es) (c2:=c2) (e5:=e5) (e6:=e6) (e7:=e7) ss (ps++[(q,s)]) (some (.val (.int s) true)) (by simp at h ⊢;omega)
   refine⟨ps',e8',fun p hp=>i1 p (by simp[hp]),fun x hx=>?_,by simp at i3 ⊢;omega,?_⟩
   ·rcases List.mem_cons.mp hx with rfl|hx
    ·exact i1 _ (by simp)
    ·exact i2 x hx
   ·have bc:(ps.map pk).length<1000000:=by rw[List.length_map];simp at h;omega
    have hg:=vY (es:=es) gd q s
    have hput:∀ env:En,lj 3 env (ps.map pk) (ps.map fun p=>D.bl (bm ts es p.1 [] p.2)) (.bl (bm ts es q [] s)) (.val (.tup [.int q,.int s]) true [])=.ok (.nx (env.set 3 (some (.pin (c9 ts es (ps++[(q,s)])))))):=fun env=>by
     rw[AH (x:=pk (q,s)) rfl (vn ps (q,s)) bc,CF hm]
    have eb:aG [some (.val (ax ts) false),some (.val (bD (aF es)) false),c2,some (.pin (c9 ts es ps)),some (.val (.int q) true),e5,e6,e7,some (.val (.int s) true)]=.ok (.nx [some (.val (ax ts) false),some (.val (bD (aF es)) false),c2,some (.pin (c9 ts es (ps++[(q,s)]))),some (.val (.int q) true),e5,e6,e7,some (.val (.int s) true)]):=by
     have hx:fE 3 (dJ (ac (ad 4) (ac (ad 8) ar))) (aO aW (ac (ad 0) (ac (ad 1) (ac (ad 4) (ac (ad 8) ar))))) [some (.val (ax ts) false),some (.val (bD (aF es)) false),c2,some (.pin (c9 ts es ps)),some (.val (.int q) true),e5,e6,e7,some (.val (.int s) true)] (some (some (.pin (c9 ts es ps))))=.ok (.nx [some (.val (ax ts) false),some (.val (bD (aF es)) false),c2,some (.pin (c9 ts es (ps++[(q,s)]))),some (.val (.int q) true),e5,e6,e7,some (.val (.int s) true)]):=by
      show fE 3 _ _ [some (.val (ax ts) false),some (.val (bD (aF es)) false),c2,some (.pin (.dic (ps.map pk) (ps.map fun p=>D.bl (bm ts es p.1 [] p.2)))),some (.val (.int q) true),e5,e6,e7,some (.val (.int s) true)] (some (some (.pin (.dic (ps.map pk) (ps.map fun p=>D.bl (bm ts es p.1 [] p.2))))))=_
      simp_arith[aL,aX,hg,hput]
     simp_arith[aG,bM,nS,hm,hx]
    rw[List.map_cons]
    unfold dL
    rw[iI (by simp)]
    dsimp only
    show(match aG [some (.val (ax ts) false),some (.val (bD (aF es)) false),c2,some (.pin (c9 ts es ps)),some (.val (.int q) true),e5,e6,e7,some (.val (.int s) true)] with|.ok (.nx aB)=>dL (gN 8) aG (ss.map .int) aB|.ok (.ct aB)=>dL (gN 8) aG (ss.map .int) aB|.ok (.bk aB)=>.ok (.nx aB)|_=>.stuck)=_
    rw[eb];exact i4
end W
namespace W
open PySem L2 L3
theorem A4 {c0 c1 c2 c3 e4 e5 e8:Option Sl}(ks ls:List Int)(f6 f7:Bool)(hl:ks.length<=1000000) :
 bp 1 [7] (ad 6) (gN 0) cN cO [c0,c1,c2,c3,e4,e5,some (.val (bD ks) f6),some (.val (bD ls) f7),e8]=.ok (.new ((ks.filter fun s=>!decide (s∈ls)).map .int) true):=by
 have hc:=bV (mk:=fun d=>gN 0 d true (cD [c0,c1,c2,c3,e4,e5,some (.val (bD ks) f6),some (.val (bD ls) f7),e8] 1 [7])) (test:=cN) (elt:=cO) D.int (fun s=>!decide (s∈ls)) (fun t=>.val (.int t) true []) ks fun t ht=>⟨[some (.val (.int t) true),some (.val (bD ls) f7)],rfl,by
  simp_arith[cN,aX,bM,mC],fun _=>by simp_arith[cO]⟩
 have e1:ad 6 [c0,c1,c2,c3,e4,e5,some (.val (bD ks) f6),some (.val (bD ls) f7),e8]=.ok (.val (.dic (ks.map ik) (ks.map fun _=>.bl true)) f6 []):=by
  simp_arith[aX];rfl
 rw[me e1]
 have hz:=mf (fr:=f6) hl hc (by rw[fP];exact aq _)
 rw[fP]at hz
 exact hz
theorem A5 {c0 c1 c2 e5 e7 e8:Option Sl}{ts:List Tri}{es:List Int}{q:Int}(ps:List (Int×Int))(ks:List Int)(f6 f4:Bool)(hl:ks.length<=1000000)(hk:∀ s∈ks,(q,s)∈ps) :
 bp 1 [3,4] (ad 6) (gN 0) cm cn [c0,c1,c2,some (.pin (c9 ts es ps)),some (.val (.int q) f4),e5,some (.val (bD ks) f6),e7,e8]=.ok (.new ((ks.filter fun s=>!bm ts es q [] s).map .int) true):=by
 have hc:=bV (mk:=fun d=>gN 0 d true (cD [c0,c1,c2,some (.pin (c9 ts es ps)),some (.val (.int q) f4),e5,some (.val (bD ks) f6),e7,e8] 1 [3,4])) (test:=cm) (elt:=cn) D.int (fun s=>!bm ts es q [] s) (fun t=>.val (.int t) true []) ks fun t ht=>⟨[some (.val (.int t) true),some (.val (c9 ts es ps) true),some (.val (.int q) f4)],rfl,by
  have hg:∀ f al g bl,gO (.val (.dic (ps.map pk) (ps.map fun p=>D.bl (bm ts es p.1 [] p.2))) f al) (.val (.tup [.int q,.int t]) g bl)=.ok (.val (.bl (bm ts es q [] t)) true []):=fun f al g bl=>by
   rw[Fd (x:=pk (q,t)) (d:=.bl (bm ts es q [] t)) rfl rfl (vn ps (q,t)) (A3 (fun p=>D.bl (bm ts es p.1 [] p.2)) (q,t) ps (hk t ht))]
   rfl
  have hfl:(D.dic (ps.map pk) (ps.map fun p=>D.bl (bm ts es p.1 [] p.2))).flat=false:=rfl
  show cm [some (.val (.int t) true),some (.val (.dic (ps.map pk) (ps.map fun p=>D.bl (bm ts es p.1 [] p.2))) true),some (.val (.int q) f4)]=_
  simp_arith[cm,hfl,hg],fun _=>by
  show cn [some (.val (.int t) true),some (.val (c9 ts es ps) true),some (.val (.int q) f4)]=_
  simp_arith[cn]⟩
 have e1:ad 6 [c0,c1,c2,some (.pin (c9 ts es ps)),some (.val (.int q) f4),e5,some (.val (bD ks) f6),e7,e8]=.ok (.val (.dic (ks.map ik) (ks.map fun _=>.bl true)) f6 []):=by
  simp_arith[aX];rfl
 rw[me e1]
 have hz:=mf (fr:=f6) hl hc (by rw[fP];exact aq _)
 rw[fP]at hz
 exact hz
def qB (ts:List Tri)(es:List Int)(r:Rl):List Int:=(g3 ts r.room r.sign).filter fun s=>!bm ts es r.to r.put s
theorem vo {n:Int}{ts:List Tri}{es:List Int}(gd:Good n ts)(r:Rl)(hp:r.put.length<=2)(ps:List (Int×Int))(hps:ps.length<=50000) :
 ∃ ps',ps'.length<=ps.length+200/\gI [ax ts,bD (aF es),r.d] (c9 ts es ps)=.ok ((qB ts es r).map .int,c9 ts es ps'):=by
 obtain⟨p,a,q,put⟩:=r
 have hgl:=lw ts p a
 have hgd:=gd.len
 have hst:∀ d:D,fF ck [ax ts,bD (aF es),d] (c9 ts es ps)=[some (.val (ax ts) false),some (.val (bD (aF es)) false),some (.val d false),some (.pin (c9 ts es ps)),none,none,none,none,none]:=fun d=>rfl
 have first:∀ aQ:En->Res Fl,∃ f6,(ay (bo 4 (aN 2 (vC (.int 2)))) (ay (bo 5 (aN 2 (vC (.int 3)))) (ay (cu 6 (aO aV (ac (ad 0) (ac (aN 2 (vC (.int 0))) (ac (aN 2 (vC (.int 1))) ar))))) aQ))) [some (.val (ax ts) false),some (.val (bD (aF es)) false),some (.val (Rl.d ⟨p,a,q,put⟩) false),some (.pin (c9 ts es ps)),none,none,none,none,none] =
  aQ [some (.val (ax ts) false),some (.val (bD (aF es)) false),some (.val (Rl.d ⟨p,a,q,put⟩) false),some (.pin (c9 ts es ps)),some (.val (.int q) true),some (.val (.tup (put.map .int)) true),some (.val (bD (g3 ts p a)) f6),none,none]:=by
  intro aQ
  obtain⟨f6,hs⟩:=i7 gd p a (i:=6) (env:=[some (.val (ax ts) false),some (.val (bD (aF es)) false),some (.val (.tup [.int p,.int a,.int q,.tup (put.map .int)]) false),some (.pin (c9 ts es ps)),some (.val (.int q) true),some (.val (.tup (put.map .int)) true),none,none,none]) (fs:=ac (ad 0) (ac (aN 2 (vC (.int 0))) (ac (aN 2 (vC (.int 1))) ar))) (rs:=[.val (ax ts) false [],.val (.int p) true [],.val (.int a) true []]) (by simp_arith[aL,aq]) rfl rfl (by simp)
  have hs:cu 6 (aO aV (ac (ad 0) (ac (aN 2 (vC (.int 0))) (ac (aN 2 (vC (.int 1))) ar)))) [some (.val (ax ts) false),some (.val (bD (aF es)) false),some (.val (.tup [.int p,.int a,.int q,.tup (put.map .int)]) false),some (.pin (c9 ts es ps)),some (.val (.int q) true),some (.val (.tup (put.map .int)) true),none,none,none]=.ok (.nx [some (.val (ax ts) false),some (.val (bD (aF es)) false),some (.val (.tup [.int p,.int a,.int q,.tup (put.map .int)]) false),some (.pin (c9 ts es ps)),some (.val (.int q) true),some (.val (.tup (put.map .int)) true),some (.val (bD (g3 ts p a)) f6),none,none]):=hs
  refine⟨f6,?_⟩
  unfold Rl.d
  dsimp only
  simp only[d7,fC,Ag,ut,uu,u5,pU,E_,AA,u6,pW,pX,pZ,l_,AB,u7,Fc,u8,u9,u_,p_,vc,kq,mh,mi,qf,qg,zV,qh,decide_true,decide_false,List.map_cons,List.map_nil,List.length_cons,List.length_nil,List.replicate,List.cons_append,List.nil_append,List.append_nil,Nat.reduceAdd,Nat.max_self,Nat.zero_max,Nat.max_zero,Nat.zero_add,Nat.reduceSub,iF,zR,ET,zW,wa,zS,zT,zU,t_,ua,eV,pA,lU,lV,eY,iJ,gC,bv,gD,uO,pB,pC,gE,iL,dD,cF,Hv,fU,List.getElem?_cons_zero,List.getElem?_cons_succ,zZ,z4,zX,zY,ub,Int.reduceLT,Int.reduceLE,Int.reduceNeg,t5,t7,t8,t9,EQ,ER,List.set_cons_zero,List.set_cons_succ,Nat.reduceLT,Nat.reduceLeDiff,ES,zN,zO,zP,zQ,t4,EU,z5,oX,oY,oZ,o4,uc,o5,o6,lI,z7,ud,z8,ue,lJ,jt,lK,ju,o7,kj,iG,lL,b0,gs,lM,jv,EV,z_,ug,uh,EX,EY,ui,uj,uk,o8,ul,Ac,um,uq,Ad,Ae,ur,o9,o_,uw,ux,E3,Ah,Ai,Aj,Al,uy,uz,uA,uB,bK,Hw,Hx,Hy,pc,uC,uD,pd,pf,E4,Am,uE,uF,An,uG,ph,pp,uH,pq,Ao,uI,uJ,lN,lO,px,lP,lQ,Ap,pz,lR,lS,lT,uK,uS,uT,iN,pJ,iO,pK,Ar,pI,Res.noX_ok,we,wf,Hz,HA,HB,HC,HD,Int.reduceBEq,nG,uR,pG,pH,l7,Bool.not_not,Nat.reduceEqDiff,uL,Aq,uM,uN,dW,pD,pE,lW,lX,lY,iM,lZ,l5,cH,kn,Bool.and_true,Bool.true_and,Bool.and_false,Bool.false_and,Bool.and_self,Bool.not_true,Bool.not_false,uP,uQ,fG,oW,hV,bM,eZ,uV,uW,pM,pN,pO,uU,pL,As,uX,uY,uZ,pP,pQ,Au,u3,E8,l9,pR,u4,gu,jO,eZ,dc,aq,hs]
 have bc:(g3 ts p a).length<=1000000:=by omega
 show ∃ ps',_/\zH 3 (jz (fF ck [ax ts,bD (aF es),Rl.d ⟨p,a,q,put⟩] (c9 ts es ps)))=_
 rw[hst]
 unfold jz
 obtain⟨f6,hF⟩:=first (ay (kc (vB (v2 sG (i8 io (ac (ad 5) ar)) (vC (.int 1)))) (ay (cu 7 (aO aV (ac (ad 0) (ac (ad 4) (ac (aN 5 (vC (.int 0))) ar)))))
  (jI (bp 1 [7] (ad 6) (gN 0) cN cO))) c4)
  (ay (kc (vB (v2 sG (i8 io (ac (ad 5) ar)) (vC (.int 2)))) (jI (aO gH (ac (ad 0) (ac (ad 4) (ac (ad 5) (ac (ad 6) ar)))))) c4)
  (ay (lz (ad 6) (gN 8) aG)
  (jI (bp 1 [3,4] (ad 6) (gN 0) cm cn)))))
 rw[hF]
 clear hF first hst
 match put,hp with
 | [],_=>
  have he:(([]:List Int).map D.int)=[]:=rfl
  have l1:((((0:Nat):Int))==1)=false:=rfl
  have l2:((((0:Nat):Int))==2)=false:=rfl
  obtain⟨ps',e8',i1,i2,i3,i4⟩:=ib (es:=es) gd q (c2:=some (.val (Rl.d ⟨p,a,q,[]⟩) false)) (e5:=some (.val (.tup []) true)) (e6:=some (.val (bD (g3 ts p a)) f6)) (e7:=none) (g3 ts p a) ps none (by omega)
  have hx:∀ e8:Option Sl,lz (ad 6) (gN 8) aG [some (.val (ax ts) false),some (.val (bD (aF es)) false),some (.val (Rl.d ⟨p,a,q,[]⟩) false),some (.pin (c9 ts es ps)),some (.val (.int q) true),some (.val (.tup []) true),some (.val (bD (g3 ts p a)) f6),none,e8]=dL (gN 8) aG ((g3 ts p a).map .int) [some (.val (ax ts) false),some (.val (bD (aF es)) false),some (.val (Rl.d ⟨p,a,q,[]⟩) false),some (.pin (c9 ts es ps)),some (.val (.int q) true),some (.val (.tup []) true),some (.val (bD (g3 ts p a)) f6),none,e8]:=fun e8=>by
   rw[Cj (ks:=(g3 ts p a).map ik) (ds:=(g3 ts p a).map fun _=>.bl true) (fr:=f6) (al:=[]) (by simp_arith[aX];rfl),Cr]
  refine⟨ps',by omega,?_⟩
  have hcomp:=A5 (c0:=some (.val (ax ts) false)) (c1:=some (.val (bD (aF es)) false)) (c2:=some (.val (Rl.d ⟨p,a,q,[]⟩) false)) (e5:=some (.val (.tup []) true)) (e7:=none) (e8:=e8') (ts:=ts) (es:=es) (q:=q) ps' (g3 ts p a) f6 true bc i2
  simp_arith[he,d9,l1,l2,hx,i4,hcomp]
  exact wm (aq _) rfl
 | [b],_=>
  have he:([b].map D.int)=[.int b]:=rfl
  have l1:((((1:Nat):Int))==1)=true:=rfl
  obtain⟨f7,hs⟩:=i7 gd q b (i:=7) (env:=[some (.val (ax ts) false),some (.val (bD (aF es)) false),some (.val (Rl.d ⟨p,a,q,[b]⟩) false),some (.pin (c9 ts es ps)),some (.val (.int q) true),some (.val (.tup [.int b]) true),some (.val (bD (g3 ts p a)) f6),none,none]) (fs:=ac (ad 0) (ac (ad 4) (ac (aN 5 (vC (.int 0))) ar))) (rs:=[.val (ax ts) false [],.val (.int q) true [],.val (.int b) true []]) (by simp_arith[aL]) rfl rfl (by simp)
  have hs:cu 7 (aO aV (ac (ad 0) (ac (ad 4) (ac (aN 5 (vC (.int 0))) ar)))) [some (.val (ax ts) false),some (.val (bD (aF es)) false),some (.val (Rl.d ⟨p,a,q,[b]⟩) false),some (.pin (c9 ts es ps)),some (.val (.int q) true),some (.val (.tup [.int b]) true),some (.val (bD (g3 ts p a)) f6),none,none]=.ok (.nx [some (.val (ax ts) false),some (.val (bD (aF es)) false),some (.val (Rl.d ⟨p,a,q,[b]⟩) false),some (.pin (c9 ts es ps)),some (.val (.int q) true),some (.val (.tup [.int b]) true),some (.val (bD (g3 ts p a)) f6),some (.val (bD (g3 ts q b)) f7),none]):=hs
  have hcomp:=A4 (c0:=some (.val (ax ts) false)) (c1:=some (.val (bD (aF es)) false)) (c2:=some (.val (Rl.d ⟨p,a,q,[b]⟩) false)) (c3:=some (.pin (c9 ts es ps))) (e4:=some (.val (.int q) true)) (e5:=some (.val (.tup [.int b]) true)) (e8:=none) (g3 ts p a) (g3 ts q b) f6 f7 bc
  have hL:qB ts es ⟨p,a,q,[b]⟩=(g3 ts p a).filter fun s=>!decide (s∈g3 ts q b):=by
   unfold qB
   refine List.filter_congr fun s _=>?_
   show(!decide ((q,b,s)∈ts))=_
   congr 1
   exact decide_eq_decide.mpr (eG ts q b s).symm
  refine⟨ps,by omega,?_⟩
  rw[hL]
  simp only[d7,fC,Ag,ut,uu,u5,pU,E_,AA,u6,pW,pX,pZ,l_,AB,u7,Fc,u8,u9,u_,p_,vc,kq,mh,mi,qf,qg,zV,qh,decide_true,decide_false,List.map_cons,List.map_nil,List.length_cons,List.length_nil,List.replicate,List.cons_append,List.nil_append,List.append_nil,Nat.reduceAdd,Nat.max_self,Nat.zero_max,Nat.max_zero,Nat.zero_add,Nat.reduceSub,iF,zR,ET,zW,wa,zS,zT,zU,t_,ua,eV,pA,lU,lV,eY,iJ,gC,bv,gD,uO,pB,pC,gE,iL,dD,cF,Hv,fU,List.getElem?_cons_zero,List.getElem?_cons_succ,zZ,z4,zX,zY,ub,Int.reduceLT,Int.reduceLE,Int.reduceNeg,t5,t7,t8,t9,EQ,ER,List.set_cons_zero,List.set_cons_succ,Nat.reduceLT,Nat.reduceLeDiff,ES,zN,zO,zP,zQ,t4,EU,z5,oX,oY,oZ,o4,uc,o5,o6,lI,z7,ud,z8,ue,lJ,jt,lK,ju,o7,kj,iG,lL,b0,gs,lM,jv,EV,z_,ug,uh,EX,EY,ui,uj,uk,o8,ul,Ac,um,uq,Ad,Ae,ur,o9,o_,uw,ux,E3,Ah,Ai,Aj,Al,uy,uz,uA,uB,bK,Hw,Hx,Hy,pc,uC,uD,pd,pf,E4,Am,uE,uF,An,uG,ph,pp,uH,pq,Ao,uI,uJ,lN,lO,px,lP,lQ,Ap,pz,lR,lS,lT,uK,uS,uT,iN,pJ,iO,pK,Ar,pI,Res.noX_ok,we,wf,Hz,HA,HB,HC,HD,Int.reduceBEq,nG,uR,pG,pH,l7,Bool.not_not,Nat.reduceEqDiff,uL,Aq,uM,uN,dW,pD,pE,lW,lX,lY,iM,lZ,l5,cH,kn,Bool.and_true,Bool.true_and,Bool.and_false,Bool.false_and,Bool.and_self,Bool.not_true,Bool.not_false,uP,uQ,fG,oW,hV,bM,eZ,uV,uW,pM,pN,pO,uU,pL,As,uX,uY,uZ,pP,pQ,Au,u3,E8,l9,pR,u4,gu,jO,eZ,dc,he,d9,l1,hs,hcomp]
  exact wm (aq _) rfl
 | [b,c],_=>
  have he:([b,c].map D.int)=[.int b,.int c]:=rfl
  have l1:((((2:Nat):Int))==1)=false:=rfl
  have l2:((((2:Nat):Int))==2)=true:=rfl
  have hu:=A0 gd q b c (g3 ts p a) (by omega)
  have hL:qB ts es ⟨p,a,q,[b,c]⟩=(g3 ts p a).filter fun s=>(g3 ts q b).reverse.all fun m=>!decide (s∈g3 ts m c):=by
   unfold qB
   refine List.filter_congr fun s _=>?_
   show(!(ts.any fun t=>decide (t.1=q)&&decide (t.2.1=b)&&decide ((t.2.2,c,s)∈ts)))=_
   rw[Bool.eq_iff_iff,Bool.not_eq_true',List.any_eq_false,List.all_eq_true]
   constructor
   ·intro h m hm
    have hm:m∈g3 ts q b:=List.mem_reverse.mp hm
    have:=h (q,b,m) ((eG ts q b m).mp hm)
    simp only[decide_true,Bool.true_and,decide_eq_true_eq]at this
    simp only[Bool.not_eq_true',decide_eq_false_iff_not]
    exact fun z=>this ((eG ts m c s).mp z)
   ·rintro h ⟨x,y,z⟩ ht
    simp only[Bool.and_eq_true,decide_eq_true_eq,not_and]
    rintro⟨rfl,rfl⟩ h3
    have:=h z (List.mem_reverse.mpr ((eG ts x y z).mpr ht))
    simp only[Bool.not_eq_true',decide_eq_false_iff_not]at this
    exact this ((eG ts z c s).mpr h3)
  refine⟨ps,by omega,?_⟩
  rw[hL]
  simp_arith[he,d9,l1,l2,aL,aX,hu,b0]
  exact Cq (aq _) rfl
end W
namespace W
open PySem L2 L3
theorem wE (p a:Int)(P:Int->Bool):∀ ts:List Tri,(ts.find? fun t=>decide (t.1=p)&&decide (t.2.1=a)&&P t.2.2)=((g3 ts p a).filter P).head?.map fun z=>(p,a,z)
 | []=>(rfl)
 |t::ts=>by
  obtain⟨x,y,z⟩:=t
  have ih:=wE p a P ts
  rw[List.find?_cons]
  have hg:g3 ((x,y,z)::ts) p a=if x=p/\y=a then z::g3 ts p a else g3 ts p a:=by
   unfold g3
   rw[List.filter_cons]
   by_cases h:x=p/\y=a
   ·rw[if_pos h,if_pos (by simp[h.1,h.2])];rfl
   ·rw[if_neg h,if_neg (by simpa using h)]
  rw[hg]
  by_cases h:x=p/\y=a
  ·rw[if_pos h,List.filter_cons]
   cases hP:P z with
   |true=>simp[h.1,h.2,hP]
   |false=>simp[h.1,h.2,hP];simpa using ih
  ·rw[if_neg h]
   have:(decide (x=p)&&decide (y=a)&&P z)=false:=by
    rw[Bool.and_eq_false_iff];left
    simpa using h
   dsimp only
   rw[this];exact ih
theorem nT:∀(r:List Int)(x:Int),(∀ b∈r,x<b)->r.foldl (fun a b=>if b<a then b else a) x=x
 | [],_,_=>(rfl)
 |b::r,x,h=>by
  have hb:=h b (by simp)
  rw[List.foldl_cons,if_neg (by omega)]
  exact nT r x fun c hc=>h c (by simp[hc])
theorem GE {n:Int}{ts:List Tri}(gd:Good n ts)(es:List Int)(r:Rl):(qB ts es r).Pairwise (·< ·):=List.Pairwise.filter _ (Dj gd r.room r.sign)
theorem A6 (ts:List Tri)(es:List Int)(r:Rl):dN ts es r=(qB ts es r).head?.map fun z=>(r.room,r.sign,z):=wE r.room r.sign (fun z=>!bm ts es r.to r.put z) ts
theorem A7 {ts:List Tri}{es:List Int}{r:Rl}(h:qB ts es r=[]):dN ts es r=none:=by rw[A6,h];rfl
theorem A8 {n:Int}{ts:List Tri}(gd:Good n ts){es:List Int}{r:Rl}(h:qB ts es r≠[]):dN ts es r=some (r.room,r.sign,jW (qB ts es r)):=by
 rw[A6]
 have pw:=GE gd es r
 cases q:qB ts es r with
 |nil=>exact(h q).elim
 |cons x l=>
  rw[q]at pw
  have:=nT l x (List.pairwise_cons.mp pw).1
  show some _=some (r.room,r.sign,l.foldl (fun a b=>if b<a then b else a) x)
  rw[this]
theorem nU {n:Int}{ts:List Tri}{es:List Int}(gd:Good n ts){c0 c1:Option Sl}:∀(rs:List (Rl×Nat))(ps:List (Int×Int))(e5 e6 e7:Option Sl),(∀ p∈rs,p.1.put.length<=2)->ps.length+200*rs.length<=50000->
 (∀ a,rs.find? (fun p=>(dN ts es p.1).isSome)=some a->bY (gT 2 (bb (gN 5) (bb (gN 6) gb))) false cA (rs.map fun p=>.tup [.int (p.2:Nat),p.1.d]) [c0,c1,some (.val (ax ts) true),some (.val (bD (aF es)) true),some (.tre (c9 ts es ps)),e5,e6,e7]=.ok (.rt (.val (.tup [.int (a.2:Nat),tD ((dN ts es a.1).getD (0,0,0))]) true [])))/\
 (rs.find? (fun p=>(dN ts es p.1).isSome)=none->∃ aB,bY (gT 2 (bb (gN 5) (bb (gN 6) gb))) false cA (rs.map fun p=>.tup [.int (p.2:Nat),p.1.d]) [c0,c1,some (.val (ax ts) true),some (.val (bD (aF es)) true),some (.tre (c9 ts es ps)),e5,e6,e7]=.ok (.nx aB))
 | [],ps,e5,e6,e7,_,_=>⟨fun _ e=>(by cases e),fun _=>⟨_,rfl⟩⟩
 |(r,k)::rs,ps,e5,e6,e7,hp,hl=>by
  obtain⟨ps',hl',hF⟩:=vo (es:=es) gd r (hp (r,k) (by simp)) ps (by simp only[List.length_cons]at hl;omega)
  have hfs:(ac (ad 2) (ac (ad 3) (ac (ad 6) ar))) [c0,c1,some (.val (ax ts) true),some (.val (bD (aF es)) true),some (.tre (c9 ts es ps)),some (.val (.int (k:Nat)) false),some (.val r.d false),e7]=.ok [.val (ax ts) true [],.val (bD (aF es)) true [],.val r.d true []]:=by
   simp_arith[aL,aX,Rl.flat]
  have hcall:lF 7 4 gI (ac (ad 2) (ac (ad 3) (ac (ad 6) ar))) [c0,c1,some (.val (ax ts) true),some (.val (bD (aF es)) true),some (.tre (c9 ts es ps)),some (.val (.int (k:Nat)) false),some (.val r.d false),e7]=.ok (.nx [c0,c1,some (.val (ax ts) true),some (.val (bD (aF es)) true),some (.tre (c9 ts es ps')),some (.val (.int (k:Nat)) false),some (.val r.d false),some (.own ((qB ts es r).map .int) true)]):=by
   rw[kq,hfs,Res.noX_ok,fU,AG (x:=c9 ts es ps) rfl (by simp[aY,R.al]) (by decide) (by simp) hF]
   rfl
  rw[List.find?_cons,List.map_cons,hJ (HM (by simp) (by simp))]
  show(∀ a,_->(cA [c0,c1,some (.val (ax ts) true),some (.val (bD (aF es)) true),some (.tre (c9 ts es ps)),some (.val (.int (k:Nat)) false),some (.val r.d false),e7]).bind _=_)/\(_->∃ aB,(cA [c0,c1,some (.val (ax ts) true),some (.val (bD (aF es)) true),some (.tre (c9 ts es ps)),some (.val (.int (k:Nat)) false),some (.val r.d false),e7]).bind _=_)
  by_cases hL:qB ts es r=[]
  ·have hd:=A7 hL
   have hx:(dN ts es (r,k).1).isSome=false:=by show(dN ts es r).isSome=false;rw[hd];rfl
   rw[hx]
   obtain⟨i1,i2⟩:=nU (es:=es) gd (c0:=c0) (c1:=c1) rs ps' (some (.val (.int (k:Nat)) false)) (some (.val r.d false)) (some (.own ((qB ts es r).map .int) true)) (fun p h=>hp p (by simp[h])) (by simp only[List.length_cons]at hl;omega)
   have eb:cA [c0,c1,some (.val (ax ts) true),some (.val (bD (aF es)) true),some (.tre (c9 ts es ps)),some (.val (.int (k:Nat)) false),some (.val r.d false),e7]=.ok (.nx [c0,c1,some (.val (ax ts) true),some (.val (bD (aF es)) true),some (.tre (c9 ts es ps')),some (.val (.int (k:Nat)) false),some (.val r.d false),some (.own ((qB ts es r).map .int) true)]):=by
    have hem:((qB ts es r).map D.int).isEmpty=true:=by rw[hL];rfl
    unfold cA
    rw[iF,hcall]
    simp_arith[hem]
   rw[eb,fU,cH]
   exact⟨i1,i2⟩
  ·have hd:=A8 gd hL
   have hx:(dN ts es (r,k).1).isSome=true:=by show(dN ts es r).isSome=true;rw[hd];rfl
   rw[hx]
   refine⟨fun a e=>?_,fun e=>(by cases e)⟩
   cases e
   have eb:cA [c0,c1,some (.val (ax ts) true),some (.val (bD (aF es)) true),some (.tre (c9 ts es ps)),some (.val (.int (k:Nat)) false),some (.val r.d false),e7]=.ok (.rt (.val (.tup [.int (k:Nat),.tup [.int r.room,.int r.sign,.int (jW (qB ts es r))]]) true [])):=by
    have hem:((qB ts es r).map D.int).isEmpty=false:=by cases q:qB ts es r with|nil=>exact(hL q).elim|cons x l=>rfl
    have hmin:=Cn hL
    unfold cA
    rw[iF,hcall]
    simp_arith[hem,hmin,Rl.d,aq]
   rw[eb,fU,kn,hd]
   rfl
theorem CG {n:Int}{ts:List Tri}{es:List Int}(gd:Good n ts)(he:es.length<=1000)(rooms signs:Int)(rules:List Rl)(hr:rules.length<=100)(hp:∀ r∈rules,r.put.length<=2) :
 h_ [.tup [.int rooms,.int signs,.lst (rules.map Rl.d)],Mc n ts es]=.ok (.val (ia ts es rules) true []):=by
 have hgd:=gd.len
 have htab:=AY n ts es (by omega)
 have hmark:=xQ es (by omega)
 obtain⟨f1,f2⟩:=nU (es:=es) gd (c0:=some (.val (.tup [.int rooms,.int signs,.lst (rules.map Rl.d)]) false)) (c1:=some (.val (.tup [.int n,.lst (ts.map tD),.lst (es.map .int)]) false)) rules.zipIdx [] none none none (fun p h=>hp p.1 (wB h).2) (by rw[List.length_zipIdx];simp only[List.length_nil];omega)
 have hen:cW 0 (rules.map Rl.d)=rules.zipIdx.map fun p=>.tup [.int (p.2:Nat),p.1.d]:=nL Rl.d rules 0
 have hk:c9 ts es []=.dic [] []:=rfl
 rw[hk]at f1 f2
 unfold ia nO
 have htab':b5 [.tup [.int n,.lst (ts.map tD),.lst (es.map .int)]]=.ok (.val (ax ts) true [1]):=htab
 unfold Mc
 cases hq:rules.zipIdx.find? (fun p=>(dN ts es p.1).isSome) with
 |some p=>
  simp_arith[h_,vg,htab',b0,aL,hmark,dc,aX,hen,f1 p hq]
 |none=>
  obtain⟨aB,g1⟩:=f2 hq
  simp_arith[h_,vg,htab',b0,aL,hmark,dc,aX,hen,g1]
end W
namespace W
open PySem L2 L3
theorem sF (x:Int):cz [.int x]=.ok (.val (.bl true) true []):=by
 simp_arith[cz,iV,ph,pp]
theorem wF (ts:List Tri)(es:List Int)(rules:List Rl):ci [ia ts es rules,ia ts es rules]=.ok (.val (.bl true) true []):=by
 unfold ia
 cases nO ts es rules with
 |none=>
  have hi:∀(i:Nat)(env:En),env[i]?=some (some (.val .non false))->tP (ad i) env=.ok (.val (.bl true) true []):=fun i env h=>by
   unfold tP;rw[wa,h];rfl
  have i1:tP (ad 1) [some (.val .non false),some (.val .non false)]=.ok (.val (.bl true) true []):=hi 1 _ rfl
  have i0:tP (ad 0) [some (.val .non false),some (.val .non false)]=.ok (.val (.bl true) true []):=hi 0 _ rfl
  simp_arith[ci,gw,i1,i0,iN]
 |some p=>
  dsimp only
  generalize (dN ts es p.1).getD (0,0,0)=t
  obtain⟨a,b,c⟩:=t
  have l2:((((2:Nat):Int))==2)=true:=rfl
  have hc:=fun(env:En)(fr:Bool)=>db (mk:=fun d=>gN 0 d fr (cD env 1 [])) (test:=fun _=>.ok true) (elt:=bI) D.int (fun _=>.val (.bl true) true []) [a,b,c] fun x hx=>⟨_,rfl,rfl,by
   show bI [some (.val (.int x) fr)]=_
   simp_arith[bI,sF]⟩
  have hk:∀(env:En)(fr:Bool)(al:List Nat),gQ 1 [] (gN 0) (fun _=>.ok true) bI env ⟨[.int a,.int b,.int c],fr,al⟩=.ok (.new [.bl true,.bl true,.bl true] true):=fun env fr al=>by
   rw[show([D.int a,.int b,.int c]:List D)=[a,b,c].map .int from rfl,fH (by simp) (hc env fr)]
   rfl
  have e1:aN 0 (vC (.int 1)) [some (.val (.tup [.int (p.2:Nat),.tup [.int a,.int b,.int c]]) false),some (.val (.tup [.int (p.2:Nat),.tup [.int a,.int b,.int c]]) false)]=.ok (.val (.tup [.int a,.int b,.int c]) true []):=by
   simp_arith
  have hx:bp 1 [] (aN 0 (vC (.int 1))) (gN 0) (fun _=>.ok true) bI [some (.val (.tup [.int (p.2:Nat),.tup [.int a,.int b,.int c]]) false),some (.val (.tup [.int (p.2:Nat),.tup [.int a,.int b,.int c]]) false)]=.ok (.new [.bl true,.bl true,.bl true] true):=by
   rw[AF e1]
   simp_arith[hk]
  have hall:E6 (.lst [.bl true,.bl true,.bl true])=.ok (.val (.bl true) true []):=rfl
  have heq:cB (.tup [.int (p.2:Nat),.tup [.int a,.int b,.int c]]) (.tup [.int (p.2:Nat),.tup [.int a,.int b,.int c]])=true:=cp _
  unfold tD
  dsimp only
  simp_arith[ci,gw,iO,pq,Ca,d9,l2,sF,hx,nG,hall,heq]
theorem CH {ts:List Tri}{t:Tri}(h:t∈ts):∃ j,fO (ts.map tD) (tD t)=some j:=by
 have d1:D.deps (ts.map tD)<=50:=Nat.le_trans (iQ (n:=1) mw) (by omega)
 have d2:(tD t).dep<=50:=Nat.le_trans (mw t) (by omega)
 unfold fO
 rw[if_pos ⟨d1,d2,bH _ _ c7,rfl⟩]
 cases q:(ts.map tD).findIdx? (fun e=>cB e (tD t)) with
 |some j=>exact⟨j,rfl⟩
 |none=>
  rw[List.findIdx?_eq_none_iff]at q
  have:=q (tD t) (List.mem_map.mpr ⟨t,h,rfl⟩)
  rw[cp]at this;cases this
theorem A9 {ts:List Tri}{t:Tri}(h:t∈ts)(es:List Int):eqDs (ts.map tD) (es.map .int)=false:=by
 cases ts with
 |nil=>cases h
 |cons u r=>cases es<;>rfl
theorem xT {ts:List Tri}{es:List Int}{rules:List Rl}{p:Rl×Nat}(h:nO ts es rules=some p):(dN ts es p.1).getD (0,0,0)∈ts:=by
 have hs:=List.find?_some h
 obtain⟨t,ht⟩:=Option.isSome_iff_exists.mp hs
 rw[ht]
 exact List.mem_of_find?_eq_some ht
theorem Fs (n:Int)(ts:List Tri)(es:List Int):(D.tup [.int n,.lst (ts.map tD),.lst (es.map .int)]).dep<=50:=by
 have h1:D.deps (ts.map tD)<=1:=iQ mw
 have h2:=de es
 simp only[gE,cF,gD,iL,dD];omega
theorem xU (a b:Int)(rules:List Rl):(D.tup [.int a,.int b,.lst (rules.map Rl.d)]).dep<=50:=by
 have h1:D.deps (rules.map Rl.d)<=2:=iQ Rl.dep
 simp only[gE,cF,gD,iL,dD];omega
theorem GF {a b:D}{ds:List D}(ha:a.flat=true)(hb:b.flat=true):(D.tup [a,b,.lst ds]).flat=false:=by
 rw[eY,bv,bv,bv,ha,hb];rfl
theorem vp {e0 e1 e4 e5 e6 e7 e8 e9 e10:Option Sl}{rooms signs:Int}{g2 g3' fr:Bool}(h1:0<rooms)(h2:rooms<1073741824)(h3:0<signs)(h4:signs<1073741824)(xs:List Int)(hl:xs.length<=1000000) :
 gQ 1 [2,3] (gN 0) (fun _=>.ok true) iZ [e0,e1,some (.val (.int rooms) g2),some (.val (.int signs) g3'),e4,e5,e6,e7,e8,e9,e10] ⟨xs.map .int,fr,[]⟩=.ok (.new ((xs.map fun c=>jy c rooms signs).map Rl.d) true):=by
 have h:=db (mk:=fun d=>gN 0 d fr (cD [e0,e1,some (.val (.int rooms) g2),some (.val (.int signs) g3'),e4,e5,e6,e7,e8,e9,e10] 1 [2,3])) (test:=fun _=>.ok true)
  (elt:=iZ) D.int (fun c=>.val (jy c rooms signs).d true []) xs fun c hc=>⟨_,rfl,rfl,by
    show iZ [some (.val (.int c) fr),some (.val (.int rooms) g2),some (.val (.int signs) g3')]=_
    simp_arith[iZ,Cv,h1,h2,h3,h4,Rl.flat]⟩
 rw[fH (by rw[List.length_map];exact hl) h,fP,e_,List.map_map]
 rw[fG (bH _ _ fun c=>Rl.flat _)]
 rfl
end W
namespace W
open PySem L2 L3
theorem CI {n rooms signs:Int}{ts:List Tri}{es:List Int}{rules:List Rl}{e0 e1 e4:Option Sl}(gd:Good n ts)(hn0:0<=n)(hn:n<=1000)(he:es.length<=1000)(hr:rules.length<=100)(hp:∀ r∈rules,r.put.length<=2) :
 kr [e0,e1,some (.val (.int rooms) true),some (.val (.int signs) true),e4,some (.own (rules.map Rl.d) true),some (.val (.tup [.int n,.lst (ts.map tD),.lst (es.map .int)]) true),none,none,none,none]=.ok (.rt (.val (.bl true) true [])):=by
 have hleak:∀ ts,Good n ts->h_ [.tup [.int rooms,.int signs,.lst (rules.map Rl.d)],.tup [.int n,.lst (ts.map tD),.lst (es.map .int)]]=.ok (.val (ia ts es rules) true []):=fun ts g=>CG g he rooms signs rules hr hp
 have hdue:∀ ts,Good n ts->bQ [.lst (rules.map Rl.d),.tup [.int n,.lst (ts.map tD),.lst (es.map .int)]]=.ok (.val (ia ts es rules) true []):=fun ts g=>Fm rules g hn0 hn (by omega) hp
 have hMf:∀ ts:List Tri,(D.tup [.int n,.lst (ts.map tD),.lst (es.map .int)]).flat=false:=fun ts=>kt n ts es
 have hHf:(D.tup [.int rooms,.int signs,.lst (rules.map Rl.d)]).flat=false:=GF rfl rfl
 have fl1:∀ ts:List Tri,D.flats (ts.map tD)=true:=fun ts=>bH _ _ c7
 have fl2:D.flats (rules.map Rl.d)=true:=bH _ _ Rl.flat
 have dM:=Fs n ts es
 have dH:=xU rooms signs rules
 have eM:cB (.tup [.int n,.lst (ts.map tD),.lst (es.map .int)]) (.tup [.int n,.lst (ts.map tD),.lst (es.map .int)])=true:=cp _
 have eH:cB (.tup [.int rooms,.int signs,.lst (rules.map Rl.d)]) (.tup [.int rooms,.int signs,.lst (rules.map Rl.d)])=true:=cp _
 have nM:∀(f g:Bool)(al bl:List Nat),Ba (.val (.tup [.int n,.lst (ts.map tD),.lst (es.map .int)]) f al) (.val (.tup [.int n,.lst (ts.map tD),.lst (es.map .int)]) g bl)=.ok (.val (.bl false) true []):=fun f g al bl=>by
  rw[Ca (a:=.val (.tup [.int n,.lst (ts.map tD),.lst (es.map .int)]) f al) (b:=.val (.tup [.int n,.lst (ts.map tD),.lst (es.map .int)]) g bl) dM dM,dW,dW,eM];rfl
 have nH:∀(f g:Bool)(al bl:List Nat),Ba (.val (.tup [.int rooms,.int signs,.lst (rules.map Rl.d)]) f al) (.val (.tup [.int rooms,.int signs,.lst (rules.map Rl.d)]) g bl)=.ok (.val (.bl false) true []):=fun f g al bl=>by
  rw[Ca (a:=.val (.tup [.int rooms,.int signs,.lst (rules.map Rl.d)]) f al) (b:=.val (.tup [.int rooms,.int signs,.lst (rules.map Rl.d)]) g bl) dH dH,dW,dW,eH];rfl
 have df:=nP ts es rules
 have ht:=wF ts es rules
 cases hq:nO ts es rules with
 |none=>
  have hD:ia ts es rules=.non:=by unfold ia;rw[hq]
  rw[hD]at ht
  have hl:=hleak ts gd
  have hd:=hdue ts gd
  rw[hD]at hl hd
  simp_arith[kr,qu,qq,mr,mq,AC,fl1,fl2,aq,hMf,hHf,hd,hl,ht,nM,nH,iN]
 |some p=>
  have hm:=xT hq
  generalize hT:(dN ts es p.1).getD (0,0,0)=t at hm
  obtain⟨j,hj⟩:=CH hm
  have hD:ia ts es rules=.tup [.int (p.2:Nat),tD t]:=by unfold ia;rw[hq];dsimp only;rw[hT]
  rw[hD]at ht
  have hl:=hleak ts gd
  have hd:=hdue ts gd
  rw[hD]at hl hd
  have g2:Good n (ts.eraseIdx j):=gd.sub (List.eraseIdx_sublist ts j)
  have hl2:=hleak _ g2
  have hd2:=hdue _ g2
  have ht2:=wF (ts.eraseIdx j) es rules
  have df2:=nP (ts.eraseIdx j) es rules
  have hne:=A9 hm es
  have hk:∀ env:En,lG 8 (.int n) (ts.map tD) (es.map .int) env (.val (tD t) true [])=.ok (.nx (env.set 8 (some (.tre (.tup [.int n,.lst ((ts.map tD).eraseIdx j),.lst (es.map .int)]))))):=fun env=>Co rfl (aq _) hne hj
  simp_arith[kr,qu,qq,mr,mq,su,sr,sq,AC,fl1,fl2,aq,hMf,hHf,hd,hl,ht,nM,nH,iO,c7,hk,jA,hl2,hd2,df2,ht2]
theorem Ft (ns:List Int)(hns:ns.length<=63):sv [.lst (ns.map .int)]=.ok (.val (.bl true) true []):=by
 have hs:=wo ns 0
 have hpk:=wo ns 1
 generalize hS:cell ns 0=s at hs
 generalize hP:cell ns 1=pick at hpk
 have c0:aJ [.lst (ns.map .int),.int 0]=.ok (.val (.int s) true []):=by rw[<- hS];exact GA ns
 have c1:aJ [.lst (ns.map .int),.int 1]=.ok (.val (.int pick) true []):=by rw[<- hP];exact GB ns
 have r1:0<1+s % 3:=by omega
 have r2:1+s % 3<=3:=by omega
 have g1:0<1+s / 3 % 3:=by omega
 have g2:1+s / 3 % 3<=3:=by omega
 have r3:1+s % 3<1073741824:=by omega
 have g3':1+s / 3 % 3<1073741824:=by omega
 have hlm:(List.map D.int ns).length=ns.length:=List.length_map ..
 generalize hmx:(if (((ns.length:Nat):Int)-4) / 2>0 then (((ns.length:Nat):Int)-4) / 2 else 0)=mx
 generalize hmn:(if mx<20 then mx else 20)=mn
 have hmx0:0<=mx:=by rw[<- hmx];split<;>omega
 have hmn0:0<=mn:=by rw[<- hmn];split<;>omega
 have mpos:0<1+mn:=by omega
 generalize hU:4+s / 9 % (1+mn)=U
 have hcut:∀ lo hi,bU (ns.map D.int) lo hi=(bU ns lo hi).map D.int:=fun lo hi=>mj _ _ _ _
 have fli:∀ lo hi,D.flats ((bU ns lo hi).map D.int)=true:=fun lo hi=>aq _
 have cl:∀ lo hi,(bU ns lo hi).length<=63:=fun lo hi=>Nat.le_trans (sf _ _ _) hns
 have cl1:(bU ns (some 4) (some U)).length<=1000000:=by have:=cl (some 4) (some U);omega
 obtain⟨n,ts,es,hn,gd,hes,hmach⟩:=vi (bU ns (some U) (some (U+60))) pick (1+s % 3) (1+s / 3 % 3) (cl _ _) hpk r1 r2 g1 g2
 have hrl:((bU ns (some 4) (some U)).map fun c=>jy c (1+s % 3) (1+s / 3 % 3)).length<=100:=by rw[List.length_map];have:=cl (some 4) (some U);omega
 have hend:=CI (rooms:=1+s % 3) (signs:=1+s / 3 % 3) (es:=es) (rules:=(bU ns (some 4) (some U)).map fun c=>jy c (1+s % 3) (1+s / 3 % 3)) (e0:=some (.val (.lst (ns.map .int)) false)) (e1:=some (.val (.int s) true)) (e4:=some (.val (.int U) true)) gd hn.1 hn.2 (by omega) hrl (fun r hr=>by
  obtain⟨c,_,rfl⟩:=List.mem_map.mp hr
  exact ve _ _ _)
 unfold Mc at hmach
 have hMf:(D.tup [.int n,.lst (ts.map tD),.lst (es.map .int)]).flat=false:=kt n ts es
 have n20:∀ x:Int,(if x<20 then x else 20)=(if x<20 then x else 20):=fun _=>rfl
 simp_arith[sv,Dc,wv,wu,wt,wq,wp,c0,c1,hlm,we,wf,hmx,hmn,mpos,hU,hcut,fli,vp r1 r3 g1 g3' _ cl1,hmach,hend,aq]
end W
open PySem PySem.W PyProof.Rows
set_option maxRecDepth 100000 in
set_option maxHeartbeats 0 in
theorem PySem.Challenge.cw_callwalk_k31_leak_holds : PySem.Challenge.rw_callwalk_k31_leak.Holds := by
 w_on;o_law;k_head;(case hw=>w_witness2)
 k_fill
 refine L2.Bw (l:=PySem.Challenge.rw_callwalk_k31_leak) (n:=63) (k:=5) (x:="_law_script") (CX:=fun w=>L2.jF) (sp:=fun _=>L3.GN W.sv) rfl (by decide) rfl ⟨rfl,by decide,by decide⟩ (fun w h Y=>PySem.W.kIn_of Y) ?F ?S ?C
 case F=>
  intro w mg fa h KX G hmg
  refine W.Fg KX G hmg ?_
  refine' Exists.imp (fun _ _=>True.intro) (W.Gz KX G ?a_a ?l_a ?c_a ?k_a ?a_b ?l_b ?c_b ?k_b ?a_c ?l_c ?c_c ?k_c ?a_d ?l_d ?c_d ?k_d ?a_e ?l_e ?c_e ?k_e ?a_f ?l_f ?c_f ?k_f ?a_g ?l_g ?c_g ?k_g ?a_h ?l_h ?c_h ?k_h ?a_i ?l_i ?c_i ?k_i ?a_j ?l_j ?c_j ?k_j ?a_k ?l_k ?c_k ?k_k ?a_l ?l_l ?c_l ?k_l ?a_m ?l_m ?c_m ?k_m ?a_n ?l_n ?c_n ?k_n ?a_o ?l_o ?c_o ?k_o ?a_p ?l_p ?c_p ?k_p ?a_q ?l_q ?c_q ?k_q ?z_all ?z_bool ?z_dict ?z_enumerate ?z_int ?z_isinstance ?z_len ?z_list ?z_max ?z_min ?z_range ?z_reversed ?z_set ?z_sorted ?z_tuple)
  (case a_a=>k_is)
  (case l_a=>k_is)
  (case c_a=>k_is)
  (case k_a=>k_is)
  (case a_b=>k_is)
  (case l_b=>k_is)
  (case c_b=>k_is)
  (case k_b=>k_is)
  (case a_c=>k_is)
  (case l_c=>k_is)
  (case c_c=>k_is)
  (case k_c=>k_is)
  (case a_d=>k_is)
  (case l_d=>k_is)
  (case c_d=>k_is)
  (case k_d=>k_is)
  (case a_e=>k_is)
  (case l_e=>k_is)
  (case c_e=>k_is)
  (case k_e=>k_is)
  (case a_f=>k_is)
  (case l_f=>k_is)
  (case c_f=>k_is)
  (case k_f=>k_is)
  (case a_g=>k_is)
  (case l_g=>k_is)
  (case c_g=>k_is)
  (case k_g=>k_is)
  (case a_h=>k_is)
  (case l_h=>k_is)
  (case c_h=>k_is)
  (case k_h=>k_is)
  (case a_i=>k_is)
  (case l_i=>k_is)
  (case c_i=>k_is)
  (case k_i=>k_is)
  (case a_j=>k_is)
  (case l_j=>k_is)
  (case c_j=>k_is)
  (case k_j=>k_is)
  (case a_k=>k_is)
  (case l_k=>k_is)
  (case c_k=>k_is)
  (case k_k=>k_is)
  (case a_l=>k_is)
  (case l_l=>k_is)
  (case c_l=>k_is)
  (case k_l=>k_is)
  (case a_m=>k_is)
  (case l_m=>k_is)
  (case c_m=>k_is)
  (case k_m=>k_is)
  (case a_n=>k_is)
  (case l_n=>k_is)
  (case c_n=>k_is)
  (case k_n=>k_is)
  (case a_o=>k_is)
  (case l_o=>k_is)
  (case c_o=>k_is)
  (case k_o=>k_is)
  (case a_p=>k_is)
  (case l_p=>k_is)
  (case c_p=>k_is)
  (case k_p=>k_is)
  (case a_q=>k_is)
  (case l_q=>k_is)
  (case c_q=>k_is)
  (case k_q=>k_is)
  (case z_all=>k_is)
  (case z_bool=>k_is)
  (case z_dict=>k_is)
  (case z_enumerate=>k_is)
  (case z_int=>k_is)
  (case z_isinstance=>k_is)
  (case z_len=>k_is)
  (case z_list=>k_is)
  (case z_max=>k_is)
  (case z_min=>k_is)
  (case z_range=>k_is)
  (case z_reversed=>k_is)
  (case z_set=>k_is)
  (case z_sorted=>k_is)
  (case z_tuple=>k_is)
 case S=>exact fun w H a ns hl hO hS=>L3.Es (fun ns hn=>⟨_,_,W.Ft ns hn⟩) (by rfl) H a ns hl hO hS
 case C=>exact fun _ _ _ _ _ z=>z
