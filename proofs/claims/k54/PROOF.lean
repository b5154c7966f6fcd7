import PyProof.Rows.All
import Wide.All
import OpenK.AllK
import Wide.FinOn
import Lean
import PyProof.EqAt
import PyProof.EqKinds
import PyProof.TupleCall
import PyProof.ZipIter
import PyProof.AttrMissHeap
import PyProof.Walks
import PyProof.WalksS
import PySem.SetTable
import KE.KSortTup
import KE.KRevIter
import PyProof.Rows.SetFrom
import PyProof.CollectWalk
import PyProof.DictWalks
import PyProof.DictItems
import KE.KDictList
import PyProof.ListRange
import PyProof.EqAt
import PyProof.WalkInts
import PyProof.StrBlockG
import PyProof.SumWalk
import PyProof.Rows.TupIter
import PyProof.StrLawsIdx
import PyProof.Draws
import PyProof.EnumMake
import PyProof.ConsumeWalk
import PySem.Challenge.RW_callwalk_k54_points
set_option Elab.async false
set_option linter.all false
set_option genSizeOf false
set_option genSizeOfSpec false
set_option compiler.extract_closed false
set_option maxRecDepth 100000
set_option maxHeartbeats 4000000

namespace L2
open PySem PySem.Spec PyProof.Rows
abbrev Key := Sum Int Str
def keyIs:Key -> Value -> Bool
  | .inl k,v => Value.isInt k v
  | .inr x,v => Value.isStrOf x v
def keyH (w:World) : Key -> Int
  | .inl k => hashInt k
  | .inr x => hashStr w x
theorem keyIs_shape:∀ {k:Key} {v:Value},keyIs k v = true -> (∃ i t,k = Sum.inl i /\ v = Value.int i t) \/ (∃ x t,k = Sum.inr x /\ v = Value.str x t)
  | .inl i,v,h => by
    obtain ⟨t,e⟩ := Value.isInt_shape (k := i) (v := v) h
    exact .inl ⟨i,t,rfl,e⟩
  | .inr x,v,h => by
    obtain ⟨t,e⟩ := Value.isStrOf_shape (x := x) (v := v) h
    exact .inr ⟨x,t,rfl,e⟩
theorem keyIs_int (i:Int) (t:Tok) : keyIs (.inl i) (.int i t) = true := by simp [keyIs,Value.isInt]
theorem keyIs_str (x:Str) (t:Tok) : keyIs (.inr x) (.str x t) = true := by simp [keyIs,Value.isStrOf]
theorem key_ll (a b:Int) : decide ((Sum.inl a:Key) = Sum.inl b) = (a == b) := by
  by_cases e:a = b
  · subst e; simp
  · have h:¬ (Sum.inl a:Key) = Sum.inl b := fun q => e (Sum.inl.inj q)
    rw [decide_eq_false h]
    exact (beq_eq_false_iff_ne.mpr e).symm
theorem key_rr (a b:Str) : decide ((Sum.inr a:Key) = Sum.inr b) = decide (a = b) := by
  by_cases e:a = b
  · subst e; simp
  · have h:¬ (Sum.inr a:Key) = Sum.inr b := fun q => e (Sum.inr.inj q)
    rw [decide_eq_false h,decide_eq_false e]
theorem key_lr (a:Int) (b:Str) : decide ((Sum.inl a:Key) = Sum.inr b) = false := decide_eq_false (fun q => nomatch q)
theorem key_rl (a:Str) (b:Int) : decide ((Sum.inr a:Key) = Sum.inl b) = false := decide_eq_false (fun q => nomatch q)
def mixKind (prog:Program) (w:World) : PySem.KeyKind prog w Key where
  is := keyIs
  hash := keyH w
  inj := fun v a b ha hb => by
    rcases keyIs_shape ha with ⟨i,t,rfl,rfl⟩ | ⟨x,t,rfl,rfl⟩
    · rcases keyIs_shape hb with ⟨j,u,rfl,e⟩ | ⟨y,u,rfl,e⟩
      · injection e with e1 _; rw [e1]
      · exact nomatch e
    · rcases keyIs_shape hb with ⟨j,u,rfl,e⟩ | ⟨y,u,rfl,e⟩
      · exact nomatch e
      · injection e with e1 _; rw [e1]
  byValue := fun k v h => by
    rcases keyIs_shape h with ⟨i,t,rfl,rfl⟩ | ⟨x,t,rfl,rfl⟩ <;> rfl
  pyHash := fun hv h => by
    rcases keyIs_shape hv with ⟨i,t,rfl,rfl⟩ | ⟨x,t,rfl,rfl⟩
    · exact wpAny_pyHash_int h
    · exact wpAny_pyHash_str h
  eqBool := fun hu hv h => by
    rcases keyIs_shape hu with ⟨i,t,rfl,rfl⟩ | ⟨x,t,rfl,rfl⟩
    · rcases keyIs_shape hv with ⟨j,u,rfl,rfl⟩ | ⟨y,u,rfl,rfl⟩
      · rw [key_ll] at h; exact wpAny_eqBool_int h
      · rw [key_lr] at h; exact SeqAt.EqAt.int_str i t y u _ _ _ _ h
    · rcases keyIs_shape hv with ⟨j,u,rfl,rfl⟩ | ⟨y,u,rfl,rfl⟩
      · rw [key_rl] at h; exact SeqAt.EqAt.str_int x t j u _ _ _ _ h
      · rw [key_rr] at h; exact wpAny_eqBool_str h
  «strs» := fun k x t v h => by
    rcases keyIs_shape h with ⟨i,u,rfl,e⟩ | ⟨y,u,rfl,e⟩
    · exact nomatch e
    · injection e with e1 _
      subst e1
      cases v <;> rfl
theorem mixKind_int (prog:Program) (w:World) (i:Int) (t:Tok) : (mixKind prog w).is (.inl i) (.int i t) = true := keyIs_int i t
theorem mixKind_str (prog:Program) (w:World) (x:Str) (t:Tok) : (mixKind prog w).is (.inr x) (.str x t) = true := keyIs_str x t
end L2
namespace L2
open PySem PySem.Spec PyProof.Rows
inductive V where
  | non | bl (b:Bool) | int (i:Int) | str (x:Str) | byt (b:Array UInt8) | flt (b:UInt64) | ref (a:Addr) | ty (n:String)
  deriving DecidableEq
def RelV:V -> Value -> Prop
  | .non,u => u = Value.none
  | .bl b,u => u = Value.bool b
  | .int i,u => ∃ t,u = Value.int i t
  | .str x,u => ∃ t,u = Value.str x t
  | .byt b,u => ∃ t,u = Value.bytes b t
  | .flt b,u => ∃ t,u = Value.float b t
  | .ref a,u => u = Value.ref a
  | .ty n,u => u = Value.type n
abbrev Vals:List V -> List Value -> Prop := Paired RelV
theorem Vals.length {xs:List V} {us:List Value} (r:Vals xs us) : xs.length = us.length := Paired.length r
theorem Vals.get:∀ {xs:List V} {us:List Value} {i:Nat} {x:V},Vals xs us -> xs[i]? = some x -> ∃ u,us[i]? = some u /\ RelV x u
  | _,_,_,_,.nil,e => by simp at e
  | _,_,0,_,.cons r _,e => by simp at e; subst e; exact ⟨_,rfl,r⟩
  | _,_,i + 1,x,.cons _ t,e => by
    obtain ⟨u,h1,h2⟩ := Vals.get (i := i) (x := x) t (by simpa using e)
    exact ⟨u,by simpa using h1,h2⟩
theorem Vals.set {x:V} {u:Value} (r:RelV x u) : ∀ {xs:List V} {us:List Value} (i:Nat),Vals xs us -> Vals (xs.set i x) (us.set i u)
  | _,_,_,.nil => .nil
  | _,_,0,.cons _ t => .cons r t
  | _,_,i + 1,.cons q t => .cons q (Vals.set r i t)
theorem Vals.append:∀ {xs ys:List V} {us ws:List Value},Vals xs us -> Vals ys ws -> Vals (xs ++ ys) (us ++ ws)
  | _,_,_,_,.nil,s => s
  | _,_,_,_,.cons r t,s => .cons r (Vals.append t s)
theorem Vals.take:∀ {xs:List V} {us:List Value} (n:Nat),Vals xs us -> Vals (xs.take n) (us.take n)
  | _,_,0,_ => .nil
  | _,_,_ + 1,.nil => .nil
  | _,_,n + 1,.cons r t => .cons r (Vals.take n t)
theorem Vals.drop:∀ {xs:List V} {us:List Value} (n:Nat),Vals xs us -> Vals (xs.drop n) (us.drop n)
  | _,_,0,r => r
  | _,_,_ + 1,.nil => .nil
  | _,_,n + 1,.cons _ t => Vals.drop n t
def RelO:Option V -> Option Value -> Prop
  | some v,some u => RelV v u
  | none,none => True
  | _,_ => False
def KV {κ:Type} : List (κ × V) -> List (κ × Value) -> Prop := Paired fun (p:κ × V) (q:κ × Value) => p.1 = q.1 /\ RelV p.2 q.2
def kV:Key -> V
  | .inl i => .int i
  | .inr x => .str x
inductive HO where
  
  | lst (xs:List V)
  
  | tup (xs:List V)
  
  | dK (kvs:List (Key × V)) | dT (kvs:List (List Key × V))
  
  | set (S:Int -> Bool) (n:Nat)
  
  | ins (C dx:Addr) (fs:List (Str × V))
  
  | own (x:Addr)
  
  | xd (fs:List (Str × V))
  
  | met (f x:Addr)
  
  | rng (lo hi:Int)
  
  | frz (o:Obj) (u:HO)
  
  | tbl (ps:Array Value)
  
  | ext (φ:Heap -> Prop)
abbrev Hp := Addr -> Option HO
def upd (H:Hp) (a:Addr) (o:HO) : Hp := fun b => if b = a then some o else H b
theorem upd_same {H:Hp} {a:Addr} {o:HO} : upd H a o a = some o := by unfold upd; rw [if_pos rfl]
theorem upd_ne {H:Hp} {a b:Addr} {o:HO} (h:b ≠ a) : upd H a o b = H b := by unfold upd; rw [if_neg h]
theorem ne_of_none {H:Hp} {a b:Addr} {o:HO} (h:H a = some o) (h':H b = none) : a ≠ b := by
  intro e; subst e; rw [h] at h'; cases h'
section
variable (P:Program) (w:World)
def ObjOk (H:Hp) (h:Heap) (a:Addr) : HO -> Prop
  | .lst xs => xs.length <= sizeLine /\ ∃ (its : List Value) (n : Nat), Vals xs its /\ h.get? a = some { cls := .type "list", data := .seq its.toArray n }
  | .tup xs => xs.length <= sizeLine /\ ∃ its:List Value,Vals xs its /\ IsTup h a its.toArray
  | .dK kvs => kvs.length <= sizeLine /\ (a == sysModules) = false /\ ∃ vs,KV kvs vs /\ h.DictOf (mixKind P w) a vs
  | .dT kvs => kvs.length <= sizeLine /\ (a == sysModules) = false /\ ∃ xs:List (List Key × Addr × Value),
      Paired (fun (p:List Key × V) (q:List Key × Addr × Value) => p.1 = q.1 /\ H q.2.1 = some (.tup (p.1.map kV)) /\ RelV p.2 q.2.2) kvs xs /\
      ∃ o es ep,h.get? a = some o /\ o.ExactDict /\ o.data = .dict es ep /\ es.toList = xs.map (entryOfKey (tupleKind (mixKind P w))) /\ (xs.map (·.1)).Nodup
  | .set S n => h.SetOf (intKind P w) a S n
  | .ins C dx fs => H dx = some (.own a) /\ fs.length <= 1000 /\ dx ≠ a /\ h.get? a = some (PySem.W.instObj C dx) /\
      ∃ mA,h.Ns1 dx mA /\ (∀ f,RelO (fs.lookup f) (mA f)) /\ PySem.Within mA (fs.map (·.1))
  | .own _ => ∃ o,h.get? a = some o
  | .xd fs => ∃ mA,h.Ns1 a mA /\ ∀ f,RelO (fs.lookup f) (mA f)
  | .rng lo hi => ∃ t u v, h.get? a = some { cls := .type "range", data := .fields #[.int lo t, .int hi u, .int 1 v] }
  | .frz o u => h.get? a = some o /\ ObjOk H h a u
  | .tbl ps => h.get? a = some { cls := .none,data := .fields ps }
  | .met f x => h.get? a = some (PySem.W.methodObj (.ref f) (.ref x))
  | .ext φ => φ h /\ (∃ o,h.get? a = some o) /\ ∀ h1 h2:Heap,φ h1 -> (∀ o,h1.get? a = some o -> h2.get? a = some o) -> φ h2
def HOk (H:Hp) (h:Heap) : Prop := ∀ a o,H a = some o -> ObjOk P w H h a o
end
section
variable {P:Program} {w:World} {H H':Hp} {h h':Heap} {a:Addr} {o:HO}
theorem ObjOk.lt (x:ObjOk P w H h a o) : a < h.objs.size := by
  cases o with
  | lst xs => obtain ⟨_,_,_,_,e⟩ := x; exact Heap.lt_size e
  | tup xs => obtain ⟨_,_,_,p⟩ := x; exact p.lt
  | dK kvs => obtain ⟨_,_,_,_,o,_,_,e,_⟩ := x; exact Heap.lt_size e
  | dT kvs => obtain ⟨_,_,_,_,o,_,_,e,_⟩ := x; exact Heap.lt_size e
  | set S n => obtain ⟨o,_,_,_,e,_⟩ := x; exact Heap.lt_size e
  | ins C dx fs => obtain ⟨_,_,_,e,_⟩ := x; exact Heap.lt_size e
  | own y => obtain ⟨_,e⟩ := x; exact Heap.lt_size e
  | xd fs => obtain ⟨_,⟨_,_,_,e,_⟩,_⟩ := x; exact Heap.lt_size e
  | rng lo hi => obtain ⟨_,_,_,e⟩ := x; exact Heap.lt_size e
  | frz ob u => obtain ⟨e,_⟩ := x; exact Heap.lt_size e
  | tbl ps => exact Heap.lt_size (show h.get? a = some _ from x)
  | met f y => exact Heap.lt_size (show h.get? a = some _ from x)
  | ext φ => obtain ⟨_,⟨_,e⟩,_⟩ := x; exact Heap.lt_size e
theorem Paired.mapP {α β:Type} {F G:α -> β -> Prop} : ∀ {l₁:List α} {l₂:List β},Paired F l₁ l₂ -> (∀ a b,F a b -> G a b) -> Paired G l₁ l₂
  | _,_,.nil,_ => .nil
  | _,_,.cons r t,f => .cons (f _ _ r) (Paired.mapP t f)
theorem ObjOk.stay (x:ObjOk P w H h a o) (k:∀ b u,(b = a \/ H b = some (.own a)) -> h.get? b = some u -> h'.get? b = some u)
    (ho:∀ b,H b = some (.own a) -> H' b = some (.own a)) (ht:∀ b xs,H b = some (.tup xs) -> H' b = some (.tup xs)) : ObjOk P w H' h' a o := by
  induction o with
  | lst xs => obtain ⟨z,its,n,r,e⟩ := x; exact ⟨z,its,n,r,k _ _ (.inl rfl) e⟩
  | tup xs => obtain ⟨z,its,r,ob,e,c⟩ := x; exact ⟨z,its,r,ob,k _ _ (.inl rfl) e,c⟩
  | dK kvs => obtain ⟨z,y,vs,r,ob,es,ep,e,c⟩ := x; exact ⟨z,y,vs,r,ob,es,ep,k _ _ (.inl rfl) e,c⟩
  | dT kvs =>
    obtain ⟨z,y,xs,r,ob,es,ep,e,c⟩ := x
    exact ⟨z,y,xs,Paired.mapP r fun p q z => ⟨z.1,ht _ _ z.2.1,z.2.2⟩,ob,es,ep,k _ _ (.inl rfl) e,c⟩
  | set S n => obtain ⟨ob,es,ep,t,e,c⟩ := x; exact ⟨ob,es,ep,t,k _ _ (.inl rfl) e,c⟩
  | ins C dx fs =>
    obtain ⟨d,z,ne,e,mA,⟨od,es,ep,e2,c⟩,r⟩ := x
    exact ⟨ho _ d,z,ne,k _ _ (.inl rfl) e,mA,⟨od,es,ep,k _ _ (.inr d) e2,c⟩,r⟩
  | own y => obtain ⟨ob,e⟩ := x; exact ⟨ob,k _ _ (.inl rfl) e⟩
  | xd fs => obtain ⟨mA,⟨od,es,ep,e,c⟩,r⟩ := x; exact ⟨mA,⟨od,es,ep,k _ _ (.inl rfl) e,c⟩,r⟩
  | rng lo hi => obtain ⟨t,u,v,e⟩ := x; exact ⟨t,u,v,k _ _ (.inl rfl) e⟩
  | frz ob u ih => obtain ⟨e,q⟩ := x; exact ⟨k _ _ (.inl rfl) e,ih q⟩
  | tbl ps =>
    have e:h.get? a = some { cls := .none,data := .fields ps } := x
    show h'.get? a = some { cls := .none,data := .fields ps }
    exact k a _ (.inl rfl) e
  | met f y =>
    have e:h.get? a = some (PySem.W.methodObj (.ref f) (.ref y)) := x
    show h'.get? a = some (PySem.W.methodObj (.ref f) (.ref y))
    exact k a _ (.inl rfl) e
  | ext φ => obtain ⟨p,⟨o,e⟩,st⟩ := x; exact ⟨st _ _ p fun o q => k _ _ (.inl rfl) q,⟨o,k _ _ (.inl rfl) e⟩,st⟩
theorem HOk.lt (x:HOk P w H h) (e:H a = some o) : a < h.objs.size := (x a o e).lt
theorem HOk.fresh (x:HOk P w H h) (e:h.objs.size <= a) : H a = none := by
  cases q:H a with
  | none => rfl
  | some u => exact absurd (Nat.lt_of_lt_of_le (x.lt q) e) (Nat.lt_irrefl _)
theorem HOk.kept (x:HOk P w H h) (k:∀ b u,h.get? b = some u -> h'.get? b = some u) : HOk P w H h' := fun a o e =>
  (x a o e).stay (fun b u _ q => k b u q) (fun _ q => q) fun _ _ q => q
theorem HOk.laid (x:HOk P w H h) (k:∀ b u,h.get? b = some u -> h'.get? b = some u) (hp:h.objs.size <= a) (new:ObjOk P w (upd H a o) h' a o) : HOk P w (upd H a o) h' := fun b u e => by
  have hn := x.fresh hp
  by_cases hb:b = a
  · subst hb; rw [upd_same] at e; cases e; exact new
  · rw [upd_ne hb] at e
    exact (x b u e).stay (fun c v _ q => k c v q) (fun c q => by rw [upd_ne (ne_of_none q hn)]; exact q) fun c xs q => by rw [upd_ne (ne_of_none q hn)]; exact q
end
def Rd (H:Hp) (a:Addr) (u:HO) : Prop := H a = some u \/ ∃ o,H a = some (.frz o u)
theorem Rd.of {H:Hp} {a:Addr} {u:HO} (h:H a = some u) : Rd H a u := .inl h
theorem Rd.ok {P:Program} {w:World} {H:Hp} {h:Heap} {a:Addr} {u:HO} (r:Rd H a u) (x:HOk P w H h) : ObjOk P w H h a u := by
  rcases r with r | ⟨o,r⟩
  · exact x a u r
  · obtain ⟨_,q⟩ := x a _ r
    exact q
def Mut:Option HO -> Prop
  | some (.lst _) => True
  | some (.dK _) => True
  | some (.dT _) => True
  | some (.set _ _) => True
  | some (.ins _ _ _) => True
  | some (.ext _) => True
  | _ => False
section
variable {P:Program} {w:World} {H:Hp} {h h':Heap} {x e:Addr} {o':HO}
theorem HOk.write (ok:HOk P w H h) (mu:Mut (H x)) (he:e = x \/ H e = some (.own x)) (k:∀ b u,b ≠ e -> h.get? b = some u -> h'.get? b = some u) (heo:∃ u,h'.get? e = some u)
    (new:ObjOk P w (upd H x o') h' x o') : HOk P w (upd H x o') h' := fun b u q => by
  have nown:∀ c y,H c = some (.own y) -> c ≠ x := fun c y r z => by subst z; rw [r] at mu; exact mu
  have ntup:∀ c xs,H c = some (.tup xs) -> c ≠ x := fun c xs r z => by subst z; rw [r] at mu; exact mu
  by_cases hb:b = x
  · subst hb; rw [upd_same] at q; cases q; exact new
  · rw [upd_ne hb] at q
    by_cases hbe:b = e
    · have q':H b = some (.own x) := by
        rcases he with z | z
        · exact absurd (hbe.trans z) hb
        · rw [hbe]; exact z
      rw [q] at q'; cases q'
      obtain ⟨v,hv⟩ := heo
      exact ⟨v,by rw [hbe]; exact hv⟩
    · refine (ok b u q).stay (fun c v hc r => k c v ?_ r) (fun c r => by rw [upd_ne (nown c b r)]; exact r) fun c xs r => by rw [upd_ne (ntup c xs r)]; exact r
      rcases hc with rfl | hc
      · exact hbe
      · rintro rfl
        rcases he with z | z
        · exact nown c b hc z
        · rw [hc] at z; cases z; exact hb rfl
end
structure Un (fs ex:List Addr) (H H':Hp) (h h':Heap) : Prop where
  keep:∀ b o,h.get? b = some o -> H b = none -> b ∉ fs -> b ∉ ex -> h'.get? b = some o
  slot:∀ b o,h.get? b = some o -> H b = none -> b ∈ fs -> b ∉ ex -> ∃ sl,h'.get? b = some { o with slots := sl }
  free:∀ b o,h.get? b = some o -> H b = none -> b ∉ ex -> H' b = none
  there:∀ b o,h.get? b = some o -> b ∉ ex -> ∃ o',h'.get? b = some o'
  tups:∀ b xs,H b = some (.tup xs) -> H' b = some (.tup xs)
  frzs:∀ b o u,H b = some (.frz o u) -> H' b = some (.frz o u)
  tbls:∀ b ps,H b = some (.tbl ps) -> ∃ more,H' b = some (.tbl (ps ++ more))
section
variable {fs fs' ex ex':List Addr} {H H1 H2:Hp} {h h1 h2 h':Heap} {a x e:Addr} {o:HO}
theorem Un.any (u:Un fs ex H H1 h h1) {b:Addr} {ob:Obj} (q:h.get? b = some ob) (n:H b = none) (hx:b ∉ ex) : ∃ sl,h1.get? b = some { ob with slots := sl } := by
  by_cases hb:b ∈ fs
  · exact u.slot b ob q n hb hx
  · exact ⟨ob.slots,u.keep b ob q n hb hx⟩
theorem Un.trans (a:Un fs ex H H1 h h1) (b:Un fs ex H1 H2 h1 h2) : Un fs ex H H2 h h2 where
  keep := fun c ob q n hc hx => b.keep c ob (a.keep c ob q n hc hx) (a.free c ob q n hx) hc hx
  slot := fun c ob q n hc hx => by
    obtain ⟨sl,e1⟩ := a.slot c ob q n hc hx
    obtain ⟨sl',e2⟩ := b.slot c _ e1 (a.free c ob q n hx) hc hx
    exact ⟨sl',e2⟩
  free := fun c ob q n hx => by
    obtain ⟨o',e1⟩ := a.there c ob q hx
    exact b.free c o' e1 (a.free c ob q n hx) hx
  there := fun c ob q hx => by
    obtain ⟨o',e1⟩ := a.there c ob q hx
    exact b.there c o' e1 hx
  tups := fun c xs q => b.tups c xs (a.tups c xs q)
  frzs := fun c ob xs q => b.frzs c ob xs (a.frzs c ob xs q)
  tbls := fun c ps q => by
    obtain ⟨m1,e1⟩ := a.tbls c ps q
    obtain ⟨m2,e2⟩ := b.tbls c _ e1
    exact ⟨m1 ++ m2,by rw [e2,Array.append_assoc]⟩
theorem Un.kept (k:∀ b u,h.get? b = some u -> h'.get? b = some u) : Un fs ex H H h h' :=
  ⟨fun b ob q _ _ _ => k b ob q,fun b ob q _ _ _ => ⟨ob.slots,k b ob q⟩,fun _ _ _ n _ => n,fun b ob q _ => ⟨ob,k b ob q⟩,fun _ _ q => q,fun _ _ _ q => q,fun _ ps q => ⟨#[],by rw [q]; simp⟩⟩
theorem Un.refl:Un fs ex H H h h := Un.kept fun _ _ q => q
theorem Un.laid (k:∀ b u,h.get? b = some u -> h'.get? b = some u) (hp:h.objs.size <= a) (hn:H a = none) : Un fs ex H (upd H a o) h h' where
  keep := fun b u q _ _ _ => k b u q
  slot := fun b u q _ _ _ => ⟨u.slots,k b u q⟩
  free := fun b u q n _ => by rw [upd_ne (Nat.ne_of_lt (Nat.lt_of_lt_of_le (Heap.lt_size q) hp))]; exact n
  there := fun b u q _ => ⟨u,k b u q⟩
  tups := fun b xs q => by rw [upd_ne (ne_of_none q hn)]; exact q
  frzs := fun b u xs q => by rw [upd_ne (ne_of_none q hn)]; exact q
  tbls := fun b ps q => ⟨#[],by rw [upd_ne (ne_of_none q hn),q]; simp⟩
theorem Un.write (mu:Mut (H x)) (he:e = x \/ H e = some (.own x)) (k:∀ b u,b ≠ e -> h.get? b = some u -> h'.get? b = some u) (heo:∃ u,h'.get? e = some u) : Un fs ex H (upd H x o) h h' := by
  have hx:∀ b,H b = none -> b ≠ x := fun b n z => by subst z; rw [n] at mu; exact mu
  have hb:∀ b,H b = none -> b ≠ e := fun b n z => by
    subst z
    rcases he with r | r
    · exact hx b n r
    · rw [n] at r; cases r
  have hm:∀ b u,H b = some u -> ¬ Mut (some u) -> b ≠ x := fun b u q nm z => by subst z; rw [q] at mu; exact nm mu
  refine ⟨fun b u q n _ _ => k b u (hb b n) q,fun b u q n _ _ => ⟨u.slots,k b u (hb b n) q⟩,fun b u q n _ => by rw [upd_ne (hx b n)]; exact n,fun b u q _ => ?_,
    fun b xs q => by rw [upd_ne (hm b _ q fun z => z)]; exact q,fun b u xs q => by rw [upd_ne (hm b _ q fun z => z)]; exact q,fun b ps q => ⟨#[],by rw [upd_ne (hm b _ q fun z => z),q]; simp⟩⟩
  by_cases hbe:b = e
  · subst hbe; exact heo
  · exact ⟨u,k b u hbe q⟩
theorem Un.mono (u:Un fs ex H H1 h h1) (hs:∀ b ∈ fs,b ∈ fs') (hx:∀ b ∈ ex,b ∈ ex') : Un fs' ex' H H1 h h1 :=
  ⟨fun b ob q n hb he => u.keep b ob q n (fun z => hb (hs b z)) fun z => he (hx b z),fun _ _ q n _ he => u.any q n fun z => he (hx _ z),fun b ob q n he => u.free b ob q n fun z => he (hx b z),fun b ob q he => u.there b ob q fun z => he (hx b z),u.tups,u.frzs,u.tbls⟩
end
def trk (h:Heap) (H:Hp) : List Addr := (List.range h.objs.size).filter fun a => (H a).isSome
def hidT (h:Heap) (H:Hp) : Heap := PySem.W.hideAll h (trk h H)
theorem hidT_size (h:Heap) (H:Hp) : (hidT h H).objs.size = h.objs.size := PySem.W.hideAll_size _ _
theorem hidT_get {h:Heap} {H:Hp} {b:Addr} {o:Obj} (e:h.get? b = some o) (n:H b = none) : (hidT h H).get? b = some o :=
  PySem.W.hideAll_get _ e fun hm => by
    have q:(H b).isSome = true := (List.mem_filter.mp hm).2
    rw [n] at q; simp at q
theorem of_hidT {h:Heap} {H:Hp} {b:Addr} {o:Obj} (e:(hidT h H).get? b = some o) : h.get? b = some o /\ H b = none := by
  have e':h.get? b = some o := PySem.W.of_hideAll (trk h H) e
  refine ⟨e',?_⟩
  cases q:H b with
  | none => rfl
  | some x =>
    have hm:b ∈ trk h H := List.mem_filter.mpr ⟨List.mem_range.mpr (Heap.lt_size e'),by simp [q]⟩
    have z:(hidT h H).get? b = none := PySem.W.hideAll_none (trk h H) hm
    rw [z] at e; cases e
def allNews (g h:Heap) (L:Addr) : List (Addr × Obj) := (List.range h.objs.size).filterMap fun a => if a = L \/ (g.get? a).isSome = true then none else (h.get? a).map fun o => (a,o)
def rest (g h:Heap) (L d:Addr) : List (Addr × Obj) := (allNews g h L).filter fun p => decide (p.1 ≠ d)
end L2
namespace L2
open PySem PySem.Spec PyProof.Rows
structure Mod (K:PySem.W.Frag) (mg:Str -> Option Value) (base:Heap) : Prop where
  kin:K.In base
  glob:base.Ns mainGlobals mg
  blt : ∃ mb, base.Ns builtinsNs mb /\ ∀ x : Str, x ≠ "__name__" -> mb x = bootBuiltins x
  nolimit:base.NoLimit
structure Cx where
  prog:Program
  w:World
  K:PySem.W.Frag
  mg:Str -> Option Value
  base:Heap
  A:Around
  N:List Str
  s₀:Shared
  H₀:Hp
  env:Env
  outer:List Env
  stack:List Env
  ex:List Addr
  fn:Str -> Bool
  calm:Bool
  pn:List (Addr × Obj)
  xe:Value -> Shared -> Prop
def frs (l:List Env) : List Addr := l.filterMap (·.frame)
abbrev Cx.fs (X:Cx) : List Addr := frs X.outer
def Vis (sc:Scope) (x:Str) : Prop := sc.names.lookup x = some .local \/ sc.names.lookup x = some .cell \/ sc.names.lookup x = some .free
def Loc (sc:Scope) (x:Str) : Prop := sc.names.lookup x = some .local \/ sc.names.lookup x = some .cell
def Look (env:Env) (h:Heap) (m:Str -> Option Value) (x:Str) (u:Value) : Prop :=
  (env.kindOf x = some .local /\ m x = some u) \/ ((env.kindOf x = some .cell \/ env.kindOf x = some .free) /\ ∃ c,env.cells.lookup x = some c /\ h.IsCell c (some u))
structure Cx.Ok (X:Cx) : Prop where
  mod:Mod X.K X.mg X.base
  kind:X.env.scope.kind = .function
  glob:X.env.globals = mainGlobals
  blt:X.env.builtins = builtinsNs
  above:X.s₀.heap.objs.size <= X.env.locals
  inj:∀ x y c,X.env.cells.lookup x = some c -> X.env.cells.lookup y = some c -> x = y
  has:∀ x,(X.env.kindOf x = some .cell \/ X.env.kindOf x = some .free) -> ∃ c,X.env.cells.lookup x = some c
  cab:∀ x c,X.fn x = true -> X.env.cells.lookup x = some c -> X.s₀.heap.objs.size <= c
  hd:X.calm = true -> X.A.handled = none
  frames:X.A.frames = some X.stack
  stk:X.stack = X.outer \/ (X.stack = X.env :: X.outer /\ X.env.frame = some X.env.locals)
  exf:∀ b ∈ X.ex,b ≠ X.env.locals /\ ∀ x c,X.env.cells.lookup x = some c -> c ≠ b
  bs:∀ b o,X.base.get? b = some o -> X.s₀.heap.get? b = some o /\ X.H₀ b = none
  bsz:X.base.objs.size <= X.s₀.heap.objs.size
  noex:∀ b o,X.base.get? b = some o -> b ∉ X.ex
  exfs:∀ b ∈ X.ex,b ∉ X.fs
  funs:X.s₀.heap.FunFrames X.base X.outer
  frf:∀ b ∈ X.fs,X.H₀ b = none
structure Inv (X:Cx) (pins:List (Addr × Obj)) (σ:List (Option V)) (H:Hp) (s:Shared) : Prop where
  ok:X.Ok
  os:s.os = X.s₀.os
  bare:AllBare s.gens
  base:Un X.fs X.ex X.H₀ H X.s₀.heap s.heap
  loc:∃ m,s.heap.Ns X.env.locals m /\ ∀ (i:Nat) (x:Str) (v:V),X.N[i]? = some x -> σ[i]? = some (some v) -> Vis X.env.scope x -> ∃ u,RelV v u /\ Look X.env s.heap m x u
  cell:∀ x c,X.env.cells.lookup x = some c -> ∃ v,s.heap.IsCell c v
  free:H X.env.locals = none
  freeC:∀ x c,X.env.cells.lookup x = some c -> H c = none
  pin:∀ p ∈ X.pn ++ pins,s.heap.get? p.1 = some p.2 /\ H p.1 = none /\ p.1 ≠ X.env.locals /\ p.1 ∉ X.fs /\ ∀ v,p.2.data ≠ .cell v
  hok:HOk X.prog X.w H s.heap
  len:σ.length = X.N.length
section
variable {X:Cx} {pins:List (Addr × Obj)} {σ:List (Option V)} {H H':Hp} {s:Shared} {h':Heap}
theorem Cx.Ok.nofr (ok:X.Ok) {b:Addr} {o:Obj} (e:X.base.get? b = some o) : b ∉ X.fs := fun hb => by
  have := (ok.funs.mem hb).1
  rw [e] at this; cases this
theorem Inv.bs (I:Inv X pins σ H s) : ∀ b o,X.base.get? b = some o -> s.heap.get? b = some o /\ H b = none := fun b o e =>
  ⟨I.base.keep b o (I.ok.bs b o e).1 (I.ok.bs b o e).2 (I.ok.nofr e) (I.ok.noex b o e),I.base.free b o (I.ok.bs b o e).1 (I.ok.bs b o e).2 (I.ok.noex b o e)⟩
theorem Inv.bk (I:Inv X pins σ H s) : ∀ b o,X.base.get? b = some o -> s.heap.get? b = some o := fun b o e => (I.bs b o e).1
theorem Inv.mod (I:Inv X pins σ H s) : Mod X.K X.mg X.base := I.ok.mod
theorem Inv.kIn (I:Inv X pins σ H s) : X.K.In s.heap := I.ok.mod.kin.keeps I.bk
theorem Inv.nolimit (I:Inv X pins σ H s) : s.heap.NoLimit := I.ok.mod.nolimit.keeps I.bk
theorem Inv.fr (I:Inv X pins σ H s) : ∃ m,Fr X.base X.env.locals s.heap m :=
  let ⟨m,hn,_⟩ := I.loc
  ⟨m,hn,I.bk,Nat.le_trans I.ok.bsz I.ok.above⟩
theorem Inv.lt (I:Inv X pins σ H s) : X.env.locals < s.heap.objs.size := let ⟨_,hn,_⟩ := I.loc; hn.lt
theorem Inv.sz (I:Inv X pins σ H s) : X.s₀.heap.objs.size <= s.heap.objs.size := Nat.le_trans I.ok.above (Nat.le_of_lt I.lt)
theorem Inv.nofs (I:Inv X pins σ H s) {a:Addr} (h:s.heap.objs.size <= a) : a ∉ X.fs := fun hb => by
  obtain ⟨_,o,ho,_⟩ := I.ok.funs.mem hb
  exact absurd (Nat.lt_of_lt_of_le (Heap.lt_size ho) (Nat.le_trans I.sz h)) (Nat.lt_irrefl _)
theorem Inv.cne (I:Inv X pins σ H s) : ∀ x c,X.env.cells.lookup x = some c -> c ≠ X.env.locals := fun x c e z => by
  obtain ⟨v,o,ho,hd⟩ := I.cell x c e
  obtain ⟨m,⟨o',es,ep,ho',hd',_⟩,_⟩ := I.loc
  rw [z,ho'] at ho; cases ho; rw [hd'] at hd; cases hd
theorem Inv.funs (I:Inv X pins σ H s) : s.heap.FunFrames X.base X.outer := by
  have all:∀ (l:List Env),(∀ b ∈ frs l,b ∈ X.fs) -> X.s₀.heap.FunFrames X.base l -> s.heap.FunFrames X.base l := by
    intro l
    induction l with
    | nil => intro _ _; trivial
    | cons env r ih =>
      intro hs hl
      obtain ⟨hk,⟨L,o,hf,hn,ho,hd⟩,hr⟩ := hl
      have hL:L ∈ X.fs := hs L (by unfold frs; rw [List.filterMap_cons,hf]; exact List.mem_cons_self)
      obtain ⟨sl,e⟩ := I.base.slot L o ho (I.ok.frf L hL) hL fun z => I.ok.exfs L z hL
      exact ⟨hk,⟨L,_,hf,hn,e,hd⟩,ih (fun b hb => hs b (by unfold frs; rw [List.filterMap_cons,hf]; exact List.mem_cons_of_mem _ hb)) hr⟩
  exact all X.outer (fun _ hb => hb) I.ok.funs
theorem Inv.stack (I:Inv X pins σ H s) : s.heap.FunFrames X.base X.stack := by
  rcases I.ok.stk with e | ⟨e,hf⟩
  · rw [e]; exact I.funs
  · rw [e]
    obtain ⟨m,hn,_⟩ := I.loc
    refine .cons (by rw [I.ok.kind]; decide) hf hn ?_ I.funs
    exact Heap.get?_none_of_le (Nat.le_trans I.ok.bsz I.ok.above)
theorem Inv.stkSub (I:Inv X pins σ H s) : ∀ b ∈ frs X.stack,b ∈ X.env.locals :: X.fs := fun b hb => by
  rcases I.ok.stk with e | ⟨e,hf⟩
  · rw [e] at hb; exact List.mem_cons_of_mem _ hb
  · rw [e] at hb
    unfold frs at hb
    rw [List.filterMap_cons,hf] at hb
    exact hb
theorem Inv.stkFree (I:Inv X pins σ H s) : ∀ b ∈ frs X.stack,H b = none := fun b hb => by
  rcases List.mem_cons.mp (I.stkSub b hb) with e | hb
  · rw [e]; exact I.free
  · obtain ⟨_,o,ho,_⟩ := I.ok.funs.mem hb
    exact I.base.free b o ho (I.ok.frf b hb) fun z => I.ok.exfs b z hb
theorem Inv.step {g':Array GenState} {t':Nat} {d':Drawn} {ch:List Addr} (I:Inv X pins σ H s)
    (hch:∀ b ∈ ch,(b ∈ X.ex \/ X.s₀.heap.objs.size <= b) /\ b ≠ X.env.locals /\ (∀ x c,X.env.cells.lookup x = some c -> c ≠ b) /\ ∀ p ∈ X.pn ++ pins,p.1 ≠ b)
    (keep:∀ b o,b ≠ X.env.locals -> b ∉ X.fs -> b ∉ ch -> s.heap.get? b = some o -> H b = none -> h'.get? b = some o)
    (slot:∀ b o,b ≠ X.env.locals -> b ∈ X.fs -> b ∉ ch -> s.heap.get? b = some o -> H b = none -> ∃ sl,h'.get? b = some { o with slots := sl }) (free:∀ b o,b ∉ ch -> s.heap.get? b = some o -> H b = none -> H' b = none)
    (there:∀ b o,b ∉ ch -> s.heap.get? b = some o -> ∃ o',h'.get? b = some o')
    (tups:∀ b xs,H b = some (.tup xs) -> H' b = some (.tup xs)) (frzs:∀ b o u,H b = some (.frz o u) -> H' b = some (.frz o u)) (tbls:∀ b ps,H b = some (.tbl ps) -> ∃ more,H' b = some (.tbl (ps ++ more)))
    (ns:∀ m,s.heap.Ns X.env.locals m -> h'.Ns X.env.locals m) (hok:HOk X.prog X.w H' h') (hg:AllBare g') :
    Inv X pins σ H' { s with heap := h',gens := g',drawn := d',toks := t' } := by
  have neL:∀ b o,X.s₀.heap.get? b = some o -> b ≠ X.env.locals := fun b o e => Nat.ne_of_lt (Nat.lt_of_lt_of_le (Heap.lt_size e) I.ok.above)
  have neC:∀ b o,X.s₀.heap.get? b = some o -> b ∉ X.ex -> b ∉ ch := fun b o e hx hb => by
    rcases (hch b hb).1 with z | z
    · exact hx z
    · exact absurd (Nat.lt_of_lt_of_le (Heap.lt_size e) z) (Nat.lt_irrefl _)
  have cellK:∀ x c,X.env.cells.lookup x = some c -> ∀ v,s.heap.IsCell c v -> h'.IsCell c v := fun x c e v ⟨o,ho,hd⟩ => by
    have nch:c ∉ ch := fun z => (hch c z).2.2.1 x c e rfl
    by_cases hc:c ∈ X.fs
    · obtain ⟨sl,q⟩ := slot c o (I.cne x c e) hc nch ho (I.freeC x c e)
      exact ⟨_,q,hd⟩
    · exact ⟨o,keep c o (I.cne x c e) hc nch ho (I.freeC x c e),hd⟩
  refine ⟨I.ok,I.os,hg,⟨fun b o e n hb hx => ?_,fun b o e n hb hx => ?_,fun b o e n hx => ?_,fun b o e hx => ?_,fun b xs e => tups b xs (I.base.tups b xs e),fun b o xs e => frzs b o xs (I.base.frzs b o xs e),fun b ps e => ?_⟩,?_,fun x c e => ?_,?_,fun x c e => ?_,fun p hp => ?_,hok,I.len⟩
  · exact keep b o (neL b o e) hb (neC b o e hx) (I.base.keep b o e n hb hx) (I.base.free b o e n hx)
  · obtain ⟨sl,e1⟩ := I.base.slot b o e n hb hx
    obtain ⟨sl',e2⟩ := slot b _ (neL b o e) hb (neC b o e hx) e1 (I.base.free b o e n hx)
    exact ⟨sl',e2⟩
  · obtain ⟨o',e1⟩ := I.base.there b o e hx
    exact free b o' (neC b o e hx) e1 (I.base.free b o e n hx)
  · obtain ⟨o',e1⟩ := I.base.there b o e hx
    exact there b o' (neC b o e hx) e1
  · obtain ⟨m1,e1⟩ := I.base.tbls b ps e
    obtain ⟨m2,e2⟩ := tbls b _ e1
    exact ⟨m1 ++ m2,by rw [e2,Array.append_assoc]⟩
  · obtain ⟨m,hn,hl⟩ := I.loc
    refine ⟨m,ns m hn,fun i x v e1 e2 e3 => ?_⟩
    obtain ⟨u,r,l⟩ := hl i x v e1 e2 e3
    refine ⟨u,r,?_⟩
    rcases l with l | ⟨k,c,e,z⟩
    · exact .inl l
    · exact .inr ⟨k,c,e,cellK x c e _ z⟩
  · obtain ⟨v,z⟩ := I.cell x c e
    exact ⟨v,cellK x c e v z⟩
  · obtain ⟨m,⟨o,_,_,ho,_⟩,_⟩ := I.loc
    exact free _ o (fun z => (hch _ z).2.1 rfl) ho I.free
  · obtain ⟨v,o,ho,hd⟩ := I.cell x c e
    exact free c o (fun z => (hch c z).2.2.1 x c e rfl) ho (I.freeC x c e)
  · obtain ⟨e,n,ne,nf,d⟩ := I.pin p hp
    have nch:p.1 ∉ ch := fun z => (hch p.1 z).2.2.2 p hp rfl
    exact ⟨keep p.1 p.2 ne nf nch e n,free p.1 p.2 nch e n,ne,nf,d⟩
theorem Inv.un {t':Nat} (I:Inv X pins σ H s) (u:Un X.fs [] H H' s.heap h') (hok:HOk X.prog X.w H' h') : Inv X pins σ H' { s with heap := h',toks := t' } := by
  obtain ⟨m,⟨o,es,ep,ho,r⟩,_⟩ := id I.loc
  obtain ⟨sl,hL⟩ := u.any ho I.free (by simp)
  exact I.step (g' := s.gens) (d' := s.drawn) (ch := []) (fun _ z => nomatch z) (fun b o _ hb _ e n => u.keep b o e n hb (by simp)) (fun b o _ hb _ e n => u.slot b o e n hb (by simp)) (fun b o _ e n => u.free b o e n (by simp)) (fun b o _ e => u.there b o e (by simp)) u.tups u.frzs u.tbls (fun m' hm => by
    obtain ⟨o',es',ep',ho',r'⟩ := hm
    rw [ho] at ho'; cases ho'
    exact ⟨_,es',ep',hL,r'⟩) hok I.bare
theorem Inv.call {g':Array GenState} {t':Nat} {d':Drawn} {ch:List Addr} (I:Inv X pins σ H s) (u:Un (frs X.stack) ch H H' s.heap h') (hok:HOk X.prog X.w H' h') (hg:AllBare g')
    (hch:∀ b ∈ ch,(b ∈ X.ex \/ X.s₀.heap.objs.size <= b) /\ b ≠ X.env.locals /\ (∀ x c,X.env.cells.lookup x = some c -> c ≠ b) /\ ∀ p ∈ X.pn ++ pins,p.1 ≠ b) :
    Inv X pins σ H' { s with heap := h',gens := g',drawn := d',toks := t' } := by
  obtain ⟨m,⟨o,es,ep,ho,r⟩,_⟩ := id I.loc
  obtain ⟨sl,hL⟩ := u.any ho I.free fun z => (hch _ z).2.1 rfl
  exact I.step (ch := ch) hch (fun b o hL hb hc e n => u.keep b o e n (fun z => (List.mem_cons.mp (I.stkSub b z)).elim hL hb) hc) (fun b o _ _ hc e n => u.any e n hc) (fun b o hc e n => u.free b o e n hc) (fun b o hc e => u.there b o e hc) u.tups u.frzs u.tbls (fun m' hm => by
    obtain ⟨o',es',ep',ho',r'⟩ := hm
    rw [ho] at ho'; cases ho'
    exact ⟨_,es',ep',hL,r'⟩) hok hg
theorem Inv.turned {t':Nat} {it:Addr} (I:Inv X pins σ H s) (k:∀ b o,b ≠ it -> s.heap.get? b = some o -> h'.get? b = some o) (hn:H it = none) (hL:it ≠ X.env.locals)
    (h1:it ∈ X.ex \/ X.s₀.heap.objs.size <= it) (h2:∀ x c,X.env.cells.lookup x = some c -> c ≠ it) (h3:∀ p ∈ X.pn ++ pins,p.1 ≠ it) : Inv X pins σ H { s with heap := h',toks := t' } := by
  have nit:∀ b u,H b = some u -> b ≠ it := fun b u e z => by rw [z,hn] at e; cases e
  refine I.step (g' := s.gens) (d' := s.drawn) (ch := [it]) (fun b hb => ?_) (fun b o _ _ hc e _ => k b o (fun z => hc (by simp [z])) e) (fun b o _ _ hc e _ => ⟨o.slots,k b o (fun z => hc (by simp [z])) e⟩) (fun _ _ _ _ n => n)
    (fun b o hc e => ⟨o,k b o (fun z => hc (by simp [z])) e⟩) (fun _ _ e => e) (fun _ _ _ e => e) (fun b ps e => ⟨#[],by rw [e]; simp⟩) (fun m hm => ?_) (fun b u e => ?_) I.bare
  · have e:b = it := by simpa using hb
    subst e
    exact ⟨h1,hL,h2,h3⟩
  · obtain ⟨o,es,ep,ho,r⟩ := hm
    exact ⟨o,es,ep,k _ o (Ne.symm hL) ho,r⟩
  · refine (I.hok b u e).stay (fun c v hc q => k c v ?_ q) (fun _ q => q) fun _ _ q => q
    rcases hc with z | z
    · rw [z]; exact nit b u e
    · exact nit c _ z
theorem Inv.tok (I:Inv X pins σ H s) (t:Nat) : Inv X pins σ H { s with toks := t } := I.un (h' := s.heap) (t' := t) Un.refl I.hok
theorem Inv.kept {t':Nat} (I:Inv X pins σ H s) (k:∀ b u,s.heap.get? b = some u -> h'.get? b = some u) : Inv X pins σ H { s with heap := h',toks := t' } := I.un (Un.kept k) (I.hok.kept k)
theorem Inv.laid {a:Addr} {o:HO} {t':Nat} (I:Inv X pins σ H s) (k:∀ b u,s.heap.get? b = some u -> h'.get? b = some u) (hp:s.heap.objs.size <= a) (new:ObjOk X.prog X.w (upd H a o) h' a o) :
    Inv X pins σ (upd H a o) { s with heap := h',toks := t' } := I.un (Un.laid k hp (I.hok.fresh hp)) (I.hok.laid k hp new)
theorem Inv.write {x e:Addr} {o:HO} {t':Nat} (I:Inv X pins σ H s) (mu:Mut (H x)) (he:e = x \/ H e = some (.own x)) (k:∀ b u,b ≠ e -> s.heap.get? b = some u -> h'.get? b = some u) (heo:∃ u,h'.get? e = some u)
    (new:ObjOk X.prog X.w (upd H x o) h' x o) : Inv X pins σ (upd H x o) { s with heap := h',toks := t' } := I.un (Un.write mu he k heo) (I.hok.write mu he k heo new)
theorem Inv.weak {σ':List (Option V)} (I:Inv X pins σ H s) (hl:σ'.length = σ.length) (w:∀ (i:Nat) v,σ'[i]? = some (some v) -> σ[i]? = some (some v)) : Inv X pins σ' H s :=
  ⟨I.ok,I.os,I.bare,I.base,let ⟨m,hn,hl'⟩ := I.loc; ⟨m,hn,fun i x v e1 e2 e3 => hl' i x v e1 (w i v e2) e3⟩,I.cell,I.free,I.freeC,I.pin,I.hok,hl.trans I.len⟩
theorem Inv.pins_of {pins':List (Addr × Obj)} (I:Inv X pins σ H s) (h:∀ p ∈ pins',s.heap.get? p.1 = some p.2 /\ H p.1 = none /\ p.1 ≠ X.env.locals /\ p.1 ∉ X.fs /\ ∀ v,p.2.data ≠ .cell v) : Inv X pins' σ H s :=
  ⟨I.ok,I.os,I.bare,I.base,I.loc,I.cell,I.free,I.freeC,fun p hp => (List.mem_append.mp hp).elim (fun z => I.pin p (List.mem_append_left _ z)) (h p),I.hok,I.len⟩
theorem nodup_ix {N:List Str} (hN:N.Nodup) {i j:Nat} {x:Str} (a:N[i]? = some x) (b:N[j]? = some x) : i = j := by
  obtain ⟨h1,e1⟩ := List.getElem?_eq_some_iff.mp a
  obtain ⟨h2,e2⟩ := List.getElem?_eq_some_iff.mp b
  exact (List.getElem_inj hN).mp (e1.trans e2.symm)
theorem store_ok2 {M:Model} {A:Around} {E:Value -> Shared -> Prop} {i:Nat} {x:Str} {v:V} {u:Value} {Q:Unit -> Shared -> Prop} (I:Inv X pins σ H s) (hN:X.N.Nodup) (hi:X.N[i]? = some x) (hx:Loc X.env.scope x) (r:RelV v u)
    (h:∀ s',Inv X pins (σ.set i (some v)) H s' -> (∃ a,Heap.SameBut a s.heap s'.heap /\ (a = X.env.locals \/ X.env.cells.lookup x = some a)) -> Q () s') (hf:X.fn x = true \/ X.env.scope.names.lookup x = some .local := by first | exact .inl rfl | exact .inr rfl | assumption) : wpAny M A (storeName X.env x u) Q E s := by
  obtain ⟨m,hn,hl⟩ := id I.loc
  have hcls:(X.env.scope.kind == .class || (X.env.scope.kind == .module && X.env.locals != X.env.globals)) = false := by rw [I.ok.kind]; rfl
  have hiσ:i < σ.length := by rw [I.len]; exact (List.getElem?_eq_some_iff.mp hi).1
  have cne := I.cne
  have tracked:∀ {a:Addr} {h':Heap},(∃ o,s.heap.get? a = some o /\ H a = none) -> Heap.SameBut a s.heap h' -> HOk X.prog X.w H h' := fun {a h'} ha hs b ob e => by
    obtain ⟨_,_,hfree⟩ := ha
    refine (I.hok b ob e).stay (fun c w' hc q => (hs.2 c ?_).trans q) (fun _ q => q) fun _ _ q => q
    rintro rfl
    rcases hc with rfl | hc
    · rw [hfree] at e; cases e
    · rw [hfree] at hc; cases hc
  rcases hx with hk | hk
  · refine wpAny_storeName_local hk hn (fun h' hn' hs => ?_) hcls
    obtain ⟨oL,_,_,hoL,_⟩ := id hn
    refine h _ ⟨I.ok,I.os,I.bare,⟨fun b o e n hb hx => ?_,fun b o e n hb hx => ?_,I.base.free,fun b o e hx => ?_,I.base.tups,I.base.frzs,I.base.tbls⟩,⟨_,hn',fun j y v' e1 e2 e3 => ?_⟩,fun y c e => ?_,I.free,I.freeC,fun p hp => ?_,tracked ⟨oL,hoL,I.free⟩ hs,by simpa using I.len⟩ ⟨_,hs,.inl rfl⟩
    · exact (hs.2 b (Nat.ne_of_lt (Nat.lt_of_lt_of_le (Heap.lt_size e) I.ok.above))).trans (I.base.keep b o e n hb hx)
    · obtain ⟨sl,e1⟩ := I.base.slot b o e n hb hx
      exact ⟨sl,(hs.2 b (Nat.ne_of_lt (Nat.lt_of_lt_of_le (Heap.lt_size e) I.ok.above))).trans e1⟩
    · obtain ⟨o',e1⟩ := I.base.there b o e hx
      exact ⟨o',(hs.2 b (Nat.ne_of_lt (Nat.lt_of_lt_of_le (Heap.lt_size e) I.ok.above))).trans e1⟩
    · by_cases hj : j = i
      · subst hj
        rw [hi] at e1; cases e1
        rw [List.getElem?_set_self hiσ] at e2
        cases e2
        exact ⟨u,r,.inl ⟨hk,by simp⟩⟩
      · rw [List.getElem?_set_ne (Ne.symm hj)] at e2
        obtain ⟨u',r',q⟩ := hl j y v' e1 e2 e3
        refine ⟨u',r',?_⟩
        rcases q with ⟨k,e⟩ | ⟨k,c,e,z⟩
        · refine .inl ⟨k,?_⟩
          have:y ≠ x := fun e => hj (nodup_ix hN e1 (e ▸ hi))
          simp [this,e]
        · exact .inr ⟨k,c,e,z.sameBut hs (cne y c e)⟩
    · obtain ⟨w',z⟩ := I.cell y c e
      exact ⟨w',z.sameBut hs (cne y c e)⟩
    · obtain ⟨e,n,ne,nf,d⟩ := I.pin p hp
      exact ⟨(hs.2 p.1 ne).trans e,n,ne,nf,d⟩
  · have hfn:X.fn x = true := by
      rcases hf with z | z
      · exact z
      · rw [z] at hk; cases hk
    obtain ⟨c,hc⟩ := I.ok.has x (.inl hk)
    obtain ⟨w',z⟩ := I.cell x c hc
    refine wpAny_storeName_cell I.ok.kind hk hc z (fun h' hc' hs => ?_)
    obtain ⟨oc,hoc,hocd⟩ := id z
    refine h { s with heap := h' } ⟨I.ok,I.os,I.bare,⟨fun b o e n hb hx => ?_,fun b o e n hb hx => ?_,I.base.free,fun b o e hx => ?_,I.base.tups,I.base.frzs,I.base.tbls⟩,⟨m,hn.sameBut hs (Ne.symm (cne x c hc)),fun j y v' e1 e2 e3 => ?_⟩,fun y c' e => ?_,I.free,I.freeC,fun p hp => ?_,tracked ⟨oc,hoc,I.freeC x c hc⟩ hs,by simpa using I.len⟩ ⟨c,hs,.inr hc⟩
    · exact (hs.2 b (Nat.ne_of_lt (Nat.lt_of_lt_of_le (Heap.lt_size e) (I.ok.cab x c hfn hc)))).trans (I.base.keep b o e n hb hx)
    · obtain ⟨sl,e1⟩ := I.base.slot b o e n hb hx
      exact ⟨sl,(hs.2 b (Nat.ne_of_lt (Nat.lt_of_lt_of_le (Heap.lt_size e) (I.ok.cab x c hfn hc)))).trans e1⟩
    · obtain ⟨o',e1⟩ := I.base.there b o e hx
      exact ⟨o',(hs.2 b (Nat.ne_of_lt (Nat.lt_of_lt_of_le (Heap.lt_size e) (I.ok.cab x c hfn hc)))).trans e1⟩
    · by_cases hj : j = i
      · subst hj
        rw [hi] at e1; cases e1
        rw [List.getElem?_set_self hiσ] at e2
        cases e2
        exact ⟨u,r,.inr ⟨.inl hk,c,hc,hc'⟩⟩
      · rw [List.getElem?_set_ne (Ne.symm hj)] at e2
        obtain ⟨u',r',q⟩ := hl j y v' e1 e2 e3
        refine ⟨u',r',?_⟩
        rcases q with q | ⟨k,c',e,z'⟩
        · exact .inl q
        · refine .inr ⟨k,c',e,z'.sameBut hs ?_⟩
          rintro rfl
          exact hj (nodup_ix hN e1 (I.ok.inj _ _ _ e hc ▸ hi))
    · by_cases hcc : c' = c
      · subst hcc; exact ⟨_,hc'⟩
      · obtain ⟨w2,z2⟩ := I.cell y c' e
        exact ⟨w2,z2.sameBut hs hcc⟩
    · obtain ⟨e,n,ne,nf,d⟩ := I.pin p hp
      refine ⟨(hs.2 p.1 ?_).trans e,n,ne,nf,d⟩
      intro q
      rw [q,hoc] at e
      have q':oc = p.2 := Option.some.inj e
      exact d w' (by rw [<- q']; exact hocd)
theorem store_ok {M:Model} {A:Around} {E:Value -> Shared -> Prop} {i:Nat} {x:Str} {v:V} {u:Value} {Q:Unit -> Shared -> Prop} (I:Inv X pins σ H s) (hN:X.N.Nodup) (hi:X.N[i]? = some x) (hx:Loc X.env.scope x) (r:RelV v u)
    (h:∀ s',Inv X pins (σ.set i (some v)) H s' -> Q () s') (hf:X.fn x = true \/ X.env.scope.names.lookup x = some .local := by first | exact .inl rfl | exact .inr rfl | assumption) : wpAny M A (storeName X.env x u) Q E s :=
  store_ok2 I hN hi hx r (fun s' I' _ => h s' I') hf
theorem Inv.call' {s':Shared} {ch:List Addr} (I:Inv X pins σ H s) (ho:s'.os = s.os) (u:Un (frs X.stack) ch H H' s.heap s'.heap) (hok:HOk X.prog X.w H' s'.heap) (hg:AllBare s'.gens)
    (hch:∀ b ∈ ch,(b ∈ X.ex \/ X.s₀.heap.objs.size <= b) /\ b ≠ X.env.locals /\ (∀ x c,X.env.cells.lookup x = some c -> c ≠ b) /\ ∀ p ∈ X.pn ++ pins,p.1 ≠ b) : Inv X pins σ H' s' := by
  obtain ⟨h',g',d',t',o'⟩ := s'
  have e:o' = s.os := ho
  subst e
  exact I.call (g' := g') (t' := t') (d' := d') u hok hg hch
end
abbrev XK := Value -> Option Addr -> Hp -> Prop
abbrev St := List (Option V)
abbrev VK := V -> Hp -> Prop
abbrev TE := St -> Hp -> VK -> Prop
abbrev TT := St -> Hp -> (Bool -> Hp -> Prop) -> Prop
abbrev TA := St -> Hp -> (List V -> Hp -> Prop) -> Prop
structure Ends where
  nx:St -> Hp -> Prop
  rt:VK
  bk:St -> Hp -> Prop := fun _ _ => False
  ct:St -> Hp -> Prop := fun _ _ => False
abbrev TS := Ends -> St -> Hp -> Prop
def EP (X:Cx) (pins:List (Addr × Obj)) (σ:St) (Q:VK) (u:Value) (s':Shared) : Prop := ∃ v H',Inv X pins σ H' s' /\ RelV v u /\ Q v H'
def TP (X:Cx) (pins:List (Addr × Obj)) (σ:St) (Q:Bool -> Hp -> Prop) (b:Bool) (s':Shared) : Prop := ∃ H',Inv X pins σ H' s' /\ Q b H'
def AP (X:Cx) (pins:List (Addr × Obj)) (σ:St) (Q:List V -> Hp -> Prop) (us:List Value) (s':Shared) : Prop := ∃ vs H',Inv X pins σ H' s' /\ Vals vs us /\ Q vs H'
def SP (X:Cx) (pins:List (Addr × Obj)) (D:Ends) (f:Flow) (s':Shared) : Prop :=
  match f with
  | .next => ∃ σ' H',Inv X pins σ' H' s' /\ D.nx σ' H'
  | .brk => ∃ σ' H',Inv X pins σ' H' s' /\ D.bk σ' H'
  | .cont => ∃ σ' H',Inv X pins σ' H' s' /\ D.ct σ' H'
  | .ret u => ∃ v σ' H',Inv X pins σ' H' s' /\ RelV v u /\ D.rt v H'
def PE (X:Cx) (e:Expr) (t:TE) : Prop :=
  ∀ (pins:List (Addr × Obj)) (s:Shared) (σ:St) (H:Hp) (Q:VK),Inv X pins σ H s -> t σ H Q -> wpAny (model X.prog X.w) X.A (eval e X.env) (EP X pins σ Q) X.xe s
def PT (X:Cx) (e:Expr) (t:TT) : Prop :=
  ∀ (pins:List (Addr × Obj)) (s:Shared) (σ:St) (H:Hp) (Q:Bool -> Hp -> Prop),Inv X pins σ H s -> t σ H Q -> wpAny (model X.prog X.w) X.A (isTrue e X.env (eval e X.env)) (TP X pins σ Q) X.xe s
def PW (X:Cx) (e:Expr) (t:TT) : Prop :=
  ∀ (whole:Sem Value) (pins:List (Addr × Obj)) (s:Shared) (σ:St) (H:Hp) (Q:Bool -> Hp -> Prop),Inv X pins σ H s -> t σ H Q -> wpAny (model X.prog X.w) X.A (isTrue e X.env whole) (TP X pins σ Q) X.xe s
theorem PW.pt {X:Cx} {e:Expr} {t:TT} (h:PW X e t) : PT X e t := h _
def PA (X:Cx) (es:List Expr) (t:TA) : Prop :=
  ∀ (pos:Pos) (pins:List (Addr × Obj)) (s:Shared) (σ:St) (H:Hp) (Q:List V -> Hp -> Prop),Inv X pins σ H s -> t σ H Q -> wpAny (model X.prog X.w) X.A (spliced (backTo pos (starEach es X.env))) (AP X pins σ Q) X.xe s
def PS (X:Cx) (st:Stmt) (t:TS) : Prop :=
  ∀ (pins:List (Addr × Obj)) (s:Shared) (σ:St) (H:Hp) (D:Ends),Inv X pins σ H s -> t D σ H -> wpAny (model X.prog X.w) X.A (exec st X.env) (SP X pins D) X.xe s
def PSs (X:Cx) (st:List Stmt) (t:TS) : Prop :=
  ∀ (pins:List (Addr × Obj)) (s:Shared) (σ:St) (H:Hp) (D:Ends),Inv X pins σ H s -> t D σ H -> wpAny (model X.prog X.w) X.A (execs st X.env) (SP X pins D) X.xe s
theorem thn {α:Type} {t:Sem α} {Q Q':α -> Shared -> Prop} {M:Model} {A:Around} {E:Value -> Shared -> Prop} {s:Shared} (h:wpAny M A t Q E s) (hQ:∀ a s,Q a s -> Q' a s) : wpAny M A t Q' E s := wpAny_mono h hQ fun _ _ x => x
end L2
namespace L2
open PySem PySem.Spec PyProof.Rows
section
variable {X:Cx}
def tVar (i:Nat) : TE := fun σ H Q => ∃ v,σ[i]? = some (some v) /\ Q v H
def tC (v:V) : TE := fun _ H Q => Q v H
theorem pe_var {i : Nat} {x : Str} {pos : Pos} (hN : X.N[i]? = some x) (hv : Vis X.env.scope x) (hd : (x == ("__debug__" : Str)) = false := by decide) (hcd : (x == ("__classdict__" : Str)) = false := by decide) : PE X (.Name x pos) (tVar i) := by
  intro pins s σ H Q I h
  obtain ⟨v,e,h⟩ := h
  obtain ⟨m,hn,hl⟩ := I.loc
  obtain ⟨u,r,l⟩ := hl i x v hN e hv
  have fin:EP X pins σ Q u s := ⟨v,H,I,r,h⟩
  rcases l with ⟨hk,hm⟩ | ⟨hk,c,hc,hcell⟩
  · exact wpAny_Name (wpAny_loadName_local I.ok.kind hk hn hm fin) hd
  · rcases hk with hk | hk
    · exact wpAny_Name (wpAny_loadName_cell I.ok.kind hk hc hcell fin) hd
    · exact wpAny_Name (wpAny_loadName_free I.ok.kind hk hc hcell fin hcd) hd
theorem pe_int {i j pos} : PE X (.Constant (.int i) j pos) (tC (.int i)) := fun _ _ _ H _ I h => wpAny_Constant_int ⟨.int i,H,I.tok _,⟨_,rfl⟩,h⟩
theorem pe_bl {b j pos} : PE X (.Constant (.bool b) j pos) (tC (.bl b)) := fun _ _ _ H _ I h => Constant_bool ⟨.bl b,H,I,rfl,h⟩
theorem pe_non {j pos} : PE X (.Constant .none j pos) (tC .non) := fun _ _ _ H _ I h => Constant_none ⟨.non,H,I,rfl,h⟩
theorem pe_str {x j pos} : PE X (.Constant (.str x) j pos) (tC (.str x)) := fun _ _ _ H _ I h => Calls.Constant_str ⟨.str x,H,I.tok _,⟨_,rfl⟩,h⟩
def Gl (X:Cx) (x:Str) : Prop := X.env.kindOf x = some .globalImplicit
theorem ld_glob {E:Value -> Shared -> Prop} {pins:List (Addr × Obj)} {s:Shared} {σ:St} {H:Hp} {x:Str} {u:Value} {pos:Pos} {Q:Value -> Shared -> Prop} (I:Inv X pins σ H s) (hg:Gl X x) (hm:X.mg x = some u) (h:Q u s)
    (hd : (x == ("__debug__" : Str)) = false := by decide) : wpAny (model X.prog X.w) X.A (eval (.Name x pos) X.env) Q E s :=
  Calls.Name_function_global I.ok.kind hg (Calls.loadGlobal_global (by rw [I.ok.glob]; exact I.mod.glob.keeps I.bk) hm h) hd
theorem ld_blt {E:Value -> Shared -> Prop} {pins:List (Addr × Obj)} {s:Shared} {σ:St} {H:Hp} {x:Str} {u:Value} {pos:Pos} {Q:Value -> Shared -> Prop} (I:Inv X pins σ H s) (hg:Gl X x) (hm:X.mg x = none) (hv:bootBuiltins x = some u) (h:Q u s)
    (hn : x ≠ "__name__" := by decide) (hd : (x == ("__debug__" : Str)) = false := by decide) : wpAny (model X.prog X.w) X.A (eval (.Name x pos) X.env) Q E s := by
  obtain ⟨mb,h1,h2⟩ := I.mod.blt
  exact Calls.Name_function_global I.ok.kind hg (Calls.loadGlobal_builtin (by rw [I.ok.glob]; exact I.mod.glob.keeps I.bk) hm (by rw [I.ok.blt]; exact h1.keeps I.bk) ((h2 x hn).trans hv) h) hd
theorem pe_bltn {x : Str} {v : V} {u : Value} {pos : Pos} (hg : Gl X x) (hm : X.mg x = none) (hv : bootBuiltins x = some u) (r : RelV v u) (hn : x ≠ "__name__" := by decide) (hd : (x == ("__debug__" : Str)) = false := by decide) : PE X (.Name x pos) (tC v) :=
  fun _ _ _ H _ I h => ld_blt I hg hm hv ⟨v,H,I,r,h⟩ hn hd
variable {a b:Expr} {ta tb:TE} {pos:Pos}
variable {tA tB':TT} {rest:List Expr}
def tAnd (t u:TT) : TT := fun σ H Q => t σ H fun c H1 => if c = true then u σ H1 Q else Q false H1
def tOr (t u:TT) : TT := fun σ H Q => t σ H fun c H1 => if c = true then Q true H1 else u σ H1 Q
def tNot (t:TT) : TT := fun σ H Q => t σ H fun c H1 => Q (!c) H1
theorem pw_and1 (ha:PT X a tA) : PW X (.BoolOp .And [a] pos) tA := by
  intro wh pins s σ H Q I h
  refine isTrue_and (thn (ha pins s σ H Q I h) fun c s1 e => ?_)
  cases c with
  | true => exact isTrue_and_nil e
  | false => exact e
theorem pw_or1 (ha:PT X a tA) : PW X (.BoolOp .Or [a] pos) tA := by
  intro wh pins s σ H Q I h
  refine isTrue_or (thn (ha pins s σ H Q I h) fun c s1 e => ?_)
  cases c with
  | false => exact isTrue_or_nil e
  | true => exact e
theorem pw_and (ha:PT X a tA) (hb:PW X (.BoolOp .And (b :: rest) pos) tB') : PW X (.BoolOp .And (a :: b :: rest) pos) (tAnd tA tB') := by
  intro wh pins s σ H Q I h
  refine isTrue_and (thn (ha pins s σ H _ I h) fun c s1 ⟨H1,I1,q1⟩ => ?_)
  cases c with
  | true => exact hb wh pins s1 σ H1 Q I1 q1
  | false => exact ⟨H1,I1,q1⟩
theorem pw_or (ha:PT X a tA) (hb:PW X (.BoolOp .Or (b :: rest) pos) tB') : PW X (.BoolOp .Or (a :: b :: rest) pos) (tOr tA tB') := by
  intro wh pins s σ H Q I h
  refine isTrue_or (thn (ha pins s σ H _ I h) fun c s1 ⟨H1,I1,q1⟩ => ?_)
  cases c with
  | true => exact ⟨H1,I1,q1⟩
  | false => exact hb wh pins s1 σ H1 Q I1 q1
theorem pt_not (ha:PT X a tA) : PT X (.UnaryOp .Not a pos) (tNot tA) := by
  intro pins s σ H Q I h
  exact isTrue_not (ha pins s σ H (fun c H1 => Q (!c) H1) I h)
def tAndV (ta tb:TE) : TE := fun σ H Q => ta σ H fun x H1 => ∃ c,x = .bl c /\ if c = true then tb σ H1 Q else Q (.bl false) H1
def tNotV (ta:TE) : TE := fun σ H Q => ta σ H fun x H1 => ∃ c,x = .bl c /\ Q (.bl (!c)) H1
theorem pe_one {op} {t:TE} (h:PE X a t) : PE X (.BoolOp op [a] pos) t := fun pins s σ H Q I hw => BoolOp_one (h pins s σ H Q I hw)
theorem pe_and (ha:PE X a ta) (hb:PE X (.BoolOp .And (b :: rest) pos) tb) : PE X (.BoolOp .And (a :: b :: rest) pos) (tAndV ta tb) := by
  intro pins s σ H Q I h
  refine BoolOp_and (thn (ha pins s σ H _ I h) fun v s1 ⟨x,H1,I1,r1,q1⟩ => ?_)
  obtain ⟨c,rfl,q1⟩ := q1
  cases r1
  refine wpAny_truthy_bool ?_
  cases c with
  | true => exact hb pins s1 σ H1 Q I1 q1
  | false => exact ⟨.bl false,H1,I1,rfl,q1⟩
theorem pe_not (ha:PE X a ta) : PE X (.UnaryOp .Not a pos) (tNotV ta) := by
  intro pins s σ H Q I h
  refine UnaryOp_ (thn (ha pins s σ H _ I h) fun v s1 ⟨x,H1,I1,r1,q1⟩ => ?_)
  obtain ⟨c,rfl,q1⟩ := q1
  cases r1
  exact not_of (wpAny_truthy_bool ⟨.bl (!c),H1,I1,rfl,q1⟩)
end
end L2
namespace L2
open PySem PySem.Spec PyProof.Rows
def SqL (K:PySem.W.Frag) (H:Hp) (a:Addr) (xs:List V) : Prop :=
  Rd H a (.lst xs) \/
    ∃ (o : Obj) (its : Array Value) (n : Nat), K.lookup a = some o /\ o.cls = .type "list" /\ o.dict = none /\ o.data = .seq its n /\ its.size <= sizeLine /\ Vals xs its.toList
def SqT (K:PySem.W.Frag) (H:Hp) (a:Addr) (xs:List V) : Prop :=
  Rd H a (.tup xs) \/
    ∃ (o : Obj) (its : Array Value) (n : Nat), K.lookup a = some o /\ o.cls = .type "tuple" /\ o.data = .seq its n /\ its.size <= sizeLine /\ Vals xs its.toList
def absV:Value -> Option V
  | .none => some .non
  | .bool b => some (.bl b)
  | .int i _ => some (.int i)
  | .str x _ => some (.str x)
  | .bytes b _ => some (.byt b)
  | .float b _ => some (.flt b)
  | .ref a => some (.ref a)
  | .type n => some (.ty n)
  | _ => none
theorem RelV.abs {x:V} {u:Value} (r:RelV x u) : absV u = some x := by
  cases x with
  | non => cases r; rfl
  | bl _ => cases r; rfl
  | int _ => obtain ⟨t,rfl⟩ := r; rfl
  | str _ => obtain ⟨t,rfl⟩ := r; rfl
  | byt _ => obtain ⟨t,rfl⟩ := r; rfl
  | flt _ => obtain ⟨t,rfl⟩ := r; rfl
  | ref _ => cases r; rfl
  | ty _ => cases r; rfl
theorem RelV.inj {x y:V} {u:Value} (r:RelV x u) (q:RelV y u) : x = y := Option.some.inj (r.abs.symm.trans q.abs)
theorem Vals.inj:∀ {xs ys:List V} {us:List Value},Vals xs us -> Vals ys us -> xs = ys
  | _,_,_,.nil,.nil => rfl
  | _,_,_,.cons r t,.cons r' t' => by rw [r.inj r',Vals.inj t t']
section
variable {X:Cx} {pins:List (Addr × Obj)} {σ:St} {H:Hp} {s:Shared} {a:Addr} {xs ys:List V}
theorem SqL.of {K:PySem.W.Frag} (h:H a = some (.lst xs)) : SqL K H a xs := .inl (.inl h)
theorem SqT.of {K:PySem.W.Frag} (h:H a = some (.tup xs)) : SqT K H a xs := .inl (.inl h)
theorem Inv.list (I:Inv X pins σ H s) (h:SqL X.K H a xs) : ∃ its:List Value,Vals xs its /\ PlainL s.heap a its.toArray /\ xs.length <= sizeLine := by
  rcases h with h | ⟨o,its,n,hk,hc,hd,hs,hz,r⟩
  · obtain ⟨z,its,n,r,e⟩ := h.ok I.hok
    exact ⟨its,r,⟨_,n,e,rfl,rfl,rfl⟩,z⟩
  · refine ⟨its.toList,r,⟨o,n,I.kIn a o hk,hc,hd,by simpa using hs⟩,?_⟩
    have e := r.length
    simp only [Array.length_toList] at e
    omega
theorem Inv.tuple (I:Inv X pins σ H s) (h:SqT X.K H a xs) : ∃ its:List Value,Vals xs its /\ IsTup s.heap a its.toArray /\ xs.length <= sizeLine := by
  rcases h with h | ⟨o,its,n,hk,hc,hs,hz,r⟩
  · obtain ⟨z,its,r,p⟩ := h.ok I.hok
    exact ⟨its,r,p,z⟩
  · refine ⟨its.toList,r,⟨o,I.kIn a o hk,hc,n,by simpa using hs⟩,?_⟩
    have e := r.length
    simp only [Array.length_toList] at e
    omega
theorem Inv.list_inj (I:Inv X pins σ H s) (h:SqL X.K H a xs) (h':SqL X.K H a ys) : xs = ys := by
  obtain ⟨its,r,⟨o,n,e,_,_,d⟩,_⟩ := I.list h
  obtain ⟨its',r',⟨o',n',e',_,_,d'⟩,_⟩ := I.list h'
  rw [e] at e'; cases e'
  rw [d] at d'
  injection d' with d1 _
  have:its = its' := by simpa using congrArg Array.toList d1
  subst this
  exact r.inj r'
theorem Inv.tuple_inj (I:Inv X pins σ H s) (h:SqT X.K H a xs) (h':SqT X.K H a ys) : xs = ys := by
  obtain ⟨its,r,⟨o,e,_,n,d⟩,_⟩ := I.tuple h
  obtain ⟨its',r',⟨o',e',_,n',d'⟩,_⟩ := I.tuple h'
  rw [e] at e'; cases e'
  rw [d] at d'
  injection d' with d1 _
  have:its = its' := by simpa using congrArg Array.toList d1
  subst this
  exact r.inj r'
end
abbrev Cx.wish (X:Cx) (E:Value -> Shared -> Prop) : Cx := { X with xe := E }
abbrev Cx.nox (X:Cx) : Cx := X.wish fun _ _ => False
theorem Cx.Ok.wish {X:Cx} (ok:X.Ok) (E:Value -> Shared -> Prop) : (X.wish E).Ok :=
  ⟨ok.mod,ok.kind,ok.glob,ok.blt,ok.above,ok.inj,ok.has,ok.cab,ok.hd,ok.frames,ok.stk,ok.exf,ok.bs,ok.bsz,ok.noex,ok.exfs,ok.funs,ok.frf⟩
theorem Cx.Ok.unwish {X:Cx} {E:Value -> Shared -> Prop} (ok:(X.wish E).Ok) : X.Ok :=
  ⟨ok.mod,ok.kind,ok.glob,ok.blt,ok.above,ok.inj,ok.has,ok.cab,ok.hd,ok.frames,ok.stk,ok.exf,ok.bs,ok.bsz,ok.noex,ok.exfs,ok.funs,ok.frf⟩
section
variable {X:Cx} {pins:List (Addr × Obj)} {σ:St} {H:Hp} {s:Shared} {E:Value -> Shared -> Prop}
theorem Inv.wish (I:Inv X pins σ H s) (E:Value -> Shared -> Prop) : Inv (X.wish E) pins σ H s := ⟨I.ok.wish E,I.os,I.bare,I.base,I.loc,I.cell,I.free,I.freeC,I.pin,I.hok,I.len⟩
theorem Inv.unwish (I:Inv (X.wish E) pins σ H s) : Inv X pins σ H s := ⟨I.ok.unwish,I.os,I.bare,I.base,I.loc,I.cell,I.free,I.freeC,I.pin,I.hok,I.len⟩
theorem SP.unwish {D:Ends} {f:Flow} {s':Shared} (h:SP (X.wish E) pins D f s') : SP X pins D f s' := by
  cases f with
  | next => obtain ⟨σ',H',I,q⟩ := h; exact ⟨σ',H',I.unwish,q⟩
  | brk => obtain ⟨σ',H',I,q⟩ := h; exact ⟨σ',H',I.unwish,q⟩
  | cont => obtain ⟨σ',H',I,q⟩ := h; exact ⟨σ',H',I.unwish,q⟩
  | ret u => obtain ⟨v,σ',H',I,r,q⟩ := h; exact ⟨v,σ',H',I.unwish,r,q⟩
theorem PE.nox {e:Expr} {t:TE} (h:PE X.nox e t) : PE X e t := fun pins s σ H Q I hw =>
  wpAny_mono (h pins s σ H Q (I.wish _) hw) (fun _ _ ⟨v,H',I',r,q⟩ => ⟨v,H',I'.unwish,r,q⟩) fun _ _ z => False.elim z
theorem PT.nox {e:Expr} {t:TT} (h:PT X.nox e t) : PT X e t := fun pins s σ H Q I hw =>
  wpAny_mono (h pins s σ H Q (I.wish _) hw) (fun _ _ ⟨H',I',q⟩ => ⟨H',I'.unwish,q⟩) fun _ _ z => False.elim z
theorem PSs.nox {st:List Stmt} {t:TS} (h:PSs X.nox st t) : PSs X st t := fun pins s σ H D I hw =>
  wpAny_mono (h pins s σ H D (I.wish _) hw) (fun _ _ q => q.unwish) fun _ _ z => False.elim z
end
section
variable {X:Cx} {st:Stmt} {rest:List Stmt} {t u:TS} {e:Expr} {te:TE} {pos:Pos}
def tNext:TS := fun D σ H => D.nx σ H
def tSeq (t u:TS) : TS := fun D σ H => t { D with nx := u D } σ H
theorem pss_nil:PSs X [] tNext := fun _ _ σ H _ I h => wpAny_execs_nil ⟨σ,H,I,h⟩
theorem pss_cons (h1:PS X st t) (h2:PSs X rest u) : PSs X (st :: rest) (tSeq t u) := by
  intro pins s σ H D I h
  refine wpAny_execs_cons (thn (h1 pins s σ H { D with nx := u D } I h) fun f s1 q => ?_)
  cases f with
  | next =>
    obtain ⟨σ',H',I',q⟩ := q
    exact h2 pins s1 σ' H' D I' q
  | ret v => exact q
  | brk => exact q
  | cont => exact q
theorem pss_one (h1:PS X st t) : PSs X [st] t := by
  intro pins s σ H D I h
  refine wpAny_execs_cons (thn (h1 pins s σ H D I h) fun f s1 q => ?_)
  cases f with
  | next => exact wpAny_execs_nil q
  | ret v => exact q
  | brk => exact q
  | cont => exact q
theorem Inv.quiet {pins:List (Addr × Obj)} {σ:St} {H:Hp} {s:Shared} (I:Inv X pins σ H s) : interactive X.env = false := by simp [interactive,I.ok.kind]
def tDrop (te:TE) : TS := fun D σ H => te σ H fun _ H1 => D.nx σ H1
theorem ps_expr (he:PE X e te) (hs:swapsWith e none pos.line X.env = pure false := by rfl) : PS X (.Expr e pos) (tDrop te) := by
  intro pins s σ H D I h
  exact wpAny_Expr_any (thn (he pins s σ H _ I h) fun v s1 ⟨x,H1,I1,r1,q1⟩ => ⟨σ,H1,I1,q1⟩) I.quiet hs
def tRet (te:TE) : TS := fun D σ H => te σ H D.rt
theorem ps_ret (he:PE X e te) : PS X (.Return (some e) pos) (tRet te) := by
  intro pins s σ H D I h
  exact wpAny_Return_some (thn (he pins s σ H _ I h) fun v s1 ⟨x,H1,I1,r1,q1⟩ => ⟨x,σ,H1,I1,r1,q1⟩)
def tIfS (c:TT) (t u:TS) : TS := fun D σ H => c σ H fun b H1 => if b = true then t D σ H1 else u D σ H1
theorem ps_if {c:Expr} {a b:List Stmt} {tc:TT} (hc:PT X c tc) (ha:PSs X a t) (hb:PSs X b u) : PS X (.If c a b pos) (tIfS tc t u) := by
  intro pins s σ H D I h
  refine wpAny_If (thn (hc pins s σ H _ I h) fun d s1 ⟨H1,I1,q1⟩ => ?_)
  cases d with
  | true => exact ha pins s1 σ H1 D I1 q1
  | false => exact hb pins s1 σ H1 D I1 q1
end
abbrev TG := V -> St -> Hp -> (St -> Hp -> Prop) -> Prop
abbrev TGs := List V -> St -> Hp -> (St -> Hp -> Prop) -> Prop
def PG (X:Cx) (target:Expr) (t:TG) : Prop :=
  ∀ (pins:List (Addr × Obj)) (s:Shared) (σ:St) (H:Hp) (v:V) (u:Value) (Q:St -> Hp -> Prop),Inv X pins σ H s -> RelV v u -> t v σ H Q ->
    wpAny (model X.prog X.w) X.A (assign target X.env u) (fun _ s' => ∃ σ' H',Inv X pins σ' H' s' /\ Q σ' H') X.xe s
def PGs (X:Cx) (ts:List Expr) (t:TGs) : Prop :=
  ∀ (pins:List (Addr × Obj)) (s:Shared) (σ:St) (H:Hp) (vs:List V) (us:List Value) (Q:St -> Hp -> Prop),Inv X pins σ H s -> Vals vs us -> t vs σ H Q ->
    wpAny (model X.prog X.w) X.A (assignInOrder ((assignEach ts X.env).map (·.2)) us) (fun _ s' => ∃ σ' H',Inv X pins σ' H' s' /\ Q σ' H') X.xe s
section
variable {X:Cx} {pos:Pos}
def gName (i:Nat) : TG := fun v σ H Q => Q (σ.set i (some v)) H
theorem pg_name {i:Nat} {x:Str} (hN:X.N.Nodup) (hi:X.N[i]? = some x) (hx:Loc X.env.scope x) (hf:X.fn x = true \/ X.env.scope.names.lookup x = some .local := by first | exact .inl rfl | exact .inr rfl | assumption) : PG X (.Name x pos) (gName i) := by
  intro pins s σ H v u Q I r h
  exact wpAny_assign_Name (store_ok I hN hi hx r (fun s' I' => ⟨_,H,I',h⟩) hf)
def gNil:TGs := fun vs σ H Q => vs = [] /\ Q σ H
def gCons (t:TG) (u:TGs) : TGs := fun vs σ H Q => ∃ v r,vs = v :: r /\ t v σ H fun σ' H' => u r σ' H' Q
theorem pgs_nil:PGs X [] gNil := by
  intro pins s σ H vs us Q I r h
  obtain ⟨e,h⟩ := h
  subst e
  cases r
  exact assignInOrder_nil ⟨σ,H,I,h⟩
theorem pgs_cons {e:Expr} {es:List Expr} {t:TG} {u:TGs} (h1:PG X e t) (h2:PGs X es u)
    (hs:(assignEach (e :: es) X.env).map (·.2) = assign e X.env :: (assignEach es X.env).map (·.2) := by rfl) : PGs X (e :: es) (gCons t u) := by
  intro pins s σ H vs us Q I r h
  obtain ⟨v,vr,e1,h⟩ := h
  subst e1
  cases r with
  | cons r rr =>
    rw [hs]
    refine assignInOrder_cons (thn (h1 pins s σ H _ _ _ I r h) fun _ s1 ⟨σ1,H1,I1,q1⟩ => ?_)
    exact h2 pins s1 σ1 H1 _ _ Q I1 rr q1
def gTup (K:PySem.W.Frag) (n:Nat) (t:TGs) : TG := fun v σ H Q => ∃ a xs,v = .ref a /\ SqT K H a xs /\ xs.length = n /\ t xs σ H Q
theorem pg_tup {es:List Expr} {k:Nat} {t:TGs} {n:Nat} (hc:X.calm = true) (h:PGs X es t)
    (hn:(assignEach es X.env).length = n := by rfl) (hst:(assignEach es X.env).findIdx? (·.1) = none := by rfl) : PG X (.Tuple es k pos) (gTup X.K n t) := by
  intro pins s σ H v u Q I r hw
  obtain ⟨a,xs,e1,hq,hl,hw⟩ := hw
  subst e1
  cases r
  obtain ⟨its,rv,ht,hz⟩ := I.tuple hq
  refine assign_Tuple_tuple (I.ok.hd hc) ht (by simp [hn,<- hl,rv.length]) hst fun h' hx => ?_
  have I1:Inv X pins σ H { s with heap := h' } := I.kept (t' := s.toks) fun b o e => hx b o (Nat.ne_of_lt (Heap.lt_size e)) e
  exact h pins _ σ H xs _ Q I1 (by simpa using rv) hw
def tAsg (te:TE) (g:TG) : TS := fun D σ H => te σ H fun x H1 => g x σ H1 D.nx
theorem ps_set {i:Nat} {x:Str} {e:Expr} {te:TE} {pos':Pos} (hN:X.N.Nodup) (hi:X.N[i]? = some x) (hx:Loc X.env.scope x) (he:PE X e te) (hs:swapsWith e (some (.Name x pos')) pos.line X.env = pure false := by rfl) (hf:X.fn x = true \/ X.env.scope.names.lookup x = some .local := by first | exact .inl rfl | exact .inr rfl | assumption) :
    PS X (.Assign [.Name x pos'] e pos) (tAsg te (gName i)) := by
  intro pins s σ H D I h
  refine wpAny_Assign_Name (thn (he pins s σ H _ I h) fun v s1 ⟨y,H1,I1,r1,q1⟩ => ?_) hs
  exact store_ok I1 hN hi hx r1 (fun s2 I2 => ⟨_,H1,I2,q1⟩) hf
end
section
variable {X:Cx} {pos:Pos}
end
structure It where
  go:Nat -> Hp -> Prop
  yld:Nat -> Hp -> V -> Hp -> Prop
  stop:Nat -> Hp -> Prop
def FpOk (X:Cx) (pins:List (Addr × Obj)) (H:Hp) (b:Addr) : Prop :=
  H b = none /\ b ≠ X.env.locals /\ b ∉ X.fs /\ (b ∈ X.ex \/ X.s₀.heap.objs.size <= b) /\ (∀ x c,X.env.cells.lookup x = some c -> c ≠ b) /\ ∀ p ∈ X.pn ++ pins,p.1 ≠ b
theorem Inv.fpOk {X:Cx} {pins:List (Addr × Obj)} {σ:St} {H H':Hp} {s:Shared} {b:Addr} (I:Inv X pins σ H s) (hb:s.heap.objs.size <= b) (hn:H' b = none) : FpOk X pins H' b := by
  refine ⟨hn,Nat.ne_of_gt (Nat.lt_of_lt_of_le I.lt hb),I.nofs hb,.inr (Nat.le_trans I.sz hb),fun x c e z => ?_,fun p hp z => ?_⟩
  · obtain ⟨v,q⟩ := I.cell x c e
    exact absurd (Nat.lt_of_lt_of_le q.lt (by rw [z]; exact hb)) (Nat.lt_irrefl _)
  · exact absurd (Nat.lt_of_lt_of_le (Heap.lt_size (I.pin p hp).1) (by rw [z]; exact hb)) (Nat.lt_irrefl _)
structure Turn (P:Program) (w:World) (K:PySem.W.Frag) (tg:Expr) (J:It) (fp:List Addr) (it:Addr) (tn:Nat -> Heap -> Prop) : Prop where
  mem:it ∈ fp
  obj:∀ i h,tn i h -> ∀ b ∈ fp,∃ o,h.get? b = some o /\ ∀ v,o.data ≠ .cell v
  keep:∀ i h h',tn i h -> (∀ b ∈ fp,∀ o,h.get? b = some o -> h'.get? b = some o) -> tn i h'
  item:∀ (X:Cx),X.prog = P -> X.w = w -> X.K = K -> X.calm = true -> ∀ (i:Nat) (pins:List (Addr × Obj)) (s:Shared) (σ:St) (H:Hp) (E:Value -> Shared -> Prop),Inv X pins σ H s -> (∀ b ∈ fp,FpOk X pins H b) -> tn i s.heap -> J.go i H ->
    wpAny (model P w) X.A (pyNext (.ref it)) (fun r s1 => ∃ u,r = some u /\
      wpAny (model P w) X.A (letOwnedTupleGo tg (.ref it) u) (fun _ s2 => ∃ x H',Inv X pins σ H' s2 /\ RelV x u /\ J.yld i H x H' /\ tn (i + 1) s2.heap /\ ∀ b ∈ fp,H' b = none) E s1) E s
  done:∀ (X:Cx),X.prog = P -> X.w = w -> X.K = K -> X.calm = true -> ∀ (i:Nat) (pins:List (Addr × Obj)) (s:Shared) (σ:St) (H:Hp) (E:Value -> Shared -> Prop),Inv X pins σ H s -> (∀ b ∈ fp,FpOk X pins H b) -> tn i s.heap -> J.stop i H ->
    wpAny (model P w) X.A (pyNext (.ref it)) (fun r s1 => r = none /\ Inv X pins σ H s1) E s
  self:∀ (A:Around) (i:Nat) (s:Shared) (Q:Value -> Shared -> Prop) (E:Value -> Shared -> Prop),tn i s.heap -> Q (.ref it) s -> wpAny (model P w) A (pyIter (.ref it)) Q E s
abbrev TI := St -> Hp -> (It -> Hp -> Prop) -> Prop
def PIE (X:Cx) (pins:List (Addr × Obj)) (σ:St) (tg:Expr) (R:It -> Hp -> Prop) (itv:Value) (s2:Shared) : Prop :=
  ∃ (it:Addr) (fp:List Addr) (tn:Nat -> Heap -> Prop) (J:It) (H':Hp),itv = .ref it /\ Inv X pins σ H' s2 /\ Turn X.prog X.w X.K tg J fp it tn /\ tn 0 s2.heap /\ (∀ b ∈ fp,FpOk X pins H' b) /\ R J H'
def PI (X:Cx) (tg iter:Expr) (wi:TI) : Prop :=
  ∀ (pins:List (Addr × Obj)) (s:Shared) (σ:St) (H:Hp) (R:It -> Hp -> Prop),Inv X pins σ H s -> wi σ H R ->
    wpAny (model X.prog X.w) X.A (eval iter X.env) (fun v s1 => wpAny (model X.prog X.w) X.A (pyIter v) (PIE X pins σ tg R) X.xe s1) X.xe s
theorem go_of {M:Model} {A:Around} {E:Value -> Shared -> Prop} {s:Shared} {tg:Expr} {it:Addr} {u:Value} {o:Obj} {n:String} {vs:Array Value} {Q:Unit -> Shared -> Prop} (ho:s.heap.get? it = some o) (hc:o.cls = .type n) (hd:o.data = .fields vs)
    (hn : ["enumerate", "zip", "dict_itemiterator", "dict_reverseitemiterator", "odict_iterator", "itertools.zip_longest", "itertools.pairwise"].contains n = false) (hQ : Q () s) : wpAny M A (letOwnedTupleGo tg (.ref it) u) Q E s := by
  unfold letOwnedTupleGo
  cases tg <;> first
    | exact wpAny_pure hQ
    | (cases u <;> first
        | exact wpAny_pure hQ
        | (refine wpAny_bind (wpAny_load ho ?_)
           rw [hc,hd]
           show wpAny M A (if (["enumerate", "zip", "dict_itemiterator", "dict_reverseitemiterator", "odict_iterator", "itertools.zip_longest", "itertools.pairwise"].contains n && vs[0]? == some (rawInt _)) = true then _ else _) Q E s
           rw [if_neg (by intro h; rw [hn,Bool.false_and] at h; cases h)]
           exact wpAny_pure hQ))
def Itl (K:PySem.W.Frag) (a:Addr) : It :=
  ⟨fun i H => ∃ xs x,SqL K H a xs /\ xs[i]? = some x,fun i H x H' => H' = H /\ ∀ xs,SqL K H a xs -> xs[i]? = some x,fun i H => ∃ xs,SqL K H a xs /\ xs.length <= i⟩
def Itt (K:PySem.W.Frag) (a:Addr) : It :=
  ⟨fun i H => ∃ xs x,SqT K H a xs /\ xs[i]? = some x,fun i H x H' => H' = H /\ ∀ xs,SqT K H a xs -> xs[i]? = some x,fun i H => ∃ xs,SqT K H a xs /\ xs.length <= i⟩
def Itr (lo:Int) (n:Nat) : It := ⟨fun i _ => i < n,fun i H x H' => H' = H /\ x = .int (lo + i),fun i _ => n <= i⟩
theorem turn_list {P:Program} {w:World} {K:PySem.W.Frag} {tg:Expr} (a it:Addr) : Turn P w K tg (Itl K a) [it] it (fun i h => h.IsListIter it a i) where
  mem := by simp
  obj := fun i h st b hb => by
    have e:b = it := by simpa using hb
    subst e
    obtain ⟨o,e,c,d⟩ := st
    exact ⟨o,e,fun v z => by rw [d] at z; cases z⟩
  keep := fun i h h' st k => st.at fun o e => k it (by simp) o e
  item := by
    intro X hP hw hK hc i pins s σ H E I hf st hg
    subst hP hw hK
    obtain ⟨xs,x,hq,hx⟩ := hg
    obtain ⟨its,rv,p,hz⟩ := I.list hq
    obtain ⟨u,hu,ru⟩ := rv.get hx
    obtain ⟨f0,f1,f2,f3,f4,f5⟩ := hf it (by simp)
    refine wpAny_pyNext_list_item st p.isList (x := u) (by simpa using hu) fun h' st' sb => ?_
    have I1:Inv X pins σ H { s with heap := h' } := I.turned (t' := s.toks) (fun b o hb e => (sb.2 b hb).trans e) f0 f1 f3 f4 f5
    obtain ⟨o,e,c,d⟩ := id st'
    exact ⟨u,rfl,go_of (s := { s with heap := h' }) e c d (by decide) ⟨x,H,I1,ru,⟨rfl,fun ys hy => by rw [I.list_inj hy hq]; exact hx⟩,st',fun b hb => (hf b hb).1⟩⟩
  done := by
    intro X hP hw hK hc i pins s σ H E I hf st hg
    subst hP hw hK
    obtain ⟨xs,hq,hx⟩ := hg
    obtain ⟨its,rv,p,hz⟩ := I.list hq
    obtain ⟨f0,f1,f2,f3,f4,f5⟩ := hf it (by simp)
    have hl := rv.length
    exact wpAny_pyNext_list_end (I.ok.hd hc) st p.isList (by simp; omega) fun h' eb => ⟨rfl,I.turned (t' := s.toks) (fun b o hb e => eb b o hb e) f0 f1 f3 f4 f5⟩
  self := fun _ _ _ _ _ st h => wpAny_pyIter_listiter st h
theorem turn_tuple {P:Program} {w:World} {K:PySem.W.Frag} {tg:Expr} (a it:Addr) : Turn P w K tg (Itt K a) [it] it (fun i h => h.IsTupleIter it a i) where
  mem := by simp
  obj := fun i h st b hb => by
    have e:b = it := by simpa using hb
    subst e
    obtain ⟨o,e,c,d⟩ := st
    exact ⟨o,e,fun v z => by rw [d] at z; cases z⟩
  keep := fun i h h' st k => st.at fun o e => k it (by simp) o e
  item := by
    intro X hP hw hK hc i pins s σ H E I hf st hg
    subst hP hw hK
    obtain ⟨xs,x,hq,hx⟩ := hg
    obtain ⟨its,rv,p,hz⟩ := I.tuple hq
    obtain ⟨u,hu,ru⟩ := rv.get hx
    obtain ⟨f0,f1,f2,f3,f4,f5⟩ := hf it (by simp)
    refine wpAny_pyNext_tuple_item st (show s.heap.IsTuple a its.toArray from p) (x := u) (by simpa using hu) fun h' st' sb => ?_
    have I1:Inv X pins σ H { s with heap := h' } := I.turned (t' := s.toks) (fun b o hb e => (sb.2 b hb).trans e) f0 f1 f3 f4 f5
    obtain ⟨o,e,c,d⟩ := id st'
    exact ⟨u,rfl,go_of (s := { s with heap := h' }) e c d (by decide) ⟨x,H,I1,ru,⟨rfl,fun ys hy => by rw [I.tuple_inj hy hq]; exact hx⟩,st',fun b hb => (hf b hb).1⟩⟩
  done := by
    intro X hP hw hK hc i pins s σ H E I hf st hg
    subst hP hw hK
    obtain ⟨xs,hq,hx⟩ := hg
    obtain ⟨its,rv,p,hz⟩ := I.tuple hq
    obtain ⟨f0,f1,f2,f3,f4,f5⟩ := hf it (by simp)
    have hl := rv.length
    exact wpAny_pyNext_tuple_end (I.ok.hd hc) st (show s.heap.IsTuple a its.toArray from p) (by simp; omega) fun h' eb => ⟨rfl,I.turned (t' := s.toks) (fun b o hb e => eb b o hb e) f0 f1 f3 f4 f5⟩
  self := fun _ _ _ _ _ st h => wpAny_pyIter_tupleiter st h
theorem turn_range {P:Program} {w:World} {K:PySem.W.Frag} {tg:Expr} (it:Addr) (lo:Int) (n:Nat) : Turn P w K tg (Itr lo n) [it] it (fun i h => IsRangeIter h it (lo + (i:Nat) * 1) ((n:Int) - (i:Nat)) 1) where
  mem := by simp
  obj := fun i h st b hb => by
    have e:b = it := by simpa using hb
    subst e
    exact ⟨_,st,fun v z => by
      have z':Data.fields _ = Data.cell v := z
      cases z'⟩
  keep := fun i h h' st k => k it (by simp) _ st
  item := by
    intro X hP hw hK hc i pins s σ H E I hf st hg
    subst hP hw hK
    obtain ⟨f0,f1,f2,f3,f4,f5⟩ := hf it (by simp)
    have W := Walks.range (prog := X.prog) (w := X.w) (I.ok.hd hc) it lo 1 n
    refine W.item i s _ _ hg st fun v h' tk hv st' kk => ?_
    obtain ⟨t,rfl⟩ := hv
    have I1:Inv X pins σ H { s with heap := h',toks := tk } := I.turned (fun b o hb e => kk b o (by simpa using hb) e) f0 f1 f3 f4 f5
    refine ⟨_, rfl, go_of (s := { s with heap := h', toks := tk }) (n := "range_iterator") st' rfl rfl (by decide) ⟨.int (lo + i), H, I1, ⟨t, ?_⟩, ⟨rfl, rfl⟩, st', fun b hb => (hf b hb).1⟩⟩
    rw [Int.mul_one]
  done := by
    intro X hP hw hK hc i pins s σ H E I hf st hg
    subst hP hw hK
    obtain ⟨f0,f1,f2,f3,f4,f5⟩ := hf it (by simp)
    exact wpAny_pyNext_range_end (I.ok.hd hc) st (by have:n <= i := hg; omega) fun h' eb => ⟨rfl,I.turned (t' := s.toks) (fun b o hb e => eb b o hb e) f0 f1 f3 f4 f5⟩
  self := fun _ _ _ _ _ st h => wpAny_pyIter_rangeiter st h
end L2
namespace L2
open PySem PySem.Spec PyProof.Rows
section
variable {X:Cx} {tg:Expr}
theorem range_it {pins:List (Addr × Obj)} {σ:St} {H:Hp} {s:Shared} {R:It -> Hp -> Prop} {E:Value -> Shared -> Prop} {lo hi:Int} {t u v:Tok} {tk:Nat} (I:Inv X pins σ H s) (h1:-(2 ^ 62) <= lo) (h2:lo < 2 ^ 62) (h3:-(2 ^ 62) <= hi) (h4:hi < 2 ^ 62)
    (q : R (Itr lo (hi - lo).toNat) H) : wpAny (model X.prog X.w) X.A (pyIter (.ref s.heap.objs.size)) (PIE X pins σ tg R) E { s with heap := s.heap.push { cls := .type "range", data := .fields #[.int lo t, .int hi u, .int 1 v] }, toks := tk } := by
  refine wpAny_pyIter_range (IsRange.new ..) (small_one h1 h2 h3 h4) ?_
  have I1 : Inv X pins σ H { s with heap := s.heap.push { cls := .type "range", data := .fields #[.int lo t, .int hi u, .int 1 v] }, toks := tk } := I.kept fun b o e => Heap.get?_push_of_some _ e
  refine ⟨(s.heap.push { cls := .type "range", data := .fields #[.int lo t, .int hi u, .int 1 v] }).objs.size, [(s.heap.push { cls := .type "range", data := .fields #[.int lo t, .int hi u, .int 1 v] }).objs.size], _, _, H, rfl,
    I1.kept (t' := tk) fun b o e => Heap.get?_push_of_some _ e,turn_range _ lo (hi - lo).toNat,?_,fun b hb => ?_,q⟩
  · have e1:lo + ((0:Nat) : Int) * 1 = lo := by simp
    have e2:(((hi - lo).toNat:Nat) : Int) - ((0:Nat) : Int) = Builtin.Range.rangeSize lo hi 1 := by rw [rangeSize_one]; split <;> omega
    show IsRangeIter _ _ (lo + ((0:Nat) : Int) * 1) ((((hi - lo).toNat:Nat) : Int) - ((0:Nat) : Int)) 1
    rw [e1,e2]
    exact Heap.get?_push_size _ rfl
  · have e : b = (s.heap.push { cls := .type "range", data := .fields #[.int lo t, .int hi u, .int 1 v] }).objs.size := by simpa using hb
    subst e
    exact I1.fpOk (Nat.le_refl _) (I1.hok.fresh (Nat.le_refl _))
def iRng1 (ta:TA) : TI := fun σ H R => ta σ H fun vs H1 => ∃ j:Int,vs = [.int j] /\ -(2 ^ 62) <= j /\ j < 2 ^ 62 /\ R (Itr 0 j.toNat) H1
theorem pi_range1 {a : Expr} {ta : TA} {p pos : Pos} (hg : Gl X "range") (hm : X.mg "range" = none) (ha : PA X [a] ta) (hs : starEach [a] X.env = [(false, eval a X.env)] := by rfl) : PI X tg (.Call (.Name "range" p) [a] [] pos) (iRng1 ta) := by
  intro pins s σ H R I h
  refine Call_ (ld_blt I hg hm boot_range (PyProof.Rows.callWith_type1 (thn (ha pos pins s σ H _ I h) fun us s1 ⟨vs,H1,I1,r1,q1⟩ => ?_) hs rfl))
  obtain ⟨j,e,q1,q2,q⟩ := q1
  subst e
  cases r1 with
  | cons r rr =>
    cases rr
    obtain ⟨t,rfl⟩ := r
    exact call_range_1 (range_it I1 (by omega) (by omega) q1 q2 (by simpa using q))
def tFor (wi:TI) (g:TG) (tb:TS) : TS := fun D σ H => wi σ H fun J H1 => ∃ W:Nat -> Nat -> St -> Hp -> Prop,(∃ m,W 0 m σ H1) /\ ∀ i m σ H,W i m σ H ->
  (J.stop i H /\ D.nx σ H) \/ (J.go i H /\ ∃ N:St -> Hp -> Prop,(∀ σ' H',N σ' H' -> ∃ m',m' < m /\ W (i + 1) m' σ' H') /\ ∀ x H',J.yld i H x H' -> g x σ H' fun σ2 H2 => tb { D with nx := N,ct := N,bk := D.nx } σ2 H2)
def pinsAt (fp:List Addr) (h:Heap) : List (Addr × Obj) := fp.filterMap fun b => (h.get? b).map fun o => (b,o)
theorem mem_pinsAt {fp:List Addr} {h:Heap} {b:Addr} {o:Obj} (hb:b ∈ fp) (e:h.get? b = some o) : (b,o) ∈ pinsAt fp h := List.mem_filterMap.mpr ⟨b,hb,by rw [e]; rfl⟩
theorem of_pinsAt {fp:List Addr} {h:Heap} {p:Addr × Obj} (hp:p ∈ pinsAt fp h) : p.1 ∈ fp /\ h.get? p.1 = some p.2 := by
  obtain ⟨b,hb,e⟩ := List.mem_filterMap.mp hp
  cases q:h.get? b with
  | none => rw [q] at e; cases e
  | some o =>
    rw [q] at e
    have e':(b,o) = p := Option.some.inj e
    subst e'
    exact ⟨hb,q⟩
theorem Inv.pinned {pins:List (Addr × Obj)} {σ:St} {H:Hp} {s:Shared} {fp:List Addr} (I:Inv X pins σ H s) (hf:∀ b ∈ fp,FpOk X pins H b) (ho:∀ b ∈ fp,∃ o,s.heap.get? b = some o /\ ∀ v,o.data ≠ .cell v) : Inv X (pins ++ pinsAt fp s.heap) σ H s :=
  I.pins_of fun p hp => (List.mem_append.mp hp).elim (fun z => I.pin p (List.mem_append_right _ z)) fun z => by
    obtain ⟨hb,e⟩ := of_pinsAt z
    obtain ⟨f0,f1,f2,_⟩ := hf p.1 hb
    obtain ⟨o,e',d⟩ := ho p.1 hb
    rw [e] at e'; cases e'
    exact ⟨e,f0,f1,f2,d⟩
theorem Inv.unpinned {pins pl:List (Addr × Obj)} {σ:St} {H:Hp} {s:Shared} (I:Inv X (pins ++ pl) σ H s) : Inv X pins σ H s := I.pins_of fun p hp => I.pin p (List.mem_append_right _ (List.mem_append_left _ hp))
theorem ps_for {iter:Expr} {body:List Stmt} {wi:TI} {g:TG} {tb:TS} {pos:Pos} (hp:PassesOwn (model X.prog X.w) X.A X.env X.xe) (hc:X.calm = true) (hi:PI X tg iter wi) (hg:PG X tg g) (hb:PSs X body tb)
    (hs:∀ x,foldedSetIterable iter X.env x = pure x := by intro _; rfl) : PS X (.For tg iter body [] pos) (tFor wi g tb) := by
  intro pins s σ H D I h
  refine wpAny_For (thn (hi pins s σ H _ I h) fun v s1 h1 => thn h1 fun itv s2 h2 => ?_) hs
  obtain ⟨it,fp,tn,J,H2,e,I2,T,st2,f2,W,⟨m0,w0⟩,turn⟩ := h2
  subst e
  have stat:∀ {H':Hp},(∀ b ∈ fp,H' b = none) -> ∀ b ∈ fp,FpOk X pins H' b := fun hn b hb => ⟨hn b hb,(f2 b hb).2⟩
  refine codeAny_forLoop_any (fun n s' => ∃ i σ' H',Inv X pins σ' H' s' /\ tn i s'.heap /\ (∀ b ∈ fp,H' b = none) /\ W i n σ' H') ?_ m0 ⟨0,σ,H2,I2,st2,fun b hb => (f2 b hb).1,w0⟩
  rintro n s3 ⟨i,σ3,H3,I3,st3,fr3,w3⟩
  rcases turn i n σ3 H3 w3 with ⟨stop,qn⟩ | ⟨go,N,hN,step⟩
  · refine wpAny_passesOwn hp (thn (T.done X rfl rfl rfl hc i pins s3 σ3 H3 X.xe I3 (stat fr3) st3 stop) fun r s4 ⟨hr,I4⟩ => ?_)
    subst hr
    exact wpAny_execs_nil ⟨σ3,H3,I4,qn⟩
  · refine wpAny_passesOwn hp (thn (T.item X rfl rfl rfl hc i pins s3 σ3 H3 X.xe I3 (stat fr3) st3 go) fun r s4 ⟨u,hr,h4⟩ => ?_)
    subst hr
    refine wpAny_passesOwn hp (thn h4 fun _ s5 ⟨x,H5,I5,r5,y5,st5,fr5⟩ => ?_)
    have I5' := I5.pinned (stat fr5) (T.obj _ _ st5)
    refine wpAny_passesOwn hp (thn (hg _ s5 σ3 H5 x u _ I5' r5 (step x H5 y5)) fun _ s6 ⟨σ6,H6,I6,q6⟩ => ?_)
    refine wpAny_passesOwn hp (thn (hb _ s6 σ6 H6 _ I6 q6) fun f s7 q7 => ?_)
    have again:∀ {σ7:St} {H7:Hp},Inv X (pins ++ pinsAt fp s5.heap) σ7 H7 s7 -> N σ7 H7 -> ∃ m,m < n /\ ∃ i σ' H',Inv X pins σ' H' s7 /\ tn i s7.heap /\ (∀ b ∈ fp,H' b = none) /\ W i m σ' H' := fun {σ7 H7} I7 n7 => by
      obtain ⟨m',hm,w7⟩ := hN σ7 H7 n7
      refine ⟨m',hm,i + 1,σ7,H7,I7.unpinned,T.keep _ _ _ st5 fun b hb o e => (I7.pin (b,o) (List.mem_append_right _ (List.mem_append_right _ (mem_pinsAt hb e)))).1,fun b hb => ?_,w7⟩
      obtain ⟨o,e,d⟩ := T.obj _ _ st5 b hb
      exact (I7.pin (b,o) (List.mem_append_right _ (List.mem_append_right _ (mem_pinsAt hb e)))).2.1
    cases f with
    | next => obtain ⟨σ7,H7,I7,n7⟩ := q7; exact again I7 n7
    | cont => obtain ⟨σ7,H7,I7,n7⟩ := q7; exact again I7 n7
    | brk => obtain ⟨σ7,H7,I7,q7⟩ := q7; exact ⟨σ7,H7,I7.unpinned,q7⟩
    | ret v => obtain ⟨x7,σ7,H7,I7,r7,q7⟩ := q7; exact ⟨x7,σ7,H7,I7.unpinned,r7,q7⟩
end
end L2
namespace L2
open PySem PySem.Spec PyProof.Rows
abbrev R2 := V -> V -> Hp -> VK -> Prop
def OpR (X:Cx) (f:Value -> Value -> Sem Value) (r:R2) : Prop :=
  ∀ (pins:List (Addr × Obj)) (s:Shared) (σ:St) (H:Hp) (x y:V) (v u:Value) (Q:VK),Inv X pins σ H s -> RelV x v -> RelV y u -> r x y H Q ->
    wpAny (model X.prog X.w) X.A (f v u) (EP X pins σ Q) X.xe s
def CallR (X:Cx) (f:Value) (r:List V -> Hp -> VK -> Prop) : Prop :=
  ∀ (pins:List (Addr × Obj)) (s:Shared) (σ:St) (H:Hp) (xs:List V) (us:List Value) (Q:VK),Inv X pins σ H s -> Vals xs us -> r xs H Q ->
    wpAny (model X.prog X.w) X.A (call f us) (EP X pins σ Q) X.xe s
def TruR (X:Cx) (r:V -> Hp -> (Bool -> Hp -> Prop) -> Prop) : Prop :=
  ∀ (pins:List (Addr × Obj)) (s:Shared) (σ:St) (H:Hp) (x:V) (v:Value) (Q:Bool -> Hp -> Prop),Inv X pins σ H s -> RelV x v -> r x H Q ->
    wpAny (model X.prog X.w) X.A (truthy v) (TP X pins σ Q) X.xe s
def tOp (r:R2) (ta tb:TE) : TE := fun σ H Q => ta σ H fun x H1 => tb σ H1 fun y H2 => r x y H2 Q
def rI (C:Int -> Int -> Prop) (g:Int -> Int -> V) : R2 := fun x y H Q => ∃ i j,x = .int i /\ y = .int j /\ C i j /\ Q (g i j) H
def rI0 (g:Int -> Int -> V) : R2 := fun x y H Q => ∃ i j,x = .int i /\ y = .int j /\ Q (g i j) H
section
variable {X:Cx} {a b c:Expr} {ta tb tc:TE} {pos:Pos}
theorem binT (ha:PE X a ta) (hb:PE X b tb) {pins:List (Addr × Obj)} {s:Shared} {σ:St} {H:Hp} {R:V -> V -> Hp -> Prop} (I:Inv X pins σ H s)
    (h:ta σ H fun x H1 => tb σ H1 fun y H2 => R x y H2) {Q:Value -> Shared -> Prop} {f:Value -> Value -> Sem Value}
    (hf:∀ v u s2 x y H2,Inv X pins σ H2 s2 -> RelV x v -> RelV y u -> R x y H2 -> wpAny (model X.prog X.w) X.A (f v u) Q X.xe s2) :
    wpAny (model X.prog X.w) X.A (eval a X.env) (fun v s₁ => wpAny (model X.prog X.w) X.A (eval b X.env) (fun u s₂ => wpAny (model X.prog X.w) X.A (f v u) Q X.xe s₂) X.xe s₁) X.xe s := by
  refine thn (ha pins s σ H _ I h) fun v s1 ⟨x,H1,I1,r1,q1⟩ => ?_
  refine thn (hb pins s1 σ H1 _ I1 q1) fun u s2 ⟨y,H2,I2,r2,q2⟩ => ?_
  exact hf v u s2 x y H2 I2 r1 r2 q2
theorem pe_op {op:Operator} {r:R2} (ho:OpR X (binaryOp op) r) (ha:PE X a ta) (hb:PE X b tb) : PE X (.BinOp a op b pos) (tOp r ta tb) := by
  intro pins s σ H Q I h
  exact wpAny_BinOp (binT ha hb I h fun v u s2 x y H2 I2 rx ry q => ho pins s2 σ H2 x y v u Q I2 rx ry q)
theorem opI {f:Value -> Value -> Sem Value} {C:Int -> Int -> Prop} {g:Int -> Int -> Int}
    (rule:∀ (i j:Int) (t u:Tok) (s:Shared) (Q:Value -> Shared -> Prop) (E:Value -> Shared -> Prop),C i j -> Q (.int (g i j) s.toks) { s with toks := s.toks + 1 } -> wpAny (model X.prog X.w) X.A (f (.int i t) (.int j u)) Q E s) :
    OpR X f (rI C fun i j => .int (g i j)) := by
  intro pins s σ H x y v u Q I rx ry h
  obtain ⟨i,j,rfl,rfl,hc,q⟩ := h
  obtain ⟨t,rfl⟩ := rx
  obtain ⟨t',rfl⟩ := ry
  exact rule i j t t' s _ _ hc ⟨.int (g i j),H,I.tok _,⟨_,rfl⟩,q⟩
theorem opI0 {f:Value -> Value -> Sem Value} {g:Int -> Int -> Int}
    (rule:∀ (i j:Int) (t u:Tok) (s:Shared) (Q:Value -> Shared -> Prop) (E:Value -> Shared -> Prop),Q (.int (g i j) s.toks) { s with toks := s.toks + 1 } -> wpAny (model X.prog X.w) X.A (f (.int i t) (.int j u)) Q E s) :
    OpR X f (rI0 fun i j => .int (g i j)) := by
  intro pins s σ H x y v u Q I rx ry h
  obtain ⟨i,j,rfl,rfl,q⟩ := h
  obtain ⟨t,rfl⟩ := rx
  obtain ⟨t',rfl⟩ := ry
  exact rule i j t t' s _ _ ⟨.int (g i j),H,I.tok _,⟨_,rfl⟩,q⟩
theorem opB0 {f:Value -> Value -> Sem Value} {g:Int -> Int -> Bool}
    (rule:∀ (i j:Int) (t u:Tok) (s:Shared) (Q:Value -> Shared -> Prop) (E:Value -> Shared -> Prop),Q (.bool (g i j)) s -> wpAny (model X.prog X.w) X.A (f (.int i t) (.int j u)) Q E s) :
    OpR X f (rI0 fun i j => .bl (g i j)) := by
  intro pins s σ H x y v u Q I rx ry h
  obtain ⟨i,j,rfl,rfl,q⟩ := h
  obtain ⟨t,rfl⟩ := rx
  obtain ⟨t',rfl⟩ := ry
  exact rule i j t t' s _ _ ⟨.bl (g i j),H,I,rfl,q⟩
def CDiv (i j:Int) : Prop := 0 < j /\ j < 1073741824
def CPow (i j:Int) : Prop := 0 <= j /\ j <= 1000000 /\ i.natAbs < 2 ^ 64
def CMul (i j:Int) : Prop := (-(2 ^ 64) < i /\ i < 2 ^ 64) \/ (-(2 ^ 64) < j /\ j < 2 ^ 64)
theorem CMul.ok {i j:Int} (h:CMul i j) : IntMulOk i j := by
  rcases h with ⟨h1,h2⟩ | ⟨h1,h2⟩
  · exact .of_left (intBits_le_64 h1 h2)
  · exact .of_right (intBits_le_64 h1 h2)
theorem op_add:OpR X (binaryOp .Add) (rI0 fun i j => .int (i + j)) := opI0 fun _ _ _ _ _ _ _ q => add_int q
theorem op_sub:OpR X (binaryOp .Sub) (rI0 fun i j => .int (i - j)) := opI0 fun _ _ _ _ _ _ _ q => sub_int q
theorem op_mul:OpR X (binaryOp .Mult) (rI CMul fun i j => .int (i * j)) := opI fun _ _ _ _ _ _ _ hc q => mul_int q hc.ok
theorem op_fdiv:OpR X (binaryOp .FloorDiv) (rI CDiv fun i j => .int (i / j)) := opI fun i j _ _ _ _ _ hc q => by
  have h1:(0:Int) < j := hc.1
  have h2:j < 1073741824 := hc.2
  exact floordiv_int (by omega) (by rw [Int.fdiv_eq_ediv_of_nonneg i (by omega)]; exact q) (.inl (PyProof.noPylong_small (by omega)))
theorem op_mod:OpR X (binaryOp .Mod) (rI (fun _ j => 0 < j) fun i j => .int (i % j)) := opI fun i j _ _ _ _ _ hc q => by
  have h1:(0:Int) < j := hc
  exact mod_int' (by omega) (by rw [Int.fmod_eq_emod_of_nonneg i (by omega)]; exact q)
theorem op_pow:OpR X (binaryOp .Pow) (rI CPow fun i j => .int (i ^ j.toNat)) := opI fun _ _ _ _ _ _ _ hc q => pow_int_small hc.1 hc.2.1 hc.2.2 q
end
section
variable {X:Cx} {a b c:Expr} {ta tb tc:TE} {pos:Pos}
theorem op_lt:OpR X (compareOp .Lt) (rI0 fun i j => .bl (decide (i < j))) := opB0 fun _ _ _ _ _ _ _ q => lt_int q
theorem op_le:OpR X (compareOp .LtE) (rI0 fun i j => .bl (decide (i <= j))) := opB0 fun _ _ _ _ _ _ _ q => le_int q
theorem op_ge:OpR X (compareOp .GtE) (rI0 fun i j => .bl (decide (j <= i))) := opB0 fun _ _ _ _ _ _ _ q => ge_int q
theorem OpR.or {f:Value -> Value -> Sem Value} {r r':R2} (h:OpR X f r) (h':OpR X f r') : OpR X f (fun x y H Q => r x y H Q \/ r' x y H Q) := by
  intro pins s σ H x y v u Q I rx ry q
  rcases q with q | q
  · exact h pins s σ H x y v u Q I rx ry q
  · exact h' pins s σ H x y v u Q I rx ry q
theorem nomark (b:Expr) {op:CmpOp} (h:op ≠ .In := by decide) (h2:op ≠ .NotIn := by decide) : behindInMarks op b = false := by
  have e1:(op == CmpOp.In) = false := by cases op <;> first | rfl | exact absurd rfl h
  have e2:(op == CmpOp.NotIn) = false := by cases op <;> first | rfl | exact absurd rfl h2
  cases b <;> simp [behindInMarks,e1,e2]
theorem pe_cmpR {op:CmpOp} {r:R2} (ho:OpR X (compareOp op) r) (ha:PE X a ta) (hb:PE X b tb) (hm:behindInMarks op b = false) : PE X (.Compare a [op] [b] pos) (tOp r ta tb) := by
  intro pins s σ H Q I h
  exact wpAny_Compare1 (binT ha hb I h fun v u s2 x y H2 I2 rx ry q => ho pins s2 σ H2 x y v u Q I2 rx ry q) hm
def tTest (t:TE) : TT := fun σ H Q => t σ H fun x H' => ∃ k,x = .bl k /\ Q k H'
theorem pt_cmpR {op:CmpOp} {r:R2} (ho:OpR X (compareOp op) r) (ha:PE X a ta) (hb:PE X b tb) (hm:behindInMarks op b = false) : PT X (.Compare a [op] [b] pos) (tTest (tOp r ta tb)) := by
  intro pins s σ H Q I h
  refine wpAny_isTrue_Compare1 (thn (ha pins s σ H _ I h) fun v s1 ⟨x,H1,I1,r1,q1⟩ => thn (hb pins s1 σ H1 _ I1 q1) fun u s2 ⟨y,H2,I2,r2,q2⟩ =>
    thn (ho pins s2 σ H2 x y v u _ I2 r1 r2 q2) fun c s3 ⟨z,H3,I3,r3,k,e,q3⟩ => ?_) hm
  subst e
  cases r3
  exact wpAny_truthy_bool ⟨H3,I3,q3⟩
def TruV (K:PySem.W.Frag) (x:V) (H:Hp) (k:Bool) : Prop :=
  match x with
  | .non => k = false
  | .bl b => k = b
  | .int i => k = (i != 0)
  | .str y => y.length <= sizeLine /\ k = ((y.length:Int) != 0)
  | .byt y => y.size <= sizeLine /\ k = ((y.size:Int) != 0)
  | .ref p => (∃ xs,SqL K H p xs /\ k = !xs.isEmpty) \/ (∃ xs,SqT K H p xs /\ k = !xs.isEmpty) \/ ∃ kvs,H p = some (.dK kvs) /\ k = !kvs.isEmpty
  | _ => False
theorem isEmpty_kv {κ:Type} {kvs:List (κ × V)} {vs:List (κ × Value)} (r:KV kvs vs) : (!vs.isEmpty) = !kvs.isEmpty := by
  cases r <;> rfl
theorem isEmpty_of {xs:List V} {its:List Value} (r:Vals xs its) : (!its.toArray.isEmpty) = !xs.isEmpty := by
  cases r <;> simp
theorem line63:(sizeLine:Nat) < 2 ^ 63 := by rw [sizeLine_eq]; decide
theorem tru_ok:TruR X (fun x H Q => ∃ k,TruV X.K x H k /\ Q k H) := by
  intro pins s σ H x v Q I rx h
  obtain ⟨k,e,q⟩ := h
  have hl := line63
  have hs:sizeLine = 16777216 := sizeLine_eq
  cases x with
  | non =>
    cases rx
    have e':k = false := e
    subst e'
    exact truthy_none ⟨H,I,q⟩
  | bl b =>
    cases rx
    have e':k = b := e
    subst e'
    exact wpAny_truthy_bool ⟨H,I,q⟩
  | int i =>
    obtain ⟨t,rfl⟩ := rx
    have e':k = (i != 0) := e
    subst e'
    exact PySem.P.truthy_int ⟨H,I,q⟩
  | str y =>
    obtain ⟨t,rfl⟩ := rx
    obtain ⟨hy,e'⟩ : y.length <= sizeLine /\ k = ((y.length:Int) != 0) := e
    subst e'
    exact PySem.P.truthy_str (by omega) ⟨H,I.tok _,q⟩
  | byt y =>
    obtain ⟨t,rfl⟩ := rx
    obtain ⟨hy,e'⟩ : y.size <= sizeLine /\ k = ((y.size:Int) != 0) := e
    subst e'
    exact PySem.W.truthy_bytes (by omega) ⟨H,I.tok _,q⟩
  | ref p =>
    cases rx
    have e':(∃ xs,SqL X.K H p xs /\ k = !xs.isEmpty) \/ (∃ xs,SqT X.K H p xs /\ k = !xs.isEmpty) \/ ∃ kvs,H p = some (.dK kvs) /\ k = !kvs.isEmpty := e
    rcases e' with ⟨xs,hx,e'⟩ | ⟨xs,hx,e'⟩ | ⟨kvs,hx,e'⟩
    · subst e'
      obtain ⟨its,r,pl,hz⟩ := I.list hx
      have hlen := r.length
      exact wpAny_truthy_list pl.isList (by simp only [List.size_toArray]; omega) ⟨H,I.tok _,by rw [isEmpty_of r]; exact q⟩
    · subst e'
      obtain ⟨its,r,pl,hz⟩ := I.tuple hx
      have hlen := r.length
      exact truthy_tuple pl (by simp only [List.size_toArray]; omega) ⟨H,I.tok _,by rw [isEmpty_of r]; exact q⟩
    · subst e'
      obtain ⟨hz,hS,vs,r,m⟩ : kvs.length <= sizeLine /\ (p == sysModules) = false /\ ∃ vs,KV kvs vs /\ s.heap.DictOf (mixKind X.prog X.w) p vs := I.hok p _ hx
      have hlen:kvs.length = vs.length := Paired.length r
      exact wpAny_truthy_dict hS m (by omega) ⟨H,I.tok _,by rw [isEmpty_kv r]; exact q⟩
  | _ => exact (show False from e).elim
theorem pt_truth (ha:PE X a ta) (he:∀ whole,isTrue a X.env whole = (do let v <- whole; standAt a.pos; holding [v] (truthy v))) :
    PT X a (fun σ H Q => ta σ H fun x H' => ∃ k,TruV X.K x H' k /\ Q k H') := by
  intro pins s σ H Q I h
  exact isTrue_plain (thn (ha pins s σ H _ I h) fun v s1 ⟨x,H1,I1,r1,q1⟩ => tru_ok pins s1 σ H1 x v Q I1 r1 q1) (he _)
theorem op_add_str:OpR X (binaryOp .Add) (fun x y H Q => ∃ i j,x = .str i /\ y = .str j /\ i.length + j.length <= sizeLine /\ Q (.str (i ++ j)) H) := by
  intro pins s σ H x y v u Q I rx ry h
  obtain ⟨i,j,rfl,rfl,hz,q⟩ := h
  obtain ⟨t,rfl⟩ := rx
  obtain ⟨t',rfl⟩ := ry
  exact add_str (fun t' tk => ⟨.str (i ++ j),H,I.tok _,⟨_,rfl⟩,q⟩) hz
theorem vals1 {x:V} {us:List Value} (r:Vals [x] us) : ∃ u,us = [u] /\ RelV x u := by
  cases r with
  | cons r1 r2 => cases r2; exact ⟨_,rfl,r1⟩
theorem vals2 {x y:V} {us:List Value} (r:Vals [x,y] us) : ∃ u w',us = [u,w'] /\ RelV x u /\ RelV y w' := by
  cases r with
  | cons r1 r2 =>
    cases r2 with
    | cons r3 r4 => cases r4; exact ⟨_,_,rfl,r1,r3⟩
theorem call_min2 (hc : X.calm = true) : CallR X (.builtin "min") (fun xs H Q => ∃ i j, xs = [.int i, .int j] /\ Q (.int (if j < i then j else i)) H) := by
  intro pins s σ H xs us Q I r h
  obtain ⟨i,j,rfl,q⟩ := h
  obtain ⟨u,w',rfl,⟨t,rfl⟩,⟨t',rfl⟩⟩ := vals2 r
  refine min_two_ints (I.ok.hd hc) fun h' tk k => ⟨_,H,I.kept k,?_,q⟩
  by_cases hj:j < i
  · rw [if_pos hj,if_pos hj]; exact ⟨_,rfl⟩
  · rw [if_neg hj,if_neg hj]; exact ⟨_,rfl⟩
end
end L2
namespace L2
open PySem PySem.Spec PyProof.Rows
structure ObjM (h:Heap) (x dx C:Addr) (mA:Str -> Option Value) : Prop where
  obj:h.get? x = some (PySem.W.instObj C dx)
  ns:h.Ns1 dx mA
  ne:dx ≠ x
theorem lookIn_ns {h:Heap} {dx:Addr} {mA:Str -> Option Value} (n:h.Ns1 dx mA) : ∃ od,h.get? dx = some od /\ ∀ name,PySem.W.lookIn name od = some (mA name) := by
  obtain ⟨o,es,ep,ho,hd,hk,_,hm⟩ := n
  refine ⟨o,ho,fun name => ?_⟩
  have e := hm name
  unfold nsFind findBy at e
  rw [<- Array.find?_toList] at e
  unfold PySem.W.lookIn
  rw [hd]
  dsimp only
  split
  · rename_i y q
    rw [q] at e
    exact congrArg some e
  · rename_i q
    rw [q] at e
    have a:es.toList.any (·.refKey) = false := by
      rw [List.any_eq_false]
      intro y hy
      obtain ⟨z,t,hkey⟩ := hk y (Array.mem_toList_iff.mp hy)
      simp [DictEntry.refKey,hkey]
    have a':¬ es.toList.any (·.refKey) = true := by rw [a]; exact Bool.false_ne_true
    rw [if_neg a']
    exact congrArg some e
theorem ObjM.look {h:Heap} {x dx C:Addr} {mA:Str -> Option Value} (I:ObjM h x dx C mA) : ∃ od,PySem.W.InstAt h x (PySem.W.instObj C dx) C (some od) /\ ∀ name,PySem.W.lookIn name od = some (mA name) :=
  let ⟨od,ho,hl⟩ := lookIn_ns I.ns
  ⟨od,⟨I.obj,rfl,rfl,ho⟩,hl⟩
section
variable {prog:Program} {w:World} {A:Around} {E:Value -> Shared -> Prop} {s:Shared} {K:PySem.W.Frag} {x dx C f:Addr} {mA:Str -> Option Value} {name:Str} {v:Value}
end
section
variable {P:Program} {w:World} {H H':Hp} {h h':Heap} {a C dx:Addr} {fs fs':List (Str × V)}
theorem ins_get (hok:HOk P w H h) (e:H a = some (.ins C dx fs)) : ∃ mA,ObjM h a dx C mA /\ (∀ f,RelO (fs.lookup f) (mA f)) /\ PySem.Within mA (fs.map (·.1)) /\ fs.length <= 1000 /\ H dx = some (.own a) := by
  obtain ⟨d,z,ne,ob,mA,n,r,q⟩ := (show ObjOk P w H h a (.ins C dx fs) from hok a _ e)
  exact ⟨mA,⟨ob,n,ne⟩,r,q,z,d⟩
end
structure Cls (K:PySem.W.Frag) (C:Addr) : Prop where
  pg:PySem.W.plainGet K C Str.empty = true
  hd:PySem.W.hasDictIn K C = true
  po:PySem.W.plainOver K C = true
  sa : PySem.W.findIn K (.ref C) "__setattr__" = some (some (.builtin "object.__setattr__"))
theorem Cls.get {K:PySem.W.Frag} {C:Addr} (c:Cls K C) (f:Str) : PySem.W.plainGet K C f = true := c.pg
structure Con (K:PySem.W.Frag) (C:Addr) (f:Str) (v:V) (u:Value) : Prop where
  at_:PySem.W.findIn K (.ref C) f = some (some u)
  rel:RelV v u
  get : PySem.W.specialIn K u "__get__" = some none
  cp:PySem.W.copiedNames.contains f = false
structure Meth (K:PySem.W.Frag) (C:Addr) (m:Str) (f:Addr) : Prop where
  at_:PySem.W.findIn K (.ref C) m = some (some (.ref f))
  fn:PySem.W.isFn K (.ref f) = true
  kp:PySem.W.keepIn K (.ref f) = true
section
variable {X:Cx} {pins:List (Addr × Obj)} {σ:St} {H:Hp} {s:Shared} {a C dx:Addr} {fs:List (Str × V)} {f:Str} {v:V} {A:Around} {E:Value -> Shared -> Prop}
end
section
variable {X:Cx} {o e value:Expr} {f:Str} {pos pos' tpos:Pos} {ta tv:TE}
end
section
variable {X:Cx} {pins:List (Addr × Obj)} {σ:St} {H:Hp} {s:Shared} {A:Around} {E:Value -> Shared -> Prop} {Q:Value -> Shared -> Prop} {c:Value} {b:Bool}
inductive TyOf (K:PySem.W.Frag) (H:Hp) : V -> Value -> Prop where
  | non : TyOf K H .non (.type "NoneType")
  | bl (x : Bool) : TyOf K H (.bl x) (.type "bool")
  | int (i : Int) : TyOf K H (.int i) (.type "int")
  | str (x : Str) : TyOf K H (.str x) (.type "str")
  | flt (x : UInt64) : TyOf K H (.flt x) (.type "float")
  | lst {a : Addr} {xs : List V} (e : H a = some (.lst xs)) : TyOf K H (.ref a) (.type "list")
  | frz {a : Addr} {o : Obj} {xs : List V} (e : H a = some (.frz o (.lst xs))) : TyOf K H (.ref a) (.type "list")
  | tup {a : Addr} {xs : List V} (e : H a = some (.tup xs)) : TyOf K H (.ref a) (.type "tuple")
  | dK {a : Addr} {kvs : List (Key × V)} (e : H a = some (.dK kvs)) : TyOf K H (.ref a) (.type "dict")
  | dT {a : Addr} {kvs : List (List Key × V)} (e : H a = some (.dT kvs)) : TyOf K H (.ref a) (.type "dict")
  | ins {a C dx : Addr} {fs : List (Str × V)} (e : H a = some (.ins C dx fs)) (cl : Cls K C) (ha : PySem.W.findIn K (.ref C) "__class__" = some (some (.builtin "object.__class__")))
      (hn : PySem.W.specialIn K (.builtin "object.__class__") "__get__" = some (some (.builtin "getset_descriptor.__get__"))) (htk : PySem.W.takesIn K (.builtin "object.__class__") = some true)
      (hm : PySem.W.mroIn K C (.type "object") = some true) : TyOf K H (.ref a) (.ref C)
theorem isinst_ok {x:V} {u t:Value} (I:Inv X pins σ H s) (rx:RelV x u) (ty:TyOf X.K H x t) (e:PySem.W.kitOne X.K t c = some b) (h:∀ tk,Q (.bool b) { s with toks := tk }) :
    wpAny (model X.prog X.w) A (call (.builtin "isinstance") [u, c]) Q E s := by
  cases ty with
  | non => cases (show u = Value.none from rx); exact PySem.W.kia_one PySem.W.kitx_none I.kIn True.intro e (fun z => nomatch z) h
  | bl y => cases (show u = Value.bool y from rx); exact PySem.W.kia_one PySem.W.kitx_bool I.kIn True.intro e (fun z => nomatch z) h
  | int i => obtain ⟨t,q⟩ := (show ∃ t,u = Value.int i t from rx); cases q; exact PySem.W.kia_one PySem.W.kitx_int I.kIn True.intro e (fun z => nomatch z) h
  | str y => obtain ⟨t,q⟩ := (show ∃ t,u = Value.str y t from rx); cases q; exact PySem.W.kia_one PySem.W.kitx_str I.kIn True.intro e (fun z => nomatch z) h
  | flt y => obtain ⟨t,q⟩ := (show ∃ t,u = Value.float y t from rx); cases q; exact PySem.W.kia_one PySem.W.kitx_float I.kIn True.intro e (fun z => nomatch z) h
  | @lst a xs ea =>
    cases (show u = Value.ref a from rx)
    obtain ⟨_,_,n,_,h1⟩ := (show ObjOk X.prog X.w H s.heap a (.lst xs) from I.hok a _ ea)
    exact PySem.W.kia_one PySem.W.kitx_list I.kIn ⟨_,h1,rfl⟩ e (fun z => nomatch z) h
  | @frz a ob xs ea =>
    cases (show u = Value.ref a from rx)
    obtain ⟨_,_,_,n,_,h1⟩ := (show ObjOk X.prog X.w H s.heap a (.frz ob (.lst xs)) from I.hok a _ ea)
    exact PySem.W.kia_one PySem.W.kitx_list I.kIn ⟨_,h1,rfl⟩ e (fun z => nomatch z) h
  | @tup a xs ea =>
    cases (show u = Value.ref a from rx)
    obtain ⟨_,_,_,p⟩ := (show ObjOk X.prog X.w H s.heap a (.tup xs) from I.hok a _ ea)
    obtain ⟨o,h1,h2,_⟩ := p
    exact PySem.W.kia_one PySem.W.kitx_tuple I.kIn ⟨o,h1,h2⟩ e (fun z => nomatch z) h
  | @dK a kvs ea =>
    cases (show u = Value.ref a from rx)
    obtain ⟨_,_,vs,_,p⟩ := (show ObjOk X.prog X.w H s.heap a (.dK kvs) from I.hok a _ ea)
    obtain ⟨o,es,ep,h1,h2,_⟩ := p
    exact PySem.W.kia_one PySem.W.kitx_dict I.kIn ⟨o,h1,h2.1⟩ e (fun z => nomatch z) h
  | @dT a kvs ea =>
    cases (show u = Value.ref a from rx)
    obtain ⟨_,_,xs,_,o,es,ep,h1,h2,_⟩ := (show ObjOk X.prog X.w H s.heap a (.dT kvs) from I.hok a _ ea)
    exact PySem.W.kia_one PySem.W.kitx_dict I.kIn ⟨o,h1,h2.1⟩ e (fun z => nomatch z) h
  | @ins a C dx fs ea cl ha hn htk hm =>
    cases (show u = Value.ref a from rx)
    obtain ⟨mA,O,_⟩ := ins_get I.hok ea
    obtain ⟨od,J,_⟩ := O.look
    exact PySem.W.kia_one (PySem.W.kitx_own (cl.get _) cl.hd ha hn htk hm) I.kIn J e (fun z => nomatch z) h
end
end L2
namespace L2
open PySem PySem.Spec PyProof.Rows
structure Room (k:Nat) (A:Around) : Prop where
  hd:A.handled = none
  dp:A.depth + 3 * k + 5 < recursionLimit
  un:A.units + 16 * k + 200 < cLine
theorem Room.mono {j k:Nat} {A:Around} (r:Room k A) (h:j <= k) : Room j A := ⟨r.hd,by have := r.dp; omega,by have := r.un; omega⟩
theorem Room.deeper {k:Nat} {A:Around} (r:Room (k + 1) A) (env:Env) : Room k (A.deeper env) :=
  ⟨r.hd,by have := r.dp; show A.depth + 1 + 3 * k + 5 < _; omega,by have := r.un; show A.units + 3 + 16 * k + 200 < _; omega⟩
theorem Room.in1 {k:Nat} {A:Around} (r:Room (k + 1) A) : Room k A.in1 :=
  ⟨r.hd,by have := r.dp; show A.depth + 3 * k + 5 < _; omega,by have := r.un; show A.units + 1 + 16 * k + 200 < _; omega⟩
theorem Room.depth {k:Nat} {A:Around} (r:Room k A) : A.depth < recursionLimit := by have := r.dp; omega
theorem Room.units {k:Nat} {A:Around} (r:Room k A) : A.units + 64 < cLine := by have := r.un; omega
def tNil:TA := fun _ H Q => Q [] H
def tCons (ta:TE) (tr:TA) : TA := fun σ H Q => ta σ H fun x H1 => tr σ H1 fun xs H2 => Q (x :: xs) H2
section
variable {X:Cx} {e:Expr} {es:List Expr} {te:TE} {t:TA} {pos:Pos}
theorem pa_nil:PA X [] tNil := fun _ _ _ _ H Q I h => Calls.spliced_nil ⟨[],H,I,.nil,h⟩
theorem pa_cons (ha:PE X e te) (hr:PA X es t) (hs:starEach (e :: es) X.env = (false,eval e X.env) :: starEach es X.env := by rfl) : PA X (e :: es) (tCons te t) := by
  intro pos pins s σ H Q I h
  rw [hs]
  show wpAny _ _ (spliced ((false,eval e X.env) :: backTo pos (starEach es X.env))) _ _ s
  refine Calls.spliced_cons (thn (ha pins s σ H _ I h) fun u s1 ⟨x,H1,I1,r1,q1⟩ => ?_)
  exact thn (hr pos pins s1 σ H1 _ I1 q1) fun us s2 ⟨xs,H2,I2,r2,q2⟩ => ⟨x :: xs,H2,I2,.cons r1 r2,q2⟩
def tTup (t:TA) : TE := fun σ H Q => t σ H fun xs H1 => xs.length <= sizeLine /\ ∀ p,H1 p = none -> Q (.ref p) (upd H1 p (.tup xs))
def tLst (t:TA) : TE := fun σ H Q => t σ H fun xs H1 => xs.length <= sizeLine /\ ∀ p,H1 p = none -> Q (.ref p) (upd H1 p (.lst xs))
theorem pe_tup {x1} (h:PA X es t) : PE X (.Tuple es x1 pos) (tTup t) := by
  intro pins s σ H Q I hq
  refine wpAny_Tuple_spliced (thn (h pos pins s σ H _ I hq) fun us s1 ⟨xs,H1,I1,r,z,q⟩ => ⟨by rw [<- r.length]; exact z,?_⟩)
  have hf:H1 s1.heap.objs.size = none := I1.hok.fresh (Nat.le_refl _)
  refine ⟨.ref s1.heap.objs.size,upd H1 s1.heap.objs.size (.tup xs),I1.laid (t' := s1.toks) (fun b u e => Heap.get?_push_of_some _ e) (Nat.le_refl _) ?_,rfl,q _ hf⟩
  exact ⟨z,us,r,⟨_,Heap.get?_push_size _ rfl,rfl,_,rfl⟩⟩
theorem pe_lst (h:PA X es t) : PE X (.List es pos) (tLst t) := by
  intro pins s σ H Q I hq
  refine wpAny_List_spliced (thn (h pos pins s σ H _ I hq) fun us s1 ⟨xs,H1,I1,r,z,q⟩ => ⟨by rw [<- r.length]; exact z,?_⟩)
  have hf:H1 s1.heap.objs.size = none := I1.hok.fresh (Nat.le_refl _)
  refine ⟨.ref s1.heap.objs.size,upd H1 s1.heap.objs.size (.lst xs),I1.laid (t' := s1.toks) (fun b u e => Heap.get?_push_of_some _ e) (Nat.le_refl _) ?_,rfl,q _ hf⟩
  exact ⟨z,us,0,r,Heap.get?_push_size _ rfl⟩
end
abbrev Sp := List V -> Hp -> VK -> XK -> Prop
abbrev CXT := List Env -> Hp -> Shared -> XK -> Value -> Shared -> Prop
structure Env0 (P:Program) (w:World) (K:PySem.W.Frag) (mg:Str -> Option Value) (base:Heap) (A:Around) (outer:List Env) (s:Shared) (H:Hp) : Prop where
  frames:A.frames = some outer
  mod:Mod K mg base
  bs:∀ b o,base.get? b = some o -> s.heap.get? b = some o /\ H b = none
  bsz:base.objs.size <= s.heap.objs.size
  funs:s.heap.FunFrames base outer
  frf:∀ b ∈ frs outer,H b = none
  hok:HOk P w H s.heap
  bare:AllBare s.gens
def CE (outer:List Env) (P:Program) (w:World) (H:Hp) (s:Shared) (Q:VK) (u:Value) (s':Shared) : Prop :=
  ∃ v H',s'.os = s.os /\ AllBare s'.gens /\ Un (frs outer) [] H H' s.heap s'.heap /\ HOk P w H' s'.heap /\ RelV v u /\ Q v H'
def CR (CX:CXT) (outer:List Env) (P:Program) (w:World) (H:Hp) (s:Shared) (Q:VK) (E:XK) (r:Result) (s':Shared) : Prop :=
  match r with
  | .ok (.ret u) => CE outer P w H s Q u s'
  | .ok _ => False
  | .error e => CX outer H s E e s'
structure FnOk (P:Program) (w:World) (K:PySem.W.Frag) (mg:Str -> Option Value) (base:Heap) (CX:CXT) (k:Nat) (f:Addr) (fd:FuncData) (ps:List Str) (sp:Sp) : Prop where
  len:∀ vs H Q E,sp vs H Q E -> vs.length = ps.length
  run:∀ (A:Around) (outer:List Env) (s:Shared) (H:Hp) (args:Args) (us:List Value) (vs:List V) (Q:VK) (E:XK),Room k A -> Env0 P w K mg base A outer s H -> BindsTo s fd args (ps.zip us) -> Vals vs us -> sp vs H Q E ->
    codeAny (model P w) A (.call (.ref f) args) (CR CX outer P w H s Q E) s
theorem FnOk.mono {P:Program} {w:World} {K:PySem.W.Frag} {mg:Str -> Option Value} {base:Heap} {CX:CXT} {j k:Nat} {f:Addr} {fd:FuncData} {ps:List Str} {sp:Sp} (F:FnOk P w K mg base CX j f fd ps sp) (h:j <= k) :
    FnOk P w K mg base CX k f fd ps sp := ⟨F.len,fun A outer s H args us vs Q E hr => F.run A outer s H args us vs Q E (hr.mono h)⟩
theorem FnOk.imp {P:Program} {w:World} {K:PySem.W.Frag} {mg:Str -> Option Value} {base:Heap} {CX:CXT} {k:Nat} {f:Addr} {fd:FuncData} {ps:List Str} {sp sp':Sp} (F:FnOk P w K mg base CX k f fd ps sp)
    (h:∀ vs H Q E,sp' vs H Q E -> sp vs H Q E) : FnOk P w K mg base CX k f fd ps sp' :=
  ⟨fun vs H Q E q => F.len vs H Q E (h _ _ _ _ q),fun A outer s H args us vs Q E hr he hb hv hs => F.run A outer s H args us vs Q E hr he hb hv (h _ _ _ _ hs)⟩
theorem Env0.in1 {P:Program} {w:World} {K:PySem.W.Frag} {mg:Str -> Option Value} {base:Heap} {A:Around} {outer:List Env} {s:Shared} {H:Hp} (e:Env0 P w K mg base A outer s H) :
    Env0 P w K mg base A.in1 outer s H := ⟨e.frames,e.mod,e.bs,e.bsz,e.funs,e.frf,e.hok,e.bare⟩
section
variable {X:Cx} {pins:List (Addr × Obj)} {σ:St} {H:Hp} {s s':Shared}
theorem Inv.env0 (I:Inv X pins σ H s) : Env0 X.prog X.w X.K X.mg X.base X.A X.stack s H :=
  ⟨I.ok.frames,I.ok.mod,I.bs,Nat.le_trans I.ok.bsz I.sz,I.stack,I.stkFree,I.hok,I.bare⟩
theorem Inv.after {Q:VK} {u:Value} (I:Inv X pins σ H s) (h:CE X.stack X.prog X.w H s Q u s') : EP X pins σ Q u s' := by
  obtain ⟨v,H',os,bare,un,hok,r,q⟩ := h
  obtain ⟨hh,g,d,t,os'⟩ := s'
  obtain rfl:os' = s.os := os
  exact ⟨v,H',I.call (h' := hh) (g' := g) (d' := d) (t' := t) (ch := []) un hok bare (fun b z => absurd z (by simp)),r,q⟩
end
def tCall (sp:Sp) (dvs:List V) (E:XK) (t:TA) : TE := fun σ H Q => t σ H fun vs H1 => sp (vs ++ dvs) H1 Q E
def Binds (K:PySem.W.Frag) (fd:FuncData) (ps:List Str) (ds:List Value) : Prop :=
  ∀ (s:Shared) (us:List Value),K.In s.heap -> (us ++ ds).length = ps.length -> BindsTo s fd ⟨us,[]⟩ (ps.zip (us ++ ds))
theorem Binds.all {K:PySem.W.Frag} {fd:FuncData} {ps:List Str} (h:∀ us:List Value,us.length = ps.length -> bindArgs fd ⟨us,[]⟩ = pure (ps.zip us)) : Binds K fd ps [] := fun s us _ hl => by
  rw [List.append_nil] at hl ⊢
  exact .of_eq (h us hl)
def Passes (CX:CXT) (X:Cx) (E:XK) : Prop := ∀ (pins:List (Addr × Obj)) (σ:St) (H:Hp) (s:Shared) (e:Value) (s':Shared),Inv X pins σ H s -> CX X.stack H s E e s' -> X.xe e s'
section
variable {X:Cx} {CX:CXT} {k:Nat} {f C:Addr} {fd:FuncData} {ps:List Str} {sp:Sp} {dvs:List V} {ds:List Value} {E:XK} {x m:Str} {p pos apos:Pos} {e o:Expr} {es:List Expr} {ta:TE} {t:TA}
theorem run_fn {pins:List (Addr × Obj)} {σ:St} {H:Hp} {s:Shared} {Q:VK} {us:List Value} {vs:List V} (F:FnOk X.prog X.w X.K X.mg X.base CX k f fd ps sp) (hr:Room k X.A) (hb:Binds X.K fd ps ds) (hd:Vals dvs ds) (hx:Passes CX X E)
    (I:Inv X pins σ H s) (r:Vals vs us) (h:sp (vs ++ dvs) H Q E) : wpAny (model X.prog X.w) X.A (call (.ref f) us) (EP X pins σ Q) X.xe s := by
  have r2:Vals (vs ++ dvs) (us ++ ds) := r.append hd
  have hl:(us ++ ds).length = ps.length := by rw [<- r2.length]; exact F.len _ _ _ _ h
  refine wpAny_call (codeAny_mono (F.run X.A X.stack s H ⟨us,[]⟩ (us ++ ds) (vs ++ dvs) Q E hr I.env0 (hb s us I.kIn hl) r2 h) fun r s' hq => ?_)
  cases r with
  | error e => exact hx pins σ H s e s' I hq
  | ok fl =>
    cases fl with
    | ret u => exact I.after hq
    | next => exact False.elim hq
    | brk => exact False.elim hq
    | cont => exact False.elim hq
theorem pe_call (F:FnOk X.prog X.w X.K X.mg X.base CX k f fd ps sp) (hr:Room k X.A) (hg:Gl X x) (hm:X.mg x = some (.ref f)) (hk:PySem.W.keepIn X.K (.ref f) = true) (hb:Binds X.K fd ps ds) (hd:Vals dvs ds) (hx:Passes CX X E)
    (ha : PA X (e :: es) t) (hdb : (x == ("__debug__" : Str)) = false := by decide) (he : starEach (e :: es) X.env = (false, eval e X.env) :: starEach es X.env := by rfl) (hpl : (backTo pos (starEach es X.env)).any (·.1) = false := by rfl) :
    PE X (.Call (.Name x p) (e :: es) [] pos) (tCall sp dvs E t) := by
  intro pins s σ H Q I h
  refine wpAny_Call_Name_kw (ld_glob I hg hm ?_ hdb)
  refine PySem.W.callWith_K (h₀ := X.base) I.ok.mod.kin hk (thn (ha pos pins s σ H _ I h) fun us s1 ⟨vs,H1,I1,r,q⟩ => ⟨I1.kIn,?_⟩) he hpl
  exact run_fn F hr hb hd hx I1 r q
structure Mk (K:PySem.W.Frag) (C f:Addr) : Prop where
  makes:PySem.W.makesIn K C = true
  init : PySem.W.findIn K (.ref C) "__init__" = some (some (.ref f))
  fn:PySem.W.isFn K (.ref f) = true
  kp:PySem.W.keepIn K (.ref C) = true
end
section
variable {X:Cx} {CX:CXT} {k:Nat} {f C:Addr} {fd:FuncData} {ps ks:List Str} {sp:Sp} {E:XK} {x m:Str} {p pos apos kpos:Pos} {e o:Expr} {es:List Expr} {kws:List Keyword} {te ta:TE} {t tk:TA} {nm:Option Str}
structure KBinds (K:PySem.W.Frag) (fd:FuncData) (ps ks:List Str) (g:List Value -> List Value -> List Value) (gV:List V -> List V -> List V) : Prop where
  to:∀ (s:Shared) (us ws:List Value),K.In s.heap -> (g us ws).length = ps.length -> BindsTo s fd ⟨us,ks.zip ws⟩ (ps.zip (g us ws))
  rel:∀ {vs:List V} {us:List Value} {zs:List V} {ws:List Value},Vals vs us -> Vals zs ws -> Vals (gV vs zs) (g us ws)
variable {g:List Value -> List Value -> List Value} {gV:List V -> List V -> List V}
end
structure FnScope (N P:List Str) (sc:Scope) : Prop where
  kind:sc.kind = .function
  co:sc.isCoroutine = false
  gen:sc.isGenerator = false
  nd:N.Nodup
  pre:N.take P.length = P
  par:∀ x ∈ P,sc.names.lookup x = some .local \/ sc.names.lookup x = some .cell
  nofree:∀ y ∈ sc.names,y.2 ≠ .free
theorem bindL_out {kindOf:Str -> Option NameKind} {x:Str} : ∀ {binds:List (Str × Value)} {m:Str -> Option Value},(∀ v,(x,v) ∉ binds) -> bindL kindOf binds m x = m x
  | [],_,_ => rfl
  | (n,v) :: r,m,h => by
    unfold bindL
    rw [bindL_out fun w hw => h w (List.mem_cons_of_mem _ hw)]
    split
    · have:x ≠ n := by rintro rfl; exact h v List.mem_cons_self
      simp [this]
    · rfl
theorem bindC_out {kindOf:Str -> Option NameKind} {x:Str} : ∀ {binds:List (Str × Value)} {m:Str -> Option Value},(∀ v,(x,v) ∉ binds) -> bindC kindOf binds m x = m x
  | [],_,_ => rfl
  | (n,v) :: r,m,h => by
    unfold bindC
    rw [bindC_out fun w hw => h w (List.mem_cons_of_mem _ hw)]
    split
    · rfl
    · have:x ≠ n := by rintro rfl; exact h v List.mem_cons_self
      simp [this]
theorem bindL_get {kindOf:Str -> Option NameKind} {x:Str} {v:Value} : ∀ {P:List Str} {vs:List Value} {i:Nat} {m:Str -> Option Value},P.Nodup -> P[i]? = some x -> vs[i]? = some v -> kindOf x = some .local ->
    bindL kindOf (P.zip vs) m x = some v
  | [],_,_,_,_,h,_,_ => by simp at h
  | _ :: _,[],_,_,_,_,h,_ => by simp at h
  | p :: P,w :: vs,0,m,nd,h1,h2,hk => by
    simp at h1 h2; subst h1; subst h2
    show bindL kindOf ((p,w) :: P.zip vs) m p = _
    unfold bindL
    rw [bindL_out fun v hv => (List.nodup_cons.mp nd).1 (List.of_mem_zip hv).1,if_pos hk]
    simp
  | p :: P,w :: vs,i + 1,m,nd,h1,h2,hk => by
    show bindL kindOf ((p,w) :: P.zip vs) m x = _
    unfold bindL
    exact bindL_get (i := i) (List.nodup_cons.mp nd).2 (by simpa using h1) (by simpa using h2) hk
theorem bindC_get {kindOf:Str -> Option NameKind} {x:Str} {v:Value} : ∀ {P:List Str} {vs:List Value} {i:Nat} {m:Str -> Option Value},P.Nodup -> P[i]? = some x -> vs[i]? = some v -> kindOf x ≠ some .local ->
    bindC kindOf (P.zip vs) m x = some v
  | [],_,_,_,_,h,_,_ => by simp at h
  | _ :: _,[],_,_,_,_,h,_ => by simp at h
  | p :: P,w :: vs,0,m,nd,h1,h2,hk => by
    simp at h1 h2; subst h1; subst h2
    show bindC kindOf ((p,w) :: P.zip vs) m p = _
    unfold bindC
    rw [bindC_out fun v hv => (List.nodup_cons.mp nd).1 (List.of_mem_zip hv).1,if_neg hk]
    simp
  | p :: P,w :: vs,i + 1,m,nd,h1,h2,hk => by
    show bindC kindOf ((p,w) :: P.zip vs) m x = _
    unfold bindC
    exact bindC_get (i := i) (List.nodup_cons.mp nd).2 (by simpa using h1) (by simpa using h2) hk
def start (N:List Str) (vs:List V) : St := vs.map some ++ List.replicate (N.length - vs.length) none
def cxOf (CX:CXT) (P:Program) (w:World) (K:PySem.W.Frag) (mg:Str -> Option Value) (base:Heap) (N:List Str) (qual:Str) (scope:Scope) (f:Addr) (cd:Value) (A:Around) (outer:List Env) (s:Shared) (H:Hp) (E:XK) : Cx where
  prog := P
  w := w
  K := K
  mg := mg
  base := base
  A := A.deeper (envOfC qual scope s.heap.objs.size f cd)
  N := N
  s₀ := s
  H₀ := H
  env := envOfC qual scope s.heap.objs.size f cd
  outer := outer
  stack := envOfC qual scope s.heap.objs.size f cd :: outer
  ex := []
  calm := true
  fn := fun _ => true
  pn := []
  xe := fun e s' => wpAny (model P w) (A.deeper (envOfC qual scope s.heap.objs.size f cd)) (leaving (envOfC qual scope s.heap.objs.size f cd) e) (fun _ s'' => CX outer H s E e s'') (fun e' s'' => CX outer H s E e' s'') s'
theorem cell_has {sc:Scope} {n:Nat} {x:Str} (h:sc.names.lookup x = some .cell) : ∃ c,(cellsFrom n sc.names []).lookup x = some c := by
  have q := PySem.W.cellsFrom_some sc.names n [] (.inl h)
  exact Option.isSome_iff_exists.mp q
theorem inv_start {CX:CXT} {P:Program} {w:World} {K:PySem.W.Frag} {mg:Str -> Option Value} {base:Heap} {N ps:List Str} {qual:Str} {scope:Scope} {f:Addr} {cd:Value} {A:Around} {outer:List Env} {s s1:Shared} {H:Hp} {E:XK} {us:List Value} {vs:List V}
    (S:FnScope N ps scope) (hd:A.handled = none) (e0:Env0 P w K mg base A outer s H) (hl:vs.length = ps.length) (r:Vals vs us)
    (x:InCallC s s.heap.objs.size (bindL (envOfC qual scope s.heap.objs.size f cd).kindOf (ps.zip us) fun _ => none) (cellsFrom (s.heap.objs.size + 1) scope.names []) (bindC (envOfC qual scope s.heap.objs.size f cd).kindOf (ps.zip us) fun _ => none) s1) :
    Inv (cxOf CX P w K mg base N qual scope f cd A outer s H E) [] (start N vs) H s1 := by
  have hpl:ps.length <= N.length := by have := congrArg List.length S.pre; rw [List.length_take] at this; omega
  obtain ⟨h1,tk,rfl,hk⟩ := x.done
  have noA:∀ b:Addr,b ∉ (cxOf CX P w K mg base N qual scope f cd A outer s H E).ex := fun b z => absurd (show b ∈ ([] : List Addr) from z) (by simp)
  refine ⟨⟨e0.mod,S.kind,rfl,rfl,Nat.le_refl _,fun y z c h1 h2 => ?_,fun y hy => ?_,fun y c _ h => ?_,fun _ => hd,Around.frames_deeper e0.frames,.inr ⟨rfl,rfl⟩,fun b z => absurd z (noA b),e0.bs,e0.bsz,fun b _ _ => noA b,fun b z => absurd z (noA b),e0.funs,e0.frf⟩,
    rfl,e0.bare,Un.kept hk,⟨_,x.toInCall.ns,fun i y v h1 h2 h3 => ?_⟩,fun y c h => ⟨_,x.cell y c h⟩,e0.hok.fresh (Nat.le_refl _),fun y c h => ?_,fun p hp => absurd (show p ∈ ([] : List (Addr × Obj)) from hp) (by simp),e0.hok.kept hk,?_⟩
  · exact name_of_addr x.apart (PySem.mem_of_lookup h1) (PySem.mem_of_lookup h2)
  · have hy:scope.names.lookup y = some .cell \/ scope.names.lookup y = some .free := hy
    rcases hy with hy | hy
    · exact cell_has hy
    · exact absurd rfl (S.nofree _ (PySem.mem_of_lookup hy))
  · exact Nat.le_of_lt (x.above y c (PySem.mem_of_lookup h))
  · have hi:i < vs.length := by
      unfold start at h2
      by_cases hi:i < vs.length
      · exact hi
      · rw [List.getElem?_append_right (by simpa using hi)] at h2
        rw [List.getElem?_replicate] at h2
        split at h2 <;> cases h2
    have ha:vs[i]? = some v := by
      unfold start at h2
      rw [List.getElem?_append_left (by simpa using hi),List.getElem?_map] at h2
      cases e:vs[i]? with
      | none => rw [e] at h2; cases h2
      | some a => rw [e] at h2; cases h2; rfl
    obtain ⟨u,hu,rv⟩ := r.get ha
    have hp:ps[i]? = some y := by
      rw [<- S.pre,List.getElem?_take_of_lt (by omega)]; exact h1
    have ndP:ps.Nodup := by rw [<- S.pre]; exact S.nd.sublist (List.take_sublist _ _)
    refine ⟨u,rv,?_⟩
    rcases S.par y (List.mem_of_getElem? hp) with k | k
    · exact .inl ⟨k,bindL_get ndP hp hu k⟩
    · obtain ⟨c,e⟩ := cell_has (n := s.heap.objs.size + 1) k
      refine .inr ⟨.inl k,c,e,?_⟩
      have q := x.cell y c e
      rw [bindC_get ndP hp hu (by show scope.names.lookup y ≠ _; rw [k]; decide)] at q
      exact q
  · exact e0.hok.fresh (Nat.le_of_lt (x.above y c (PySem.mem_of_lookup h)))
  · unfold start
    show _ = N.length
    rw [List.length_append,List.length_map,List.length_replicate]
    omega
theorem fn_of {CX:CXT} {P:Program} {w:World} {K:PySem.W.Frag} {mg:Str -> Option Value} {base:Heap} {k:Nat} {f:Addr} {name qual:Str} {params:Arguments} {body:List Stmt} {scope:Scope} {dV kV doc pm cdv ct oc:Value} {an od:Option Addr}
    {osl:Array (Option Value)} {N ps:List Str} {sp:Sp} (lk:K.lookup f = some ⟨oc,od,.func (PySem.W.fnOf name qual params body scope dV kV doc pm an cdv ct),osl⟩) (hcd:PySem.W.codeIn K cdv qual = true) (S:FnScope N ps scope)
    (len:∀ vs H Q E,sp vs H Q E -> vs.length = ps.length)
    (hbody:∀ (A:Around) (outer:List Env) (s:Shared) (H:Hp) (vs:List V) (Q:VK) (E:XK),Room k (A.deeper (envOfC qual scope s.heap.objs.size f cdv)) -> sp vs H Q E ->
      ∃ t,PSs (cxOf CX P w K mg base N qual scope f cdv A outer s H E) body t /\ t { nx := fun _ H' => Q .non H',rt := Q } (start N vs) H) :
    FnOk P w K mg base CX (k + 1) f (PySem.W.fnOf name qual params body scope dV kV doc pm an cdv ct) ps sp := by
  refine ⟨len,fun A outer s H args us vs Q E hr e0 hb r hsp => ?_⟩
  have hl := len _ _ _ _ hsp
  have KX:K.In s.heap := e0.mod.kin.keeps fun b o e => (e0.bs b o e).1
  have lim:s.heap.NoLimit := e0.mod.nolimit.keeps fun b o e => (e0.bs b o e).1
  have hkind:∀ y ∈ ps.zip us,scope.names.lookup y.1 = some .local \/ (scope.names.lookup y.1 = some .cell /\ ((cellsFrom (s.heap.objs.size + 1) scope.names []).lookup y.1).isSome = true) := fun ⟨n,v⟩ hy => by
    rcases S.par n (List.of_mem_zip hy).1 with q | q
    · exact .inl q
    · exact .inr ⟨q,PySem.W.cellsFrom_some _ _ _ (.inl q)⟩
  refine codeAny_call_function hr.depth (KX _ _ lk) rfl S.co S.gen rfl (PySem.W.codeRec_of KX hcd) (hb _ _ _ _ ?_)
  refine wpAny_newFunctionEnv_cells S.kind hkind fun env he s1 x => ?_
  subst he
  refine ⟨lim.keeps x.toInCall.keep,codeAny_func ?_⟩
  obtain ⟨t,ht,hq⟩ := hbody A outer s H vs Q E (hr.deeper _) hsp
  have I:Inv (cxOf CX P w K mg base N qual scope f cdv A outer s H E) [] (start N vs) H s1 := inv_start S hr.hd e0 hl r x
  refine wpAny_mono (ht [] s1 (start N vs) H _ I hq) (fun fl s' hs => ?_) fun e s' hs => hs
  have fin:∀ {σ':St} {H':Hp} {v:V} {u:Value},Inv (cxOf CX P w K mg base N qual scope f cdv A outer s H E) [] σ' H' s' -> RelV v u -> Q v H' -> CE outer P w H s Q u s' :=
    fun {σ' H' v u} J rv q => ⟨v,H',J.os,J.bare,J.base,J.hok,rv,q⟩
  cases fl with
  | ret u =>
    obtain ⟨v,σ',H',J,rv,q⟩ := hs
    exact fin J rv q
  | next =>
    obtain ⟨σ',H',J,q⟩ := hs
    exact fin (v := V.non) (u := Value.none) J rfl q
  | brk =>
    obtain ⟨_,_,_,q⟩ := hs
    exact False.elim q
  | cont =>
    obtain ⟨_,_,_,q⟩ := hs
    exact False.elim q
end L2
namespace L2
open PySem PySem.Spec PyProof.Rows
section
variable {X:Cx} {x:Str} {p pos:Pos} {e:Expr} {es:List Expr} {t:TA} {id T:String} {r:List V -> Hp -> VK -> Prop}
def tCB (r:List V -> Hp -> VK -> Prop) (t:TA) : TE := fun σ H Q => t σ H fun vs H1 => r vs H1 Q
theorem pe_callB (hc : CallR X (.builtin id) r) (hg : Gl X x) (hm : X.mg x = none) (hv : bootBuiltins x = some (.builtin id)) (ha : PA X (e :: es) t) (hn : x ≠ "__name__" := by decide) (hdb : (x == ("__debug__" : Str)) = false := by decide)
    (he:starEach (e :: es) X.env = (false,eval e X.env) :: starEach es X.env := by rfl) (hpl:(backTo pos (starEach es X.env)).any (·.1) = false := by rfl) : PE X (.Call (.Name x p) (e :: es) [] pos) (tCB r t) := by
  intro pins s σ H Q I h
  refine wpAny_Call_Name_kw (ld_blt I hg hm hv ?_ hn hdb)
  exact PyProof.Rows.callWith_builtin1 (thn (ha pos pins s σ H _ I h) fun us s1 ⟨vs,H1,I1,r1,q1⟩ => hc pins s1 σ H1 vs us Q I1 r1 q1) he hpl
end
end L2
namespace HT
open PySem PyProof.Rows
section
open PySem.SeqAt
open PySem.AutoSeq1 (wpAny_loadPart')
open PySem.MeetsSeq PySem.MeetsSeq2 PySem.MeetsSeq3
end
section
variable {prog:Program} {w:World} {A:Around} {E:Value -> Shared -> Prop} {s:Shared}
theorem cat_tup {t b:Addr} {vs ws:List Value} {Q:Value -> Shared -> Prop} (ht:IsTup s.heap t vs.toArray) (hb:IsTup s.heap b ws.toArray) (hv:vs ≠ [])
    (h1 : ws = [] -> Q (.ref t) s) (h2 : ws ≠ [] -> Q (.ref s.heap.objs.size) { s with heap := s.heap.push { cls := .type "tuple", data := .seq (vs ++ ws).toArray } })
    (hsz:vs.length + ws.length <= sizeLine) : wpAny (model prog w) A (binaryOp .Add (.ref t) (.ref b)) Q E s := by
  obtain ⟨⟨cls,dd,data,sl⟩,ho,hc,n,hd⟩ := id ht
  obtain ⟨⟨cls2,dd2,data2,sl2⟩,ho2,hc2,n2,hd2⟩ := id hb
  simp only at hc hd hc2 hd2
  subst hc hd hc2 hd2
  have e:vs.toArray ++ ws.toArray = (vs ++ ws).toArray := by simp
  by_cases hw:ws = []
  · exact concat_meets ⟨_,ho,rfl⟩ ⟨_,ho2,rfl⟩ noFill_tuple_add seq_tuple_add PySem.F.slot_tuple_add PySem.F.entry_tuple_add (PySem.F.args_tuple_add_2 _ _)
      (tuple_addW1 t b vs.toArray ws.toArray n n2 dd dd2 sl sl2 (by simpa using hv) (by simp [hw])) ⟨ho,ho2,h1 hw⟩
  · refine concat_meets ⟨_,ho,rfl⟩ ⟨_,ho2,rfl⟩ noFill_tuple_add seq_tuple_add PySem.F.slot_tuple_add PySem.F.entry_tuple_add (PySem.F.args_tuple_add_2 _ _)
      (tuple_addW2 t b vs.toArray ws.toArray n n2 dd dd2 sl sl2 (by simpa using hv) (by simpa using hw) (by rw [List.size_toArray,List.size_toArray]; exact hsz)) ⟨ho,ho2,?_⟩
    rw [e]
    exact h2 hw
def sIx (n d:Nat) : Option Int -> Nat
  | none => d
  | some v => if v < 0 then (v + (n:Int)).toNat else min v.toNat n
theorem sIx_nat (n d k:Nat) : sIx n d (some (k:Int)) = min k n := by
  show (if (k:Int) < 0 then ((k:Int) + (n:Int)).toNat else min (k:Int).toNat n) = min k n
  rw [if_neg (by omega),Int.toNat_natCast]
theorem sIx_le (n d:Nat) (hd:d <= n) (o:Option Int) : sIx n d o <= n := by
  cases o with
  | none => exact hd
  | some v =>
    show (if v < 0 then (v + (n:Int)).toNat else min v.toNat n) <= n
    by_cases hv:v < 0
    · rw [if_pos hv]; omega
    · rw [if_neg hv]; exact Nat.min_le_right _ _
theorem clip_eq (v:Int) (n d:Nat) : (if v < 0 then max (v + (n:Int)) 0 else min v (n:Int)) = ((sIx n d (some v) : Nat) : Int) := by
  show (if v < 0 then max (v + (n:Int)) 0 else min v (n:Int)) = (((if v < 0 then (v + (n:Int)).toNat else min v.toNat n) : Nat) : Int)
  by_cases hv:v < 0
  · simp only [if_pos hv]; omega
  · simp only [if_neg hv]; omega
theorem adjust_gen (lo hi:Option Int) (n:Nat) : Builtin.Slice.sliceAdjust lo hi 1 (n:Int) = (((sIx n 0 lo:Nat) : Int),((sIx n n hi:Nat) : Int)) := by
  have h1:¬ ((1:Int) < 0) := by omega
  unfold Builtin.Slice.sliceAdjust
  simp only [h1,if_false]
  refine Prod.ext ?_ ?_
  · cases lo with
    | none => rfl
    | some v => exact clip_eq v n 0
  · cases hi with
    | none => rfl
    | some v => exact clip_eq v n n
theorem places_gen (i j:Nat) : Builtin.Slice.slicePlaces (i:Int) (j:Int) 1 = j - i := by
  unfold Builtin.Slice.slicePlaces
  have h1:(1:Int) > 0 := by omega
  simp only [h1,if_true,Int.ediv_one]
  split <;> omega
theorem slicePart_ {v:Value} {o:Option Int} {Q:Option Int -> Shared -> Prop} (p:IsPart v o) (h:Q o s) : wpAny (model prog w) A (Builtin.Slice.slicePartIndex v) Q E s := by
  cases p with
  | none => exact slicePart_none h
  | int i t => exact slicePart_int h
theorem sliceApplied_gen {sl:Addr} {vl vu:Value} {lo hi:Option Int} {n:Nat} {Q:Int × Int × Nat -> Shared -> Prop} (hs:s.heap.IsSliceOf sl vl vu .none) (pl:IsPart vl lo) (pu:IsPart vu hi)
    (h:Q (((sIx n 0 lo:Nat) : Int),1,sIx n n hi - sIx n 0 lo) s) : wpAny (model prog w) A (Builtin.Slice.sliceApplied (.ref sl) (pure (n:Int))) Q E s := by
  obtain ⟨os,hos,hcs,hds⟩ := id hs
  unfold Builtin.Slice.sliceApplied Builtin.Slice.sliceFields
  refine wpAny_bind (wpAny_bind (wpAny_field hos hds (x := vl) rfl (wpAny_bind (wpAny_field hos hds (x := vu) rfl (wpAny_bind (wpAny_field hos hds (x := .none) rfl (wpAny_pure ?_)))))))
  refine wpAny_bind (slicePart_none ?_)
  show wpAny _ _ (if ((1:Int) == 0) = true then _ else _) _ _ s
  rw [if_neg (by decide)]
  refine wpAny_bind (slicePart_ pl (wpAny_bind (slicePart_ pu (wpAny_bind (wpAny_pure ?_)))))
  show wpAny _ _ (match Builtin.Slice.sliceAdjust lo hi 1 (n:Int) with | (lo,hi) => pure (lo,(1:Int),Builtin.Slice.slicePlaces lo hi 1)) _ _ s
  rw [adjust_gen lo hi n]
  show wpAny _ _ (pure (((sIx n 0 lo:Nat) : Int),(1:Int),Builtin.Slice.slicePlaces ((sIx n 0 lo:Nat) : Int) ((sIx n n hi:Nat) : Int) 1)) _ _ s
  rw [places_gen]
  exact wpAny_pure h
theorem pick_gen (xs:Array Value) (i k:Nat) : ((List.range k).filterMap fun (m:Nat) => xs[((i:Int) + (m:Int) * 1).toNat]?).toArray = ((xs.toList.drop i).take k).toArray := by
  have e:(fun (m:Nat) => xs[((i:Int) + (m:Int) * 1).toNat]?) = fun m => xs[i + m]? := by
    funext m
    have:((i:Int) + (m:Int) * 1).toNat = i + m := by omega
    rw [this]
  rw [e]
  have := pick_run xs i k
  rw [List.filterMap_map] at this
  have e2:((fun x => xs[x]?) ∘ fun x => i + x) = fun m => xs[i + m]? := rfl
  rw [e2] at this
  rw [this]
theorem getItem_tuple_cut {t sl:Addr} {items:Array Value} {vl vu:Value} {lo hi:Option Int} {Q:Value -> Shared -> Prop} (ht:IsTup s.heap t items) (hs:s.heap.IsSliceOf sl vl vu .none) (pl:IsPart vl lo) (pu:IsPart vu hi)
    (hw:¬ (sIx items.size 0 lo = 0 /\ sIx items.size items.size hi = items.size))
    (h : Q (.ref s.heap.objs.size) { s with heap := s.heap.push { cls := .type "tuple", data := .seq ((items.toList.drop (sIx items.size 0 lo)).take (sIx items.size items.size hi - sIx items.size 0 lo)).toArray } })
    (hsz:items.size <= sizeLine) : wpAny (model prog w) A (getItem (.ref t) (.ref sl)) Q E s := by
  have htake:sizeOk (.seq ((items.toList.drop (sIx items.size 0 lo)).take (sIx items.size items.size hi - sIx items.size 0 lo)).toArray) := by
    show ((items.toList.drop (sIx items.size 0 lo)).take (sIx items.size items.size hi - sIx items.size 0 lo)).toArray.size <= sizeLine
    rw [List.size_toArray,List.length_take,List.length_drop,Array.length_toList]
    omega
  have hj:sIx items.size items.size hi <= items.size := sIx_le _ _ (Nat.le_refl _) hi
  obtain ⟨os,hos,hcs,hds⟩ := id hs
  have hTs : s.TypeIs (.ref sl) "slice" := ⟨os, hos, hcs⟩
  unfold getItem
  try with_reducible refine wpAny_holding ?_
  first | refine wpAny_bind (wpAny_pure ?_) | skip
  refine wpAny_bind (wpAny_sequenceKey ht.typeIs (by decide) ?_)
  refine wpAny_bind (wpAny_callSpecial?_slot (name := Str.ofString "__getitem__") ht.typeIs PyProof.Rows.slot_tuple_getitem
    (wpAny_call_entry PyProof.Rows.slot_tuple_getitem ht.typeIs entry_tuple_getitem ?_ (args_tuple_getitem _ _)))
  show wpAny _ _ (Builtin.Tuple.tupleItemsOf (.ref t) >>= _) _ _ s
  refine wpAny_bind (tupleItemsOf_ ht ?_)
  refine wpAny_bind (wpAny_typeOf hTs ?_)
  rw [if_pos (by decide)]
  refine wpAny_bind (sliceApplied_gen hs pl pu ?_)
  have hno:¬ ((((sIx items.size 0 lo:Nat) : Int) == 0 && (1:Int) == 1 && (sIx items.size items.size hi - sIx items.size 0 lo) == items.size) = true) := by
    intro q
    rw [Bool.and_eq_true,Bool.and_eq_true] at q
    have q1:((sIx items.size 0 lo:Nat) : Int) = 0 := eq_of_beq q.1.1
    have q2:sIx items.size items.size hi - sIx items.size 0 lo = items.size := eq_of_beq q.2
    exact hw ⟨by omega,by omega⟩
  show wpAny _ _ (if (((sIx items.size 0 lo:Nat) : Int) == 0 && (1:Int) == 1 && (sIx items.size items.size hi - sIx items.size 0 lo) == items.size) = true then _ else _) _ _ s
  rw [if_neg hno,pick_gen]
  first
    | exact wpAny_bind (m := Builtin.Tuple.tupleExact _) (wpAny_newObj_type (wpAny_pure ⟨_,rfl,wpAny_pure h⟩) htake)
    | exact wpAny_bind (m := Builtin.Tuple.tupleExact _) (wpAny_newObj_type (wpAny_bind (wpAny_pure (wpAny_pure ⟨_,rfl,wpAny_pure h⟩))) htake)
    | exact wpAny_bind (wpAny_bind (m := Builtin.Tuple.tupleExact _) (wpAny_newObj_type (wpAny_pure (wpAny_pure ⟨_,rfl,wpAny_pure h⟩)) htake))
    | exact wpAny_bind (wpAny_bind (m := Builtin.Tuple.tupleExact _) (wpAny_newObj_type (wpAny_pure ⟨_,rfl,wpAny_pure h⟩) htake))
end
end HT
namespace L2
open PySem PySem.Spec PyProof.Rows
abbrev TO := St -> Hp -> (Option Int -> Hp -> Prop) -> Prop
def PO (X:Cx) (e:Option Expr) (t:TO) : Prop :=
  ∀ (pins:List (Addr × Obj)) (s:Shared) (σ:St) (H:Hp) (Q:Option Int -> Hp -> Prop),Inv X pins σ H s -> t σ H Q ->
    wpAny (model X.prog X.w) X.A (evalPart e X.env) (fun u s' => ∃ o H',Inv X pins σ H' s' /\ IsPart u o /\ Q o H') X.xe s
def tNoPart:TO := fun _ H Q => Q none H
def tPart (t:TE) : TO := fun σ H Q => t σ H fun x H1 => ∃ i,x = .int i /\ Q (some i) H1
section
variable {X:Cx} {e:Expr} {te:TE} {lo hi:Option Expr} {tl th:TO} {pos p2:Pos}
theorem po_none:PO X none tNoPart := by
  intro pins s σ H Q I h
  rw [evalPart_none]
  exact wpAny_pure ⟨none,H,I,.none,h⟩
theorem po_some (h:PE X e te) : PO X (some e) (tPart te) := by
  intro pins s σ H Q I hw
  rw [evalPart_some]
  refine thn (h pins s σ H _ I hw) fun u s1 ⟨x,H1,I1,r1,q1⟩ => ?_
  obtain ⟨i,rfl,q⟩ := q1
  obtain ⟨t,rfl⟩ := r1
  exact ⟨some i,H1,I1,.int i t,q⟩
def SlR (X:Cx) (r:V -> Option Int -> Option Int -> Hp -> VK -> Prop) : Prop :=
  ∀ (pins:List (Addr × Obj)) (s:Shared) (σ:St) (H:Hp) (x:V) (v vl vu:Value) (lo hi:Option Int) (sl:Addr) (Q:VK),Inv X pins σ H s -> RelV x v -> s.heap.IsSliceOf sl vl vu .none -> IsPart vl lo -> IsPart vu hi -> r x lo hi H Q ->
    ∃ T id, typeLookup (.type T) "__getitem__" = pure (some (.builtin id)) /\ s.TypeIs v T /\ wpAny (model X.prog X.w) X.A (getItem v (.ref sl)) (EP X pins σ Q) X.xe s
theorem SlR.or {r r':V -> Option Int -> Option Int -> Hp -> VK -> Prop} (h:SlR X r) (h':SlR X r') : SlR X (fun x lo hi H Q => r x lo hi H Q \/ r' x lo hi H Q) := by
  intro pins s σ H x v vl vu lo hi sl Q I rx hs pl pu q
  rcases q with q | q
  · exact h pins s σ H x v vl vu lo hi sl Q I rx hs pl pu q
  · exact h' pins s σ H x v vl vu lo hi sl Q I rx hs pl pu q
def tSl (r:V -> Option Int -> Option Int -> Hp -> VK -> Prop) (te:TE) (tl th:TO) : TE := fun σ H Q => te σ H fun x H1 => tl σ H1 fun l H2 => th σ H2 fun u H3 => r x l u H3 Q
theorem pe_slice {r:V -> Option Int -> Option Int -> Hp -> VK -> Prop} (hr:SlR X r) (he:PE X e te) (hl:PO X lo tl) (hu:PO X hi th) : PE X (.Subscript e (.Slice lo hi none p2) pos) (tSl r te tl th) := by
  intro pins s σ H Q I h
  refine Subscript_ (thn (he pins s σ H _ I h) fun v s1 ⟨x,H1,I1,r1,q1⟩ => ?_)
  refine wpAny_Slice (thn (hl pins s1 σ H1 _ I1 q1) fun vl s2 ⟨l,H2,I2,pl,q2⟩ => thn (hu pins s2 σ H2 _ I2 q2) fun vu s3 ⟨u,H3,I3,pu,q3⟩ => ?_)
  rw [evalPart_none]
  refine wpAny_pure ?_
  have I4 : Inv X pins σ H3 { s3 with heap := s3.heap.push { cls := .type "slice", data := .fields #[vl, vu, .none] } } := I3.kept (t' := s3.toks) fun b ob q => Heap.get?_push_of_some _ q
  obtain ⟨T, id, hT, ht, hg⟩ := hr pins { s3 with heap := s3.heap.push { cls := .type "slice", data := .fields #[vl, vu, .none] } } σ H3 x v vl vu l u s3.heap.objs.size Q I4 r1 (Heap.IsSliceOf.new ..) pl pu q3
  show wpAny (model X.prog X.w) X.A (subscriptTail e (.Slice lo hi none p2) v (.ref s3.heap.objs.size)) (EP X pins σ Q) X.xe { s3 with heap := s3.heap.push { cls := .type "slice", data := .fields #[vl, vu, .none] } }
  exact tail_any (ops := [.ref s3.heap.objs.size,v]) ht hT hg (by with_unfolding_all rfl)
def cutV (xs:List V) (lo hi:Option Int) : List V := (xs.drop (HT.sIx xs.length 0 lo)).take (HT.sIx xs.length xs.length hi - HT.sIx xs.length 0 lo)
theorem cutV_length (xs:List V) (lo hi:Option Int) : (cutV xs lo hi).length <= xs.length := by
  unfold cutV
  rw [List.length_take,List.length_drop]
  omega
def rSlT (K:PySem.W.Frag) : V -> Option Int -> Option Int -> Hp -> VK -> Prop := fun x lo hi H Q => ∃ a xs,x = .ref a /\ SqT K H a xs /\
  ¬ (HT.sIx xs.length 0 lo = 0 /\ HT.sIx xs.length xs.length hi = xs.length) /\ ∀ p,H p = none -> Q (.ref p) (upd H p (.tup (cutV xs lo hi)))
theorem sl_tup:SlR X (rSlT X.K) := by
  intro pins s σ H x v vl vu lo hi sl Q I rx hs pl pu h
  obtain ⟨a,xs,rfl,hx,hw,q⟩ := h
  cases rx
  obtain ⟨its,r,ht,hz⟩ := I.tuple hx
  have hlen:its.toArray.size = xs.length := by rw [List.size_toArray]; exact r.length.symm
  refine ⟨"tuple", _, PyProof.Rows.slot_tuple_getitem.lookup, ht.typeIs, ?_⟩
  refine HT.getItem_tuple_cut ht hs pl pu (by rw [hlen]; exact hw) ?_ (by rw [hlen]; exact hz)
  rw [hlen]
  refine ⟨.ref s.heap.objs.size,_,I.laid (t' := s.toks) (o := .tup (cutV xs lo hi)) (fun b ob q => Heap.get?_push_of_some _ q) (Nat.le_refl _) ?_,rfl,q _ (I.hok.fresh (Nat.le_refl _))⟩
  exact ⟨Nat.le_trans (cutV_length xs lo hi) hz,_,(r.drop (HT.sIx xs.length 0 lo)).take (HT.sIx xs.length xs.length hi - HT.sIx xs.length 0 lo),IsTup.new _ _⟩
def rCatT (K:PySem.W.Frag) : R2 := fun x y H Q => ∃ a b xs ys,x = .ref a /\ y = .ref b /\ SqT K H a xs /\ SqT K H b ys /\ xs ≠ [] /\ xs.length + ys.length <= sizeLine /\
  (ys = [] -> Q (.ref a) H) /\ (ys ≠ [] -> ∀ p,H p = none -> Q (.ref p) (upd H p (.tup (xs ++ ys))))
theorem Vals.nil_iff {xs:List V} {us:List Value} (r:Vals xs us) : us = [] ↔ xs = [] := by
  cases r with
  | nil => simp
  | cons _ _ => simp
theorem op_catT:OpR X (binaryOp .Add) (rCatT X.K) := by
  intro pins s σ H x y v u Q I rx ry h
  obtain ⟨a,b,xs,ys,rfl,rfl,ha,hb,hx,hz,q1,q2⟩ := h
  cases rx
  cases ry
  obtain ⟨its,r1,p1,_⟩ := I.tuple ha
  obtain ⟨its2,r2,p2,_⟩ := I.tuple hb
  refine HT.cat_tup p1 p2 (fun z => hx (r1.nil_iff.mp z)) (fun z => ⟨.ref a,H,I,rfl,q1 (r2.nil_iff.mp z)⟩) (fun z => ?_) (by rw [<- r1.length,<- r2.length]; exact hz)
  refine ⟨.ref s.heap.objs.size,_,I.laid (t' := s.toks) (o := .tup (xs ++ ys)) (fun b ob q => Heap.get?_push_of_some _ q) (Nat.le_refl _) ?_,rfl,q2 (fun w => z (r2.nil_iff.mpr w)) _ (I.hok.fresh (Nat.le_refl _))⟩
  exact ⟨by rw [List.length_append]; exact hz,_,r1.append r2,IsTup.new _ _⟩
end
end L2
namespace L2
open PySem PySem.Spec PyProof.Rows
def ixN (n:Nat) (i:Int) : Option Nat := if 0 <= i then (if i < n then some i.toNat else none) else if -(n:Int) <= i then some (i + n).toNat else none
def atI {α:Type} (xs:List α) (i:Int) : Option α := (ixN xs.length i).bind fun j => xs[j]?
theorem ixN_seq {n:Nat} {i:Int} {j:Nat} (h:ixN n i = some j) : seqIndex? i n = some j /\ j < n /\ -(n:Int) <= i /\ i < n := by
  unfold ixN at h
  by_cases h0:0 <= i
  · rw [if_pos h0] at h
    by_cases h1:i < n
    · rw [if_pos h1] at h
      have e:i.toNat = j := Option.some.inj h
      exact ⟨by rw [seqIndex_of h0 h1,e],by omega,by omega,h1⟩
    · rw [if_neg h1] at h; cases h
  · rw [if_neg h0] at h
    by_cases h1:-(n:Int) <= i
    · rw [if_pos h1] at h
      have e:(i + n).toNat = j := Option.some.inj h
      exact ⟨by rw [seqIndex_neg (by omega) h1,e],by omega,h1,by omega⟩
    · rw [if_neg h1] at h; cases h
theorem atI_get {α:Type} {xs:List α} {i:Int} {v:α} (h:atI xs i = some v) : ∃ j,seqIndex? i xs.length = some j /\ xs[j]? = some v /\ j < xs.length /\ -(xs.length:Int) <= i /\ i < xs.length := by
  unfold atI at h
  cases e:ixN xs.length i with
  | none => rw [e] at h; cases h
  | some j =>
    rw [e] at h
    obtain ⟨h1,h2,h3,h4⟩ := ixN_seq e
    exact ⟨j,h1,h,h2,h3,h4⟩
def PlainIx (b:Expr) : Prop := ∀ o i,subscripted b false o i = operate [o,i] (getItem o i)
def IxR (X:Cx) (r:R2) : Prop :=
  ∀ (value slice:Expr) (pins:List (Addr × Obj)) (s:Shared) (σ:St) (H:Hp) (x y:V) (v u:Value) (Q:VK),Inv X pins σ H s -> RelV x v -> RelV y u -> r x y H Q ->
    subscripted slice false v u = operate [v,u] (getItem v u) -> wpAny (model X.prog X.w) X.A (subscriptTail value slice v u) (EP X pins σ Q) X.xe s
def MtR (X:Cx) (id:String) (r:V -> List V -> Hp -> VK -> Prop) : Prop :=
  ∀ (pins:List (Addr × Obj)) (s:Shared) (σ:St) (H:Hp) (x:V) (xs:List V) (v:Value) (us:List Value) (Q:VK),Inv X pins σ H s -> RelV x v -> Vals xs us -> r x xs H Q ->
    wpAny (model X.prog X.w) X.A (call (.builtin id) (v :: us)) (EP X pins σ Q) X.xe s
section
variable {X:Cx} {a b:Expr} {ta tb:TE} {pos:Pos}
theorem IxR.or {r r':R2} (h:IxR X r) (h':IxR X r') : IxR X (fun x y H Q => r x y H Q \/ r' x y H Q) := by
  intro value slice pins s σ H x y v u Q I rx ry q hs
  rcases q with q | q
  · exact h value slice pins s σ H x y v u Q I rx ry q hs
  · exact h' value slice pins s σ H x y v u Q I rx ry q hs
theorem MtR.or {id:String} {r r':V -> List V -> Hp -> VK -> Prop} (h:MtR X id r) (h':MtR X id r') : MtR X id (fun x xs H Q => r x xs H Q \/ r' x xs H Q) := by
  intro pins s σ H x xs v us Q I rx rs q
  rcases q with q | q
  · exact h pins s σ H x xs v us Q I rx rs q
  · exact h' pins s σ H x xs v us Q I rx rs q
theorem pe_ix {r:R2} (hr:IxR X r) (ha:PE X a ta) (hb:PE X b tb) (hs:PlainIx b) : PE X (.Subscript a b pos) (tOp r ta tb) := by
  intro pins s σ H Q I h
  exact Subscript_ (binT ha hb I h fun v u s2 x y H2 I2 rx ry q => hr a b pins s2 σ H2 x y v u Q I2 rx ry q (hs _ _))
def rIxL (K:PySem.W.Frag) : R2 := fun x y H Q => ∃ p xs i v,x = .ref p /\ y = .int i /\ SqL K H p xs /\ atI xs i = some v /\ Q v H
def rIxT (K:PySem.W.Frag) : R2 := fun x y H Q => ∃ p xs i v,x = .ref p /\ y = .int i /\ SqT K H p xs /\ atI xs i = some v /\ Q v H
def rIxS:R2 := fun x y H Q => ∃ z i c,x = .str z /\ y = .int i /\ z.length <= sizeLine /\ atI z.cps.toList i = some c /\ Q (.str ⟨#[c]⟩) H
theorem ix_list:IxR X (rIxL X.K) := by
  intro value slice pins s σ H x y v u Q I rx ry h hs
  obtain ⟨p,xs,i,z,rfl,rfl,hq,he,q⟩ := h
  cases rx
  obtain ⟨t,rfl⟩ := ry
  obtain ⟨its,r,pl,hz⟩ := I.list hq
  obtain ⟨j,h1,h2,h3,h4,h5⟩ := atI_get he
  obtain ⟨w,ew,rw'⟩ := r.get h2
  have hl := r.length
  have hn := line63
  have fin:EP X pins σ Q w s := ⟨z,H,I,rw',q⟩
  by_cases h0:0 <= i
  · have hj:i.toNat = j := by
      rw [seqIndex_of h0 h5] at h1
      exact Option.some.inj h1
    exact item_listR pl.isList h0 (by omega) (by rw [hj]; simpa using ew) fin hs
  · have hj:(i + (its.toArray.size:Int)).toNat = j := by
      rw [seqIndex_neg (by omega) h4] at h1
      rw [List.size_toArray,<- hl]
      exact Option.some.inj h1
    exact subscriptTail_builtinR (x := w) pl.isList.typeIs slot_list_getitem.lookup
      (wpAny_getItem_list_neg (Q := fun r s' => r = w /\ EP X pins σ Q r s') pl.isList (by omega) (by rw [List.size_toArray] <;> omega) (by omega) (by rw [hj]; simpa using ew) ⟨rfl,fin⟩) hs
theorem ix_tup:IxR X (rIxT X.K) := by
  intro value slice pins s σ H x y v u Q I rx ry h hs
  obtain ⟨p,xs,i,z,rfl,rfl,hq,he,q⟩ := h
  cases rx
  obtain ⟨t,rfl⟩ := ry
  obtain ⟨its,r,pl,hz⟩ := I.tuple hq
  obtain ⟨j,h1,h2,h3,h4,h5⟩ := atI_get he
  obtain ⟨w,ew,rw'⟩ := r.get h2
  have hl := r.length
  have hn := line63
  have fin:EP X pins σ Q w s := ⟨z,H,I,rw',q⟩
  exact subscriptTail_builtinR (x := w) pl.typeIs slot_tuple_getitem.lookup
    (getItem_tuple (j := j) (Q := fun r s' => r = w /\ EP X pins σ Q r s') pl (by omega) (by omega) (by rw [List.size_toArray,<- hl]; exact h1) (by simpa using ew) ⟨rfl,fin⟩) hs
theorem ix_str:IxR X rIxS := by
  intro value slice pins s σ H x y v u Q I rx ry h hs
  obtain ⟨z,i,c,rfl,rfl,hz,he,q⟩ := h
  obtain ⟨t,rfl⟩ := rx
  obtain ⟨t',rfl⟩ := ry
  obtain ⟨j,h1,h2,h3,h4,h5⟩ := atI_get he
  have hl:z.cps.toList.length = z.length := by simp [Str.length]
  rw [hl] at h1 h4 h5
  have hn := line63
  exact tail_any (typeIs_str s z t) slot_str_getitem.lookup (getItem_str (c := c) (by
    have e1:decide (i < -(2 ^ 63:Int)) = false := decide_eq_false (by omega)
    have e2:decide (i >= 2 ^ 63) = false := decide_eq_false (by omega)
    rw [e1,e2,Bool.or_false]) (by rw [h1]; simpa using h2) ⟨.str ⟨#[c]⟩,H,I.tok _,⟨_,rfl⟩,q⟩) hs
def rIx (K:PySem.W.Frag) : R2 := fun x y H Q => rIxL K x y H Q \/ rIxT K x y H Q \/ rIxS x y H Q
theorem ix_seq:IxR X (rIx X.K) := ix_list.or (ix_tup.or ix_str)
theorem Inv.lst {pins:List (Addr × Obj)} {σ:St} {H:Hp} {s:Shared} {p:Addr} {xs:List V} (I:Inv X pins σ H s) (h:H p = some (.lst xs)) :
    ∃ (its : List Value) (n : Nat), Vals xs its /\ s.heap.get? p = some { cls := .type "list", data := .seq its.toArray n } /\ xs.length <= sizeLine := by
  obtain ⟨z,its,n,r,e⟩ := I.hok p _ h
  exact ⟨its,n,r,e,z⟩
theorem slice_bounds (lo hi:Option Int) (n:Nat) : (sliceBounds lo hi none n).1 = ((HT.sIx n 0 lo:Nat) : Int) /\ (sliceBounds lo hi none n).2.1 = ((HT.sIx n n hi:Nat) : Int) /\ (sliceBounds lo hi none n).2.2 = 1 := by
  refine ⟨?_,?_,rfl⟩
  · cases lo with
    | none => simp [sliceBounds,HT.sIx]
    | some i =>
      simp only [sliceBounds,HT.sIx,Option.getD_none,show (1:Int) > 0 by decide,if_true]
      by_cases h:i < 0
      · simp only [h,if_true] <;> omega
      · simp only [h,if_false] <;> omega
  · cases hi with
    | none => simp [sliceBounds,HT.sIx]
    | some i =>
      simp only [sliceBounds,HT.sIx,Option.getD_none,show (1:Int) > 0 by decide,if_true]
      by_cases h:i < 0
      · simp only [h,if_true] <;> omega
      · simp only [h,if_false] <;> omega
theorem slicePick_cut (its:List Value) (lo hi:Option Int) : slicePick its.toArray lo hi none = ((its.drop (HT.sIx its.length 0 lo)).take (HT.sIx its.length its.length hi - HT.sIx its.length 0 lo)).toArray := by
  obtain ⟨h1,h2,h3⟩ := slice_bounds lo hi its.toArray.size
  unfold slicePick
  rw [h1,h2,h3]
  simp only [sliceRange_one,pick_run,List.size_toArray] <;> rfl
def rSlL (K:PySem.W.Frag) : V -> Option Int -> Option Int -> Hp -> VK -> Prop := fun x lo hi H Q => ∃ a xs,x = .ref a /\ SqL K H a xs /\ ∀ p,H p = none -> Q (.ref p) (upd H p (.lst (cutV xs lo hi)))
theorem sl_list:SlR X (rSlL X.K) := by
  intro pins s σ H x v vl vu lo hi sl Q I rx hs pl pu h
  obtain ⟨a,xs,rfl,hx,q⟩ := h
  cases rx
  obtain ⟨its,r,ht,hz⟩ := I.list hx
  have hlen := r.length
  refine ⟨"list", _, slot_list_getitem.lookup, ht.isList.typeIs, ?_⟩
  refine wpAny_getItem_list_slice ht.isList hs pl pu .none (by simp) ?_ (by rw [List.size_toArray] <;> omega)
  rw [slicePick_cut,<- hlen]
  refine ⟨.ref s.heap.objs.size,_,I.laid (t' := s.toks) (o := .lst (cutV xs lo hi)) (fun b ob q => Heap.get?_push_of_some _ q) (Nat.le_refl _) ?_,rfl,q _ (I.hok.fresh (Nat.le_refl _))⟩
  exact ⟨Nat.le_trans (cutV_length xs lo hi) hz,_,0,(r.drop (HT.sIx xs.length 0 lo)).take (HT.sIx xs.length xs.length hi - HT.sIx xs.length 0 lo),Heap.get?_push_size _ rfl⟩
theorem call_len_seq : CallR X (.builtin "len") (fun xs H Q => ∃ p ys, xs = [.ref p] /\ (SqL X.K H p ys \/ SqT X.K H p ys) /\ Q (.int ys.length) H) := by
  intro pins s σ H xs us Q I r h
  obtain ⟨p,ys,rfl,hq,q⟩ := h
  obtain ⟨u,rfl,rx⟩ := vals1 r
  cases rx
  have hn := line63
  rcases hq with hq | hq
  · obtain ⟨its,r',pl,hz⟩ := I.list hq
    have hlen := r'.length
    exact Calls.call_len_list pl.isList (by simp only [List.size_toArray] <;> omega) ⟨.int ys.length,H,I.tok _,⟨s.toks + 1,by rw [List.size_toArray,hlen]⟩,q⟩
  · obtain ⟨its,r',pl,hz⟩ := I.tuple hq
    have hlen := r'.length
    exact len_tuple pl (by simp only [List.size_toArray] <;> omega) ⟨.int ys.length,H,I.tok _,⟨s.toks + 1,by rw [List.size_toArray,hlen]⟩,q⟩
theorem call_len_str : CallR X (.builtin "len") (fun xs H Q => ∃ z, xs = [.str z] /\ z.length <= sizeLine /\ Q (.int z.length) H) := by
  intro pins s σ H xs us Q I r h
  obtain ⟨z,rfl,hz,q⟩ := h
  obtain ⟨u,rfl,t,rfl⟩ := vals1 r
  have hn := line63
  exact len_str (by omega) ⟨.int z.length,H,I.tok _,⟨_,rfl⟩,q⟩
theorem CallR.or {f:Value} {r r':List V -> Hp -> VK -> Prop} (h:CallR X f r) (h':CallR X f r') : CallR X f (fun xs H Q => r xs H Q \/ r' xs H Q) := by
  intro pins s σ H xs us Q I rs q
  rcases q with q | q
  · exact h pins s σ H xs us Q I rs q
  · exact h' pins s σ H xs us Q I rs q
def tyV (K:PySem.W.Frag) (T:String) (x:V) (H:Hp) : Prop := match x with
  | .str _ => T = "str"
  | .int _ => T = "int"
  | .ref p => (T = "list" /\ ∃ xs, SqL K H p xs) \/ (T = "tuple" /\ ∃ o, K.lookup p = some o /\ o.cls = .type "tuple" /\ o.dict = none) \/
      (T = "dict" /\ ((∃ kvs, H p = some (.dK kvs)) \/ ∃ kvs, H p = some (.dT kvs))) \/ (T = "set" /\ ∃ S n, H p = some (.set S n))
  | _ => False
theorem tyV_is {pins:List (Addr × Obj)} {σ:St} {H:Hp} {s:Shared} {T:String} {x:V} {v:Value} (I:Inv X pins σ H s) (r:RelV x v) (ty:tyV X.K T x H) :
    s.TypeIs v T /\ ∀ a,v = .ref a -> ∃ ob,s.heap.get? a = some ob /\ ob.dict = none := by
  cases x with
  | str z =>
    obtain ⟨t,rfl⟩ := r
    cases (show T = "str" from ty)
    exact ⟨typeIs_str s z t,fun _ e => nomatch e⟩
  | int i =>
    obtain ⟨t,rfl⟩ := r
    cases (show T = "int" from ty)
    exact ⟨typeIs_int s i t,fun _ e => nomatch e⟩
  | ref p =>
    cases r
    rcases ty with ⟨rfl,xs,hq⟩ | ⟨rfl,o,hk,hc,hd⟩ | ⟨rfl,hk⟩ | ⟨rfl,S,n,hk⟩
    · obtain ⟨its,_,pl,_⟩ := I.list hq
      refine ⟨pl.isList.typeIs,fun a e => ?_⟩
      cases e
      obtain ⟨o,n,e,c,hd,_⟩ := pl
      exact ⟨o,e,hd⟩
    · refine ⟨⟨o,I.kIn p o hk,hc⟩,fun a e => ?_⟩
      cases e
      exact ⟨o,I.kIn _ o hk,hd⟩
    · have z:∃ o,s.heap.get? p = some o /\ o.ExactDict := by
        rcases hk with ⟨kvs,hk⟩ | ⟨kvs,hk⟩
        · obtain ⟨_,_,_,_,o,_,_,e,ex,_⟩ := I.hok p _ hk
          exact ⟨o,e,ex⟩
        · obtain ⟨_,_,_,_,o,_,_,e,ex,_⟩ := I.hok p _ hk
          exact ⟨o,e,ex⟩
      obtain ⟨o,e,ex⟩ := z
      refine ⟨⟨o,e,ex.1⟩,fun a e2 => ?_⟩
      cases e2
      exact ⟨o,e,ex.2.1⟩
    · obtain ⟨o,_,_,_,e,ex,_⟩ := I.hok p _ hk
      refine ⟨⟨o,e,ex.1⟩,fun a e2 => ?_⟩
      cases e2
      exact ⟨o,e,ex.2.1⟩
  | _ => exact False.elim ty
def tBM (K:PySem.W.Frag) (T:String) (r:V -> List V -> Hp -> VK -> Prop) (to:TE) (t:TA) : TE := fun σ H Q => to σ H fun x H1 => tyV K T x H1 /\ t σ H1 fun xs H2 => r x xs H2 Q
variable {o e:Expr} {es:List Expr} {to:TE} {t:TA} {name:Str} {apos cpos:Pos} {T id:String} {r:V -> List V -> Hp -> VK -> Prop}
theorem pe_bm (pa : PlainAttrs T) (slot : Slot T name id) (hty : typeOf (.builtin id) = pure (.type "method_descriptor")) (hm : MtR X id r) (ho : PE X o to) (ha : PA X (e :: es) t)
    (hbase:attributeBase o name X.env (eval o X.env) = eval o X.env := by rfl)
    (hfew:((backTo cpos (starEach (e :: es) X.env)).all (fun x => !x.1) && (backToKw cpos (keywordEach [] X.env)).all (fun x => x.1.isSome)
      && decide ((e :: es).length + ([] : List Keyword).length + (if ([] : List Keyword).isEmpty then 0 else 1) < 30)) = true := by rfl)
    (hline:(apos.endLine == cpos.line) = true := by rfl) (hs:starEach (e :: es) X.env = (false,eval e X.env) :: starEach es X.env := by rfl) (hplain:(backTo cpos (starEach es X.env)).any (·.1) = false := by rfl) :
    PE X (.Call (.Attribute o name apos) (e :: es) [] cpos) (tBM X.K T r to t) := by
  intro pins s σ H Q I h
  refine wpAny_Call_method_late hbase hfew hline rfl (thn (ho pins s σ H _ I h) fun v s1 ⟨x,H1,I1,r1,ty,q1⟩ => ?_)
  obtain ⟨h1,h2⟩ := tyV_is I1 r1 ty
  refine ⟨T,id,pa,slot,hty,h1,h2,?_⟩
  have hA := ha cpos pins s1 σ H1 _ I1 q1
  rw [hs] at hA ⊢
  refine Calls.callWith_builtin (by show (false || (backTo cpos (starEach es X.env)).any (·.1)) = false; rw [hplain] <;> rfl) (Calls.evalArgs_plain ?_)
  exact thn hA fun us s2 ⟨vs,H2,I2,r2,q2⟩ => hm pins s2 σ H2 x vs v us Q I2 r1 r2 q2
end
end L2
namespace L2
open PySem PySem.Spec PyProof.Rows
def MtM (X:Cx) (id:String) (r:V -> List V -> Hp -> VK -> Prop) : Prop :=
  ∀ (pins:List (Addr × Obj)) (s:Shared) (σ:St) (H:Hp) (x:V) (xs:List V) (v:Value) (us:List Value) (Q:VK),Inv X pins σ H s -> RelV x v -> Vals xs us -> r x xs H Q ->
    wpAny (model X.prog X.w) X.A (call (.builtin id) (v :: us)) (EP X pins σ Q) X.xe s
theorem Vals.one:∀ {x:V} {us:List Value},Vals [x] us -> ∃ u,us = [u] /\ RelV x u
  | _,_,.cons r .nil => ⟨_,rfl,r⟩
theorem Vals.zero:∀ {us:List Value},Vals [] us -> us = []
  | _,.nil => rfl
theorem Vals.rep {xs:List V} {us:List Value} (h:Vals xs us) : ∀ k:Nat,Vals (List.replicate k xs).flatten (List.replicate k us).flatten
  | 0 => .nil
  | k + 1 => by
    rw [List.replicate_succ,List.replicate_succ,List.flatten_cons,List.flatten_cons]
    exact Vals.append h (Vals.rep h k)
section
variable {X:Cx} {pins:List (Addr × Obj)} {σ:St} {H:Hp} {s:Shared} {l b:Addr} {xs ys zs:List V}
theorem Inv.lset {its its':List Value} {n:Nat} {f:Array Value -> Array Value} {t':Nat} (I:Inv X pins σ H s) (hH:H l = some (.lst xs))
    (e : s.heap.get? l = some { cls := .type "list", data := .seq its.toArray n }) (hf : f its.toArray = its'.toArray) (hv : Vals ys its') (hz : ys.length <= sizeLine) :
    Inv X pins σ (upd H l (.lst ys)) { s with heap := s.heap.update l (Obj.mapSeq f),toks := t' } := by
  have q := PySem.IsL.update e f
  rw [hf] at q
  refine I.write (x := l) (e := l) (by rw [hH]; exact trivial) (.inl rfl) (fun b' u hb hu => (Heap.get?_update_other s.heap (Obj.mapSeq f) (Ne.symm hb)).trans hu) ⟨_,q⟩ ?_
  exact ⟨hz,its',_,hv,q⟩
theorem Inv.lnew {its:List Value} {t':Nat} (I:Inv X pins σ H s) (hv:Vals ys its) (hz:ys.length <= sizeLine) :
    Inv X pins σ (upd H s.heap.objs.size (.lst ys)) { s with heap := s.heap.push { cls := .type "list", data := .seq its.toArray }, toks := t' } :=
  I.laid (fun _ _ q => Heap.get?_push_of_some _ q) (Nat.le_refl _) ⟨hz,its,0,hv,Heap.get?_push_size _ rfl⟩
theorem Inv.fresh (I:Inv X pins σ H s) : H s.heap.objs.size = none := I.hok.fresh (Nat.le_refl _)
theorem Inv.lstM (I : Inv X pins σ H s) (hH : H l = some (.lst xs)) : xs.length <= sizeLine /\ ∃ (its : List Value) (n : Nat), Vals xs its /\ xs.length = its.length /\ s.heap.get? l = some { cls := .type "list", data := .seq its.toArray n } := by
  obtain ⟨z,its,n,r,e⟩ := I.hok l _ hH
  exact ⟨z,its,n,r,r.length,e⟩
end
section
variable {X:Cx}
def rAppend:V -> List V -> Hp -> VK -> Prop := fun x vs H Q => ∃ l xs y,x = .ref l /\ vs = [y] /\ H l = some (.lst xs) /\ xs.length < sizeLine /\ Q .non (upd H l (.lst (xs ++ [y])))
theorem mt_append : MtM X "list.append" rAppend := by
  intro pins s σ H x vs v us Q I rx rv h
  obtain ⟨l,xs,y,rfl,rfl,hH,hz,q⟩ := h
  cases rx
  obtain ⟨u,rfl,ru⟩ := rv.one
  obtain ⟨z,its,n,r,hl,e⟩ := I.lstM hH
  refine call_meets F.slot_list_append ⟨_,e,rfl⟩ F.entry_list_append (F.args_list_append_2 _ _) (PySem.list_append l its.toArray n u (by rw [List.size_toArray]; omega)) ⟨e,?_⟩
  refine ⟨.non,_,I.lset (its' := its ++ [u]) hH e (by simp) (r.append (.cons ru .nil)) ?_,rfl,q⟩
  rw [List.length_append,List.length_singleton]
  omega
end
section
variable {prog:Program} {w:World} {A:Around} {E:Value -> Shared -> Prop} {s:Shared}
end
section
variable {X:Cx}
end
end L2
namespace L2
open PySem PySem.Spec PyProof.Rows
section
variable {κ:Type} [DecidableEq κ]
def valV (kvs:List (κ × V)) (k:κ) : Option V := (kvs.find? fun kv => decide (kv.1 = k)).map (·.2)
def putK (kvs:List (κ × V)) (k:κ) (v:V) : List (κ × V) :=
  if (kvs.any fun kv => decide (kv.1 = k)) = true then kvs.map (fun kv => if kv.1 = k then (kv.1,v) else kv) else kvs ++ [(k,v)]
def dropK (kvs:List (κ × V)) (k:κ) : List (κ × V) := kvs.filter fun kv => decide (kv.1 ≠ k)
theorem valV_pos {p:κ × V} {r:List (κ × V)} {k:κ} (e:p.1 = k) : valV (p :: r) k = some p.2 := by simp [valV,List.find?_cons,e]
theorem valV_neg {p:κ × V} {r:List (κ × V)} {k:κ} (e:¬ p.1 = k) : valV (p :: r) k = valV r k := by simp [valV,List.find?_cons,e]
theorem valV_any (k:κ) : ∀ kvs:List (κ × V),(kvs.any fun kv => decide (kv.1 = k)) = (valV kvs k).isSome
  | [] => rfl
  | p :: r => by
    rw [List.any_cons]
    by_cases e:p.1 = k
    · simp only [valV_pos e,decide_eq_true e,Bool.true_or,Option.isSome_some]
    · rw [valV_neg e,decide_eq_false e,Bool.false_or]; exact valV_any k r
theorem RelO.isSome_eq {o:Option V} {u:Option Value} (r:RelO o u) : o.isSome = u.isSome := by
  cases o with
  | none => cases u with
    | none => rfl
    | some _ => exact (show False from r).elim
  | some _ => cases u with
    | none => exact (show False from r).elim
    | some _ => rfl
theorem RelO.getD {o:Option V} {u:Option Value} {d:V} {d':Value} (r:RelO o u) (rd:RelV d d') : RelV (o.getD d) (u.getD d') := by
  cases o with
  | none => cases u with
    | none => exact rd
    | some _ => exact (show False from r).elim
  | some _ => cases u with
    | none => exact (show False from r).elim
    | some _ => exact r
theorem KV.val {kvs:List (κ × V)} {vs:List (κ × Value)} (r:KV kvs vs) (k:κ) : RelO (valV kvs k) (valueAt vs k) := by
  unfold KV at r
  induction r with
  | nil => exact True.intro
  | @cons p q ps qs h t ih =>
    obtain ⟨h1,h2⟩ := h
    by_cases e:p.1 = k
    · have e':q.1 = k := h1.symm.trans e
      have b:valueAt (q :: qs) k = some q.2 := by simp [valueAt,List.find?_cons,e']
      rw [valV_pos e,b]; exact h2
    · have e':¬ q.1 = k := fun z => e (h1.trans z)
      have b:valueAt (q :: qs) k = valueAt qs k := by simp [valueAt,List.find?_cons,e']
      rw [valV_neg e,b]; exact ih
theorem KV.any {kvs:List (κ × V)} {vs:List (κ × Value)} (r:KV kvs vs) (k:κ) : (kvs.any fun kv => decide (kv.1 = k)) = vs.any fun kv => decide (kv.1 = k) := by
  unfold KV at r
  induction r with
  | nil => rfl
  | cons h t ih => rw [List.any_cons,List.any_cons,ih,h.1]
theorem KV.repl {kvs:List (κ × V)} {vs:List (κ × Value)} (r:KV kvs vs) (k:κ) {y:V} {u:Value} (ry:RelV y u) :
    KV (kvs.map fun kv => if kv.1 = k then (kv.1,y) else kv) (vs.map fun kv => if kv.1 = k then (kv.1,u) else kv) := by
  unfold KV at r ⊢
  induction r with
  | nil => exact .nil
  | @cons p q ps qs h t ih =>
    rw [List.map_cons,List.map_cons]
    refine .cons ?_ ih
    obtain ⟨h1,h2⟩ := h
    by_cases e:p.1 = k
    · rw [if_pos e,if_pos (h1.symm.trans e)]; exact ⟨h1,ry⟩
    · rw [if_neg e,if_neg (fun z => e (h1.trans z))]; exact ⟨h1,h2⟩
theorem KV.put {kvs:List (κ × V)} {vs:List (κ × Value)} (r:KV kvs vs) (k:κ) {y:V} {u:Value} (ry:RelV y u) : KV (putK kvs k y) (stored vs k u) := by
  unfold putK stored
  rw [r.any k]
  by_cases e:(vs.any fun kv => decide (kv.1 = k)) = true
  · rw [if_pos e,if_pos e]; exact r.repl k ry
  · rw [if_neg e,if_neg e]; exact Paired.snoc r ⟨rfl,ry⟩
theorem KV.drop {kvs:List (κ × V)} {vs:List (κ × Value)} (r:KV kvs vs) (k:κ) : KV (dropK kvs k) (without vs k) := by
  unfold KV at r ⊢
  unfold dropK without
  induction r with
  | nil => exact .nil
  | @cons p q ps qs h t ih =>
    obtain ⟨h1,h2⟩ := h
    rw [List.filter_cons,List.filter_cons]
    by_cases e:p.1 = k
    · have a:¬ decide (p.1 ≠ k) = true := by simp [e]
      have b:¬ decide (q.1 ≠ k) = true := by simp [h1.symm.trans e]
      rw [if_neg a,if_neg b]; exact ih
    · have e':¬ q.1 = k := fun z => e (h1.trans z)
      have a:decide (p.1 ≠ k) = true := by simp [e]
      have b:decide (q.1 ≠ k) = true := by simp [e']
      rw [if_pos a,if_pos b]; exact .cons ⟨h1,h2⟩ ih
theorem KV.keys {kvs:List (κ × V)} {vs:List (κ × Value)} (r:KV kvs vs) : kvs.map (·.1) = vs.map (·.1) := by
  unfold KV at r
  induction r with
  | nil => rfl
  | cons h t ih => rw [List.map_cons,List.map_cons,ih,h.1]
theorem KV.length {kvs:List (κ × V)} {vs:List (κ × Value)} (r:KV kvs vs) : kvs.length = vs.length := Paired.length r
end
theorem kV_is {P:Program} {w:World} {k:Key} {u:Value} (r:RelV (kV k) u) : (mixKind P w).is k u = true := by
  cases k with
  | inl i => obtain ⟨t,e⟩ := (show ∃ t,u = Value.int i t from r); subst e; exact mixKind_int P w i t
  | inr x => obtain ⟨t,e⟩ := (show ∃ t,u = Value.str x t from r); subst e; exact mixKind_str P w x t
theorem items_are {P:Program} {w:World} : ∀ {ks:List Key} {us:List Value},Vals (ks.map kV) us -> ItemsAre (mixKind P w) ks us
  | [],_,r => by rw [List.map_nil] at r; cases r; exact .nil
  | k :: ks,_,r => by
    rw [List.map_cons] at r
    cases r with
    | cons h t => exact .cons (kV_is h) (items_are t)
abbrev KT (H:Hp) : List (List Key × V) -> List (List Key × Addr × Value) -> Prop := Paired fun p q => p.1 = q.1 /\ H q.2.1 = some (.tup (p.1.map kV)) /\ RelV p.2 q.2.2
theorem KT.val {H:Hp} {kvs:List (List Key × V)} {xs:List (List Key × Addr × Value)} (r:KT H kvs xs) (k:List Key) : RelO (valV kvs k) ((atKey xs k).map (·.2)) := by
  induction r with
  | nil => exact True.intro
  | @cons p q ps qs h t ih =>
    obtain ⟨h1,_,h2⟩ := h
    by_cases e:p.1 = k
    · have e':q.1 = k := h1.symm.trans e
      have b:atKey (q :: qs) k = some q.2 := by simp [atKey,List.find?_cons,e']
      rw [valV_pos e,b]; exact h2
    · have e':¬ q.1 = k := fun z => e (h1.trans z)
      have b:atKey (q :: qs) k = atKey qs k := by simp [atKey,List.find?_cons,e']
      rw [valV_neg e,b]; exact ih
theorem KT.repl {H:Hp} {kvs:List (List Key × V)} {xs:List (List Key × Addr × Value)} (r:KT H kvs xs) (k:List Key) {y:V} {u:Value} (ry:RelV y u) :
    KT H (kvs.map fun kv => if kv.1 = k then (kv.1,y) else kv) (xs.map (putAt k u)) := by
  induction r with
  | nil => exact .nil
  | @cons p q ps qs h t ih =>
    rw [List.map_cons,List.map_cons]
    refine .cons ?_ ih
    obtain ⟨h1,h2,h3⟩ := h
    unfold putAt
    by_cases e:p.1 = k
    · rw [if_pos e,if_pos (h1.symm.trans e)]; exact ⟨h1,h2,ry⟩
    · rw [if_neg e,if_neg (fun z => e (h1.trans z))]; exact ⟨h1,h2,h3⟩
theorem KT.put {H:Hp} {kvs:List (List Key × V)} {xs:List (List Key × Addr × Value)} (r:KT H kvs xs) (k:List Key) {b:Addr} {y:V} {u:Value} (hb:H b = some (.tup (k.map kV))) (ry:RelV y u) :
    KT H (putK kvs k y) (storedH xs k b u) := by
  have e:(kvs.any fun kv => decide (kv.1 = k)) = (atKey xs k).isSome := by
    rw [valV_any,(r.val k).isSome_eq,Option.isSome_map]
  unfold putK storedH
  rw [e]
  by_cases q:(atKey xs k).isSome = true
  · rw [if_pos q,if_pos q]; exact r.repl k ry
  · rw [if_neg q,if_neg q]; exact Paired.snoc r ⟨rfl,hb,ry⟩
theorem KT.keeps {H H':Hp} {kvs:List (List Key × V)} {xs:List (List Key × Addr × Value)} (r:KT H kvs xs) (ht:∀ b ys,H b = some (.tup ys) -> H' b = some (.tup ys)) : KT H' kvs xs :=
  Paired.mapP r fun _ _ z => ⟨z.1,ht _ _ z.2.1,z.2.2⟩
section
variable {P:Program} {w:World} {H:Hp} {h:Heap} {a:Addr}
theorem rd_of {u:HO} (ok:HOk P w H h) (e:Rd H a u) : ObjOk P w H h a u := e.ok ok
theorem dk_rd {kvs:List (Key × V)} (ok:HOk P w H h) (e:Rd H a (.dK kvs)) : kvs.length <= sizeLine /\ (a == sysModules) = false /\ ∃ vs,KV kvs vs /\ h.DictOf (mixKind P w) a vs :=
  show ObjOk P w H h a (.dK kvs) from rd_of ok e
theorem key_of {ks:List Key} (ok:HOk P w H h) (e:H a = some (.tup (ks.map kV))) : (tupleKind (mixKind P w)).is h ks a := by
  obtain ⟨_,its,r,o,h1,h2,n,h3⟩ := (show ObjOk P w H h a (.tup (ks.map kV)) from ok a _ e)
  exact ⟨o,its.toArray,n,h1,h2,h3,by simpa using items_are r⟩
theorem dt_rd {kvs:List (List Key × V)} (ok:HOk P w H h) (e:Rd H a (.dT kvs)) : kvs.length <= sizeLine /\ (a == sysModules) = false /\
    ∃ xs,KT H kvs xs /\ h.DictOfH (tupleKind (mixKind P w)) a xs := by
  obtain ⟨z,y,xs,r,o,es,ep,h1,h2,h3,h4,h5⟩ := (show ObjOk P w H h a (.dT kvs) from rd_of ok e)
  refine ⟨z,y,xs,r,o,es,ep,h1,h2,h3,h4,fun x hx => ?_,h5⟩
  have all:∀ {l:List (List Key × V)} {m:List (List Key × Addr × Value)},KT H l m -> ∀ x ∈ m,(tupleKind (mixKind P w)).is h x.1 x.2.1 := by
    intro l m q
    induction q with
    | nil => intro x hx; exact nomatch hx
    | @cons p q ps qs hq t ih =>
      intro x hx
      rcases List.mem_cons.mp hx with e | hx
      · subst e
        exact key_of ok (by rw [<- hq.1]; exact hq.2.1)
      · exact ih x hx
  exact all r x hx
end
def DGet (H:Hp) (a:Addr) (y:V) (r:Option V) : Prop :=
  (∃ kvs k,Rd H a (.dK kvs) /\ y = kV k /\ r = valV kvs k) \/ ∃ kvs k b,Rd H a (.dT kvs) /\ y = .ref b /\ H b = some (.tup (k.map kV)) /\ r = valV kvs k
def DPut (H:Hp) (a:Addr) (y v:V) (H':Hp) : Prop :=
  (∃ kvs k,H a = some (.dK kvs) /\ y = kV k /\ kvs.length < sizeLine /\ H' = upd H a (.dK (putK kvs k v))) \/
  ∃ kvs k b,H a = some (.dT kvs) /\ y = .ref b /\ H b = some (.tup (k.map kV)) /\ kvs.length < sizeLine /\ H' = upd H a (.dT (putK kvs k v))
theorem DGet.k {H:Hp} {a:Addr} {kvs:List (Key × V)} {k:Key} (e:H a = some (.dK kvs)) : DGet H a (kV k) (valV kvs k) := .inl ⟨kvs,k,.inl e,rfl,rfl⟩
theorem DGet.t {H:Hp} {a b:Addr} {kvs:List (List Key × V)} {k:List Key} (e:H a = some (.dT kvs)) (eb:H b = some (.tup (k.map kV))) : DGet H a (.ref b) (valV kvs k) := .inr ⟨kvs,k,b,.inl e,rfl,eb,rfl⟩
theorem DPut.k {H:Hp} {a:Addr} {kvs:List (Key × V)} {k:Key} {v:V} (e:H a = some (.dK kvs)) (hl:kvs.length < sizeLine) : DPut H a (kV k) v (upd H a (.dK (putK kvs k v))) := .inl ⟨kvs,k,e,rfl,hl,rfl⟩
theorem DPut.t {H:Hp} {a b:Addr} {kvs:List (List Key × V)} {k:List Key} {v:V} (e:H a = some (.dT kvs)) (eb:H b = some (.tup (k.map kV))) (hl:kvs.length < sizeLine) :
    DPut H a (.ref b) v (upd H a (.dT (putK kvs k v))) := .inr ⟨kvs,k,b,e,rfl,eb,hl,rfl⟩
section
variable {X:Cx} {pins:List (Addr × Obj)} {σ:St} {H:Hp} {s:Shared} {a:Addr} {y v:V} {u r:Value} {o:Option V} {A:Around} {E:Value -> Shared -> Prop}
theorem d_notIn {Q:Value -> Shared -> Prop} (hu:A.units + 1 < cLine) (I:Inv X pins σ H s) (g:DGet H a y o) (ry:RelV y u) (h:∀ s',Inv X pins σ H s' -> Q (.bool (!o.isSome)) s') :
    wpAny (model X.prog X.w) A (compareOp .NotIn u (.ref a)) Q E s := by
  rcases g with ⟨kvs,k,e,ey,l⟩ | ⟨kvs,k,b,e,ey,eb,l⟩
  · subst ey
    obtain ⟨z,hd,vs,rel,dd⟩ := dk_rd I.hok e
    refine wpAny_notIn_of (kV_is ry) hd dd.mapOf ?_
    rw [<- (rel.val k).isSome_eq,<- l]
    exact h _ (I.tok _)
  · subst ey
    cases (show u = Value.ref b from ry)
    obtain ⟨z,hd,xs,rel,dd⟩ := dt_rd I.hok e
    refine wpAny_notIn_heap (tupleKind_room_in1 hu) (key_of I.hok eb) hd dd ?_
    have q := (rel.val k).isSome_eq
    rw [Option.isSome_map] at q
    rw [<- q,<- l]
    exact h _ (I.tok _)
end
section
variable {X:Cx} {pins:List (Addr × Obj)} {σ:St} {H:Hp} {s:Shared} {a:Addr} {kvs:List (Key × V)} {k:Key} {u:Value} {A:Around} {E:Value -> Shared -> Prop}
end
section
variable {X:Cx} {o i e value:Expr} {pos pos' tpos:Pos} {td ty tv:TE}
end
section
variable {X:Cx} {pos:Pos}
end
structure M1 (X:Cx) (o:Expr) (m:Str) (apos:Pos) (e:Expr) (cpos:Pos) : Prop where
  base:attributeBase o m X.env (eval o X.env) = eval o X.env
  few:((backTo cpos (starEach [e] X.env)).all (fun x => !x.1) && (backToKw cpos (keywordEach [] X.env)).all (fun x => x.1.isSome)
    && decide (([e] : List Expr).length + ([] : List Keyword).length + (if ([] : List Keyword).isEmpty then 0 else 1) < 30)) = true
  line:(apos.endLine == cpos.line) = true
  trees:backTo cpos (starEach [e] X.env) = [(false,eval e X.env)]
structure M2 (X:Cx) (o:Expr) (m:Str) (apos:Pos) (e f:Expr) (cpos:Pos) : Prop where
  base:attributeBase o m X.env (eval o X.env) = eval o X.env
  few:((backTo cpos (starEach [e,f] X.env)).all (fun x => !x.1) && (backToKw cpos (keywordEach [] X.env)).all (fun x => x.1.isSome)
    && decide (([e,f] : List Expr).length + ([] : List Keyword).length + (if ([] : List Keyword).isEmpty then 0 else 1) < 30)) = true
  line:(apos.endLine == cpos.line) = true
  trees:backTo cpos (starEach [e,f] X.env) = [(false,eval e X.env),(false,eval f X.env)]
def IsD (H:Hp) (a:Addr) : Prop := (∃ kvs,Rd H a (.dK kvs)) \/ ∃ kvs,Rd H a (.dT kvs)
theorem isD_at {X:Cx} {pins:List (Addr × Obj)} {σ:St} {H:Hp} {s:Shared} {a:Addr} (I:Inv X pins σ H s) (d:IsD H a) :
    s.TypeIs (.ref a) "dict" /\ (∀ b, Value.ref a = .ref b -> ∃ ob, s.heap.get? b = some ob /\ ob.dict = none) /\ (a == sysModules) = false := by
  rcases d with ⟨kvs,e⟩ | ⟨kvs,e⟩
  · obtain ⟨_,hd,vs,_,dd⟩ := dk_rd I.hok e
    refine ⟨dd.typeIs,fun b q => ?_,hd⟩
    cases q
    obtain ⟨ob,_,_,h1,h2,_⟩ := dd
    exact ⟨ob,h1,h2.2.1⟩
  · obtain ⟨_,hd,xs,_,dd⟩ := dt_rd I.hok e
    refine ⟨dd.typeIs,fun b q => ?_,hd⟩
    cases q
    obtain ⟨ob,_,_,h1,h2,_⟩ := dd
    exact ⟨ob,h1,h2.2.1⟩
section
variable {X:Cx} {pins:List (Addr × Obj)} {σ:St} {H:Hp} {s:Shared} {a:Addr} {y d:V} {u r:Value} {o:Option V} {A:Around} {E:Value -> Shared -> Prop}
end
section
variable {X:Cx} {o e f:Expr} {apos cpos:Pos} {td ty tx:TE}
end
section
variable {X:Cx} {pins:List (Addr × Obj)} {σ:St} {H:Hp} {s:Shared} {a:Addr} {kvs:List (Key × V)} {A:Around} {E:Value -> Shared -> Prop}
end
section
variable {X:Cx} {pins:List (Addr × Obj)} {σ:St} {H:Hp} {s:Shared} {a:Addr} {y:V} {u:Value} {A:Around} {E:Value -> Shared -> Prop}
end
end L2
namespace Att
open PySem PySem.W PySem.Calls PyProof.Rows
theorem ints_of_wellAll {P:Params} {h:Heap} : ∀ (ns:List Int) (vs:List Value),WellAll P h vs (ns.map WData.int) -> IntsAre vs ns := by
  intro ns
  induction ns with
  | nil =>
    intro vs w
    rw [List.map_nil] at w
    cases w
    exact .nil
  | cons n ns ih =>
    intro vs w
    rw [List.map_cons] at w
    cases w with
    | cons a b =>
      cases a
      exact .cons _ _ (ih _ b)
theorem script_of {l:OpenLaw} {n:Nat} (hn:l.most = some n) {P:Params} {h:Heap} {args:List WData} {vals:List Value}
    (hpre:l.row.toRowW.claim.pre args = true) (hwl:WellAll P h vals args) :
    ∃ a vs ns, vals = [Value.ref a] /\ args = [WData.list (ns.map WData.int)] /\ h.get? a = some { cls := .type "list", data := .seq vs.toArray } /\ IntsAre vs ns /\ ns.length <= n := by
  have hsh:WShape.hasAll [] args [.list .int] = true := (pre_splitW hpre).1
  have hc:l.pre.holds [] { args := args } = true := (pre_splitW hpre).2
  obtain ⟨d,r,rfl,h1,h2⟩ := hasAllW_cons hsh
  obtain rfl := hasAllW_nil h2
  obtain ⟨xs,rfl,h3⟩ := hasW_list h1
  obtain ⟨ns,rfl⟩ := items_int h3
  have hlen:ns.length <= n := by
    unfold OpenLaw.pre at hc
    have h4:(WTm.not (.lt (.lit (.int (n:Int))) (.len (.arg 0)))).holds [] { args := [.list (ns.map .int)] } = true := by
      have h4 := (holds_andW hc).1
      rw [hn] at h4
      exact h4
    have h5 := condW_of h4 (w_not (w_lt w_lit (w_len_list (w_arg rfl))))
    rw [List.length_map] at h5
    refine Nat.le_of_not_lt fun q => ?_
    have q':(n:Int) < ((ns.length:Nat) : Int) := by omega
    first
      | (rw [decide_eq_true q'] at h5; exact absurd h5 (by decide))
      | (simp at h5; omega)
  cases hwl with
  | cons w1 w2 =>
    cases w2
    cases w1 with
    | list ho hall => exact ⟨_,_,ns,rfl,rfl,ho,ints_of_wellAll ns _ hall,hlen⟩
theorem post_true (l:OpenLaw) (args:List WData) : l.row.toRowW.claim.post args (.bool true) args = true :=
  postW_of (r := l.row.toRowW) (X := (true == true))
    (show WShape.has [] (.bool true) .bool = true by first | rfl | decide | simp [WShape.has,WShape.arms,WShape.armsAll])
    (show (WTm.eq .res (.lit (.bool true))).value [] { args := args,res := some (.bool true),after := args } = some (.bool (true == true)) from w_eq_bool (w_res rfl) w_lit) rfl
theorem attach_call {l:OpenLaw} {n:Nat} {q:Program} {loose:List Str} {XP:(Str -> Option Value) -> Heap -> Prop} {YP:World -> Heap -> Prop} {d:DefRec}
    (hn:l.most = some n) (hdf:d.params.defaults = [])
    (call:∀ (w:World) (s₀ s₁:Shared) (mg mb:Str -> Option Value) (fa:Addr) (o:Obj) (pm cd doc:Value) (a:Addr) (vs:List Value) (ns:List Int),
      Ground q loose [] XP w s₀ mg mb s₁.heap -> YP w s₁.heap ->
      s₁.heap.get? fa = some o -> o.data = .func (docDef d.name d.params d.body d.scope pm cd doc) -> s₁.heap.CodeRec cd d.name -> mg d.name = some (.ref fa) ->
      s₁.heap.get? a = some { cls := .type "list", data := .seq vs.toArray } -> IntsAre vs ns -> ns.length <= n -> s₁.gens = #[] ->
      codeAny (model l.prog w) callerA (.call (.ref fa) ⟨[.ref a],[]⟩) (fun r s' => r = .ok (.ret (.bool true)) /\ OldK s₁.heap s'.heap /\ s'.os = s₁.os /\ AllBare s'.gens) s₁) :
    WalkO q loose XP YP l.row.toRowW d [] (fun f vs => PySem.call f vs) := by
  intro w s₀ s₁ mg mb G Y fa o pm cd doc dV kV ho hd hcd hD hmg hg args vals as hpre hlay hrd hwl hlo
  obtain rfl:dV = .none := Dflts.none hD hdf
  obtain rfl:kV = .none := Dflts.noKw hD
  obtain ⟨a,vs,ns,rfl,rfl,hobj,hints,hlen⟩ := script_of hn hpre hwl
  refine enter_call (codeAny_mono (call w s₀ s₁ mg mb fa o pm cd doc a vs ns G Y ho (fd_plain hd) hcd hmg hobj hints hlen hg) fun r s' hq => ?_)
  obtain ⟨rfl,h2,h3,h4⟩ := hq
  exact ⟨.inl ⟨.bool true,.bool true,[],rfl,fun _ => rfl,.bool true,post_true l _,fun _ => ⟨List.Pairwise.nil,fun _ hm => (nomatch hm)⟩⟩,h2,h3,h4⟩
section
variable {prog:Program} {w:World} {A:Around} {E:Value -> Shared -> Prop} {s:Shared} {K:Frag}
end
end Att
namespace L2
open PySem PySem.Spec PyProof.Rows
theorem vals_ints:∀ {vs:List Value} {ns:List Int},IntsAre vs ns -> Vals (ns.map V.int) vs
  | _,_,.nil => .nil
  | _,_,.cons n t h => .cons ⟨t,rfl⟩ (vals_ints h)
def Only (H:Hp) : Prop := ∀ b,H b = none \/ ∃ o xs,H b = some (.frz o (.lst xs))
theorem law_call {P:Program} {w:World} {K:PySem.W.Frag} {mg mb:Str -> Option Value} {CX:CXT} {k:Nat} {fa a:Addr} {fd:FuncData} {x:Str} {sp:Sp} {s₁:Shared} {vs:List Value} {ns:List Int}
    (KX : K.In s₁.heap) (hns : s₁.heap.Ns mainGlobals mg) (hb : s₁.heap.Ns builtinsNs mb) (hbb : ∀ x : Str, x ≠ "__name__" -> mb x = bootBuiltins x) (hlim : s₁.heap.NoLimit) (hg : s₁.gens = #[])
    (ha : s₁.heap.get? a = some { cls := .type "list", data := .seq vs.toArray }) (hi : IntsAre vs ns) (hl : ns.length <= sizeLine) (hr : Room k callerA)
    (F:∀ base:Heap,K.In base -> base.Ns mainGlobals mg -> FnOk P w K mg base CX k fa fd [x] sp) (hbind:∀ (s:Shared) (u:Value),BindsTo s fd ⟨[u],[]⟩ [(x,u)])
    (hsp:∀ H:Hp,Only H -> SqL K H a (ns.map V.int) -> sp [.ref a] H (fun v _ => v = .bl true) fun _ _ _ => False)
    (hCX:∀ H e s',CX [] H s₁ (fun _ _ _ => False) e s' -> False) :
    codeAny (model P w) callerA (.call (.ref fa) ⟨[.ref a],[]⟩) (fun r s' => r = .ok (.ret (.bool true)) /\ OldK s₁.heap s'.heap /\ s'.os = s₁.os /\ AllBare s'.gens) s₁ := by
  have rv := vals_ints hi
  have lenV := hi.length
  have core:∀ H:Hp,Only H -> SqL K H a (ns.map V.int) -> HOk P w H s₁.heap -> (∀ b,H b ≠ none -> b = a) -> (H a ≠ none -> K.lookup a = none) ->
      codeAny (model P w) callerA (.call (.ref fa) ⟨[.ref a],[]⟩) (fun r s' => r = .ok (.ret (.bool true)) /\ OldK s₁.heap s'.heap /\ s'.os = s₁.os /\ AllBare s'.gens) s₁ := by
    intro H hO hS hok hA hK
    have base_of:∀ {b:Addr} {o:Obj},s₁.heap.get? b = some o -> H b = none -> (hidT s₁.heap H).get? b = some o := fun e n => hidT_get e n
    have noA:∀ {b:Addr} {o:Obj} {es:Array DictEntry} {ep:Nat},s₁.heap.get? b = some o -> o.data = .dict es ep -> H b = none := fun {b o es ep} e d => by
      cases q:H b with
      | none => rfl
      | some u =>
        have e':b = a := hA b (by rw [q]; simp)
        subst e'
        rw [ha] at e; cases e
        have d':Data.seq vs.toArray _ = Data.dict es ep := d
        cases d'
    have nsK:∀ {b:Addr} {m:Str -> Option Value},s₁.heap.Ns b m -> (hidT s₁.heap H).Ns b m := fun {b m} ⟨o,es,ep,e,d,r⟩ => ⟨o,es,ep,base_of e (noA e d),d,r⟩
    have hKb:K.In (hidT s₁.heap H) := fun b o e => base_of (KX b o e) (by
      cases q:H b with
      | none => rfl
      | some u =>
        have e':b = a := hA b (by rw [q]; simp)
        subst e'
        rw [hK (by rw [q]; simp)] at e; cases e)
    have hM:Mod K mg (hidT s₁.heap H) := ⟨hKb,nsK hns,⟨mb,nsK hb,hbb⟩,let ⟨mc,h1,h2⟩ := hlim; ⟨mc,nsK h1,h2⟩⟩
    have e0:Env0 P w K mg (hidT s₁.heap H) callerA [] s₁ H := ⟨rfl,hM,fun b o e => of_hidT e,Nat.le_of_eq (hidT_size _ _),trivial,fun b hb => absurd (show b ∈ ([] : List Addr) from hb) (by simp),hok,.of_eq hg⟩
    refine codeAny_mono ((F _ hKb (nsK hns)).run callerA [] s₁ H ⟨[.ref a],[]⟩ [.ref a] [.ref a] _ _ hr e0 (hbind s₁ (.ref a)) (.cons rfl .nil) (hsp H hO hS)) fun r s' h => ?_
    cases r with
    | error e => exact (hCX H e s' h).elim
    | ok fl =>
      cases fl with
      | next => exact False.elim h
      | brk => exact False.elim h
      | cont => exact False.elim h
      | ret u =>
        obtain ⟨v,H',os,bare,un,hok',r',q⟩ := h
        have q':v = .bl true := q
        subst q'
        obtain rfl:u = Value.bool true := r'
        refine ⟨rfl,OldK.of_keep fun b o e => ?_,os,bare⟩
        cases q:H b with
        | none => exact un.keep b o e q (by intro z; exact absurd (show b ∈ ([] : List Addr) from z) (by simp)) (by simp)
        | some u =>
          rcases hO b with z | ⟨ob,xs,z⟩
          · rw [q] at z; cases z
          · have z2 := un.frzs b ob _ z
            obtain ⟨e1,_⟩ := hok b _ z
            obtain ⟨e2,_⟩ := hok' b _ z2
            rw [e] at e1; cases e1
            exact e2
  cases hk:K.lookup a with
  | some o =>
    have e := KX a o hk
    rw [ha] at e
    cases e
    refine core (fun _ => none) (fun _ => .inl rfl) (.inr ⟨_,vs.toArray,_,hk,rfl,rfl,rfl,by rw [List.size_toArray,lenV]; exact hl,by simpa using rv⟩) (fun b u z => by have z':(none:Option HO) = some u := z; cases z') (fun b z => absurd rfl z) fun z => absurd rfl z
  | none =>
    refine core (fun b => if b = a then some (.frz { cls := .type "list", data := .seq vs.toArray } (.lst (ns.map V.int))) else none) (fun b => ?_) (.inl (.inr ⟨{ cls := .type "list", data := .seq vs.toArray }, if_pos rfl⟩)) (fun b u z => ?_) (fun b z => ?_) fun _ => hk
    · by_cases hb:b = a
      · exact .inr ⟨_,_,if_pos hb⟩
      · exact .inl (if_neg hb)
    · by_cases hb : b = a
      · have z' := (if_pos hb).symm.trans z
        cases z'
        subst hb
        exact ⟨ha,by rw [List.length_map]; exact hl,vs,_,rv,ha⟩
      · have z' := (if_neg hb).symm.trans z
        cases z'
    · by_cases hb:b = a
      · exact hb
      · exact absurd (if_neg hb) z
end L2
namespace L2
open PySem PySem.Spec PyProof.Rows
theorem walk_of {l:PySem.W.OpenLaw} {n k:Nat} {q:Program} {loose:List Str} {XP:(Str -> Option Value) -> Heap -> Prop} {YP:World -> Heap -> Prop} {d:DefRec} {K:Params -> PySem.W.Frag} {CX:World -> CXT} {sp:World -> Sp} {x:Str}
    (hn:l.most = some n) (hn2:n <= sizeLine) (hdf:d.params.defaults = []) (hr:Room k callerA)
    (hY:∀ (w:World) (h:Heap),YP w h -> (K w.params).In h)
    (F:∀ (w:World) (mg:Str -> Option Value) (fa:Addr) (h:Heap),(K w.params).In h -> h.Ns mainGlobals mg -> mg d.name = some (.ref fa) ->
      ∃ fd:FuncData,(∀ (s:Shared) (u:Value),BindsTo s fd ⟨[u],[]⟩ [(x,u)]) /\
        ∀ base:Heap,(K w.params).In base -> base.Ns mainGlobals mg -> FnOk l.prog w (K w.params) mg base (CX w) k fa fd [x] (sp w))
    (hsp:∀ (w:World) (H:Hp) (a:Addr) (ns:List Int),ns.length <= n -> Only H -> SqL (K w.params) H a (ns.map V.int) -> sp w [.ref a] H (fun v _ => v = .bl true) fun _ _ _ => False)
    (hCX:∀ (w:World) (H:Hp) (s:Shared) (e:Value) (s':Shared),CX w [] H s (fun _ _ _ => False) e s' -> False) :
    PySem.W.WalkO q loose XP YP l.row.toRowW d [] (fun f vs => PySem.call f vs) := by
  refine Att.attach_call hn hdf fun w s₀ s₁ mg mb fa o pm cd doc a vs ns G Y ho hd hcd hmg hobj hints hlen hg => ?_
  have KX := hY w _ Y
  obtain ⟨fd,hb,hF⟩ := F w mg fa _ KX G.T.g hmg
  exact law_call KX G.T.g G.T.b G.T.builtins G.T.nolimit hg hobj hints (Nat.le_trans hlen hn2) hr hF hb (fun H hO hS => hsp w H a ns hlen hO hS) fun H e s' => hCX w H s₁ e s'
end L2
namespace L2
open PySem PySem.Spec PyProof.Rows
def defArgs (s:Stmt) : Arguments := match s with
  | .FunctionDef _ a _ _ _ _ _ _ _ _ => a
  | _ => { posonlyargs := [],args := [],vararg := none,kwonlyargs := [],kw_defaults := [],kwarg := none,defaults := [] }
def defBody (s:Stmt) : List Stmt := match s with
  | .FunctionDef _ _ b _ _ _ _ _ _ _ => b
  | _ => []
def defScope (s:Stmt) : Scope := match s with
  | .FunctionDef _ _ _ _ _ _ sc _ _ _ => sc
  | _ => { kind := .function,names := [],isGenerator := false,isCoroutine := false }
abbrev CX0:CXT := fun _ _ _ _ _ _ => False
abbrev E0:XK := fun _ _ _ => False
structure Fun (K:PySem.W.Frag) (x qual:Str) (st:Stmt) (f:Addr) (fd:FuncData) : Prop where
  ex:∃ (oc:Value) (od:Option Addr) (kV doc pm:Value) (an:Option Addr) (cdv ct:Value) (osl:Array (Option Value)),
    fd = PySem.W.fnOf x qual (defArgs st) (defBody st) (defScope st) .none kV doc pm an cdv ct /\ K.lookup f = some ⟨oc,od,.func fd,osl⟩ /\ PySem.W.codeIn K cdv qual = true
  kp:PySem.W.keepIn K (.ref f) = true
section
variable {P:Program} {w:World} {K:PySem.W.Frag} {mg:Str -> Option Value} {base:Heap}
theorem Fun.ok {x qual:Str} {st:Stmt} {f:Addr} {fd:FuncData} {N ps:List Str} {k:Nat} {sp:Sp} (F:Fun K x qual st f fd) (S:FnScope N ps (defScope st)) (len:∀ vs H Q E,sp vs H Q E -> vs.length = ps.length)
    (hbody:∀ (cdv:Value) (A:Around) (outer:List Env) (s:Shared) (H:Hp) (vs:List V) (Q:VK) (E:XK),Room k (A.deeper (envOfC qual (defScope st) s.heap.objs.size f cdv)) -> sp vs H Q E ->
      ∃ t,PSs (cxOf CX0 P w K mg base N qual (defScope st) f cdv A outer s H E).nox (defBody st) t /\ t { nx := fun _ H' => Q .non H',rt := Q } (start N vs) H) : FnOk P w K mg base CX0 (k + 1) f fd ps sp := by
  obtain ⟨oc,od,kV,doc,pm,an,cdv,ct,osl,rfl,lk,hcd⟩ := F.ex
  refine fn_of lk hcd S len fun A outer s H vs Q E hr hsp => ?_
  obtain ⟨t,h,q⟩ := hbody cdv A outer s H vs Q E hr hsp
  exact ⟨t,h.nox,q⟩
theorem Fun.binds {x qual:Str} {st:Stmt} {f:Addr} {fd:FuncData} {ps:List Str} (F:Fun K x qual st f fd)
    (h:∀ (kV doc pm:Value) (an:Option Addr) (cdv ct:Value) (us:List Value),us.length = ps.length -> bindArgs (PySem.W.fnOf x qual (defArgs st) (defBody st) (defScope st) .none kV doc pm an cdv ct) ⟨us,[]⟩ = pure (ps.zip us)) : Binds K fd ps [] := by
  obtain ⟨oc,od,kV,doc,pm,an,cdv,ct,osl,rfl,lk,hcd⟩ := F.ex
  exact .all (h kV doc pm an cdv ct)
theorem fun_mk {x qual:Str} {st:Stmt} {f:Addr} {oc:Value} {od an:Option Addr} {osl:Array (Option Value)} {kV doc pm cdv ct:Value} (l:K.lookup f = some ⟨oc,od,.func (PySem.W.fnOf x qual (defArgs st) (defBody st) (defScope st) .none kV doc pm an cdv ct),osl⟩)
    (c:PySem.W.codeIn K cdv qual = true) (k:PySem.W.keepIn K (.ref f) = true) : Fun K x qual st f (PySem.W.fnOf x qual (defArgs st) (defBody st) (defScope st) .none kV doc pm an cdv ct) := ⟨⟨oc,od,kV,doc,pm,an,cdv,ct,osl,rfl,l,c⟩,k⟩
end
section
variable {X:Cx}
theorem pv (i : Nat) {x : Str} {pos : Pos} (hN : X.N[i]? = some x := by rfl) (hv : Vis X.env.scope x := by first | exact Or.inl rfl | exact Or.inr (Or.inl rfl) | exact Or.inr (Or.inr rfl)) (hd : (x == ("__debug__" : Str)) = false := by decide)
    (hcd : (x == ("__classdict__" : Str)) = false := by decide) : PE X (.Name x pos) (tVar i) := pe_var hN hv hd hcd
end
theorem iteF {A B:Prop} (h:B) : if false = true then A else B := by
  rw [if_neg Bool.false_ne_true]
  exact h
theorem iteT {A B:Prop} (h:A) : if true = true then A else B := by
  rw [if_pos rfl]
  exact h
def Same (H H':Hp) : Prop := ∀ b o,H b = some o -> H' b = some o
theorem Same.refl (H:Hp) : Same H H := fun _ _ h => h
theorem Same.trans {H H1 H2:Hp} (a:Same H H1) (b:Same H1 H2) : Same H H2 := fun c o h => b c o (a c o h)
theorem Same.free {H H':Hp} (e:Same H H') {l:Addr} (h:H' l = Option.none) : H l = Option.none := by
  cases q:H l with
  | none => rfl
  | some o =>
    rw [e l o q] at h
    cases h
theorem Same.seq {K:PySem.W.Frag} {H H':Hp} {a:Addr} {xs:List V} (e:Same H H') (h:SqL K H a xs) : SqL K H' a xs := by
  rcases h with (h | ⟨o,h⟩) | h
  · exact .inl (.inl (e _ _ h))
  · exact .inl (.inr ⟨o,e _ _ h⟩)
  · exact .inr h
section
variable {κ:Type} [DecidableEq κ]
end
end L2
set_option autoImplicit false
namespace L2
open PySem PySem.Spec PyProof.Rows
def CX1 (P:Program) (w:World) : CXT := fun outer H s E e s' =>
  ∃ (x C t:Addr) (B:Heap) (H':Hp),e = .ref x /\ s'.os = s.os /\ AllBare s'.gens /\ Un (frs outer) [] H H' s.heap s'.heap /\ HOk P w H' s'.heap /\
    Heap.FlyingW B outer x (.ref C) (.ref t) s'.heap /\ (∀ b u,H' b = some u -> ∃ o,B.get? b = some o) /\ (∀ b o,s.heap.get? b = some o -> H b = none -> b ∉ frs outer -> B.get? b = some o) /\
    (∀ b o,s.heap.get? b = some o -> b ∉ frs outer -> ∃ o',B.get? b = some o') /\ H' x = none /\ E (.ref C) none H'
theorem hok_stays {P:Program} {w:World} {H:Hp} {B h1 h2:Heap} (ok:HOk P w H h1) (trk:∀ b u,H b = some u -> ∃ o,B.get? b = some o) (s1:B.StaysIn h1) (s2:B.StaysIn h2) : HOk P w H h2 := fun a o e =>
  (ok a o e).stay (fun b u hb q => by
    have hb':∃ v,H b = some v := hb.elim (fun z => ⟨o,by rw [z]; exact e⟩) fun z => ⟨_,z⟩
    obtain ⟨v,hv⟩ := hb'
    obtain ⟨o',ho⟩ := trk b v hv
    have := s1 b o' ho
    rw [q] at this
    cases this
    exact s2 b _ ho) (fun _ q => q) fun _ _ q => q
theorem objOk_some {P:Program} {w:World} {H:Hp} {h:Heap} {a:Addr} : ∀ {o:HO},ObjOk P w H h a o -> ∃ ob,h.get? a = some ob
  | .lst xs,x => by obtain ⟨_,_,_,_,e⟩ := x; exact ⟨_,e⟩
  | .tup xs,x => by obtain ⟨_,_,_,⟨_,e,_⟩⟩ := x; exact ⟨_,e⟩
  | .dK kvs,x => by obtain ⟨_,_,_,_,o,_,_,e,_⟩ := x; exact ⟨_,e⟩
  | .dT kvs,x => by obtain ⟨_,_,_,_,o,_,_,e,_⟩ := x; exact ⟨_,e⟩
  | .set S n,x => by obtain ⟨o,_,_,_,e,_⟩ := x; exact ⟨_,e⟩
  | .ins C dx fs,x => by obtain ⟨_,_,_,e,_⟩ := x; exact ⟨_,e⟩
  | .own y,x => x
  | .xd fs,x => by obtain ⟨_,⟨_,_,_,e,_⟩,_⟩ := x; exact ⟨_,e⟩
  | .rng lo hi,x => by obtain ⟨_,_,_,e⟩ := x; exact ⟨_,e⟩
  | .frz ob u,x => by obtain ⟨e,_⟩ := x; exact ⟨_,e⟩
  | .tbl ps,x => ⟨_,(show h.get? a = some _ from x)⟩
  | .met f y,x => ⟨_,(show h.get? a = some _ from x)⟩
  | .ext φ,x => x.2.1
section
variable {P:Program} {w:World} {K:PySem.W.Frag} {mg:Str -> Option Value} {base:Heap} {N:List Str} {qual:Str} {scope:Scope} {f:Addr} {cd:Value} {A:Around} {outer:List Env} {s₀:Shared} {H₀:Hp} {E:XK}
abbrev cx1 (P:Program) (w:World) (K:PySem.W.Frag) (mg:Str -> Option Value) (base:Heap) (N:List Str) (qual:Str) (scope:Scope) (f:Addr) (cd:Value) (A:Around) (outer:List Env) (s:Shared) (H:Hp) (E:XK) : Cx :=
  cxOf (CX1 P w) P w K mg base N qual scope f cd A outer s H E
theorem nstk {pins:List (Addr × Obj)} {σ:St} {H:Hp} {s:Shared} (I:Inv (cx1 P w K mg base N qual scope f cd A outer s₀ H₀ E) pins σ H s) {b:Addr} {o:Obj} (e:s₀.heap.get? b = some o) (hb:b ∉ frs outer) :
    b ∉ frs (cx1 P w K mg base N qual scope f cd A outer s₀ H₀ E).stack := fun z => by
  rcases List.mem_cons.mp (I.stkSub b z) with q | q
  · exact absurd (Nat.lt_of_lt_of_le (Heap.lt_size e) (Nat.le_trans I.ok.above (Nat.le_of_eq q.symm))) (Nat.lt_irrefl _)
  · exact hb q
theorem stk_of {b:Addr} (hb:b ∈ frs outer) : b ∈ frs (cx1 P w K mg base N qual scope f cd A outer s₀ H₀ E).stack := by
  show b ∈ frs (envOfC qual scope s₀.heap.objs.size f cd :: outer)
  unfold frs
  rw [List.filterMap_cons]
  have:(envOfC qual scope s₀.heap.objs.size f cd).frame = some s₀.heap.objs.size := rfl
  rw [this]
  exact List.mem_cons_of_mem _ hb
theorem passes1:Passes (CX1 P w) (cx1 P w K mg base N qual scope f cd A outer s₀ H₀ E) E := by
  intro pins σ H s e s' I h
  obtain ⟨x,C,t,B,H',rfl,os,bare,un,hok,fly,trk,unt,inB,hx,hE⟩ := h
  show wpAny _ _ (leaving _ _) _ _ s'
  have nx:∀ b:Addr,b ∉ (cx1 P w K mg base N qual scope f cd A outer s₀ H₀ E).ex := fun b z => absurd (show b ∈ ([] : List Addr) from z) (by simp)
  refine wpAny_leaves_onW I.ok.frames rfl fly fun h' fly' up => ?_
  have nf:∀ b,b ∈ frs outer -> ∀ o,s'.heap.get? b = some o -> ∀ vs,o.data ≠ .fields vs := fun b hb o e => by
    obtain ⟨_,o',e',d⟩ := fly.2.2.1.mem (stk_of (P := P) (w := w) (K := K) (mg := mg) (base := base) (N := N) (H₀ := H₀) (E := E) (A := A) hb)
    rw [e] at e'; cases e'; exact d
  refine ⟨x,C,t,B,H',rfl,os.trans I.os,bare,⟨fun b o e n hb _ => ?_,fun b o e n hb _ => ?_,fun b o e n _ => ?_,fun b o e _ => ?_,fun b xs q => un.tups b xs (I.base.tups b xs q),fun b o u q => un.frzs b o u (I.base.frzs b o u q),fun b ps q => ?_⟩,hok_stays hok trk fly.1 fly'.1,fly',trk,fun b o e n hb => ?_,fun b o e hb => ?_,hx,hE⟩
  · exact fly'.1 b o (unt b o (I.base.keep b o e n hb (nx b)) (I.base.free b o e n (nx b)) (nstk I e hb))
  · obtain ⟨sl,e1⟩ := I.base.slot b o e n hb (nx b)
    obtain ⟨sl',e2⟩ := un.slot b _ e1 (I.base.free b o e n (nx b)) (stk_of hb) (by simp)
    obtain ⟨sl'',e3⟩ := up b _ e2 (nf b hb _ e2)
    exact ⟨sl'',e3⟩
  · obtain ⟨o1,e1⟩ := I.base.there b o e (nx b)
    exact un.free b o1 e1 (I.base.free b o e n (nx b)) (by simp)
  · obtain ⟨o1,e1⟩ := I.base.there b o e (nx b)
    by_cases hb:b ∈ frs outer
    · obtain ⟨o2,e2⟩ := un.there b o1 e1 (by simp)
      obtain ⟨sl,e3⟩ := up b _ e2 (nf b hb _ e2)
      exact ⟨_,e3⟩
    · obtain ⟨o',q⟩ := inB b o1 e1 (nstk I e hb)
      exact ⟨o',fly'.1 b o' q⟩
  · obtain ⟨m1,e1⟩ := I.base.tbls b ps q
    obtain ⟨m2,e2⟩ := un.tbls b _ e1
    exact ⟨m1 ++ m2,by rw [e2,Array.append_assoc]⟩
  · exact unt b o (I.base.keep b o e n hb (nx b)) (I.base.free b o e n (nx b)) (nstk I e hb)
  · obtain ⟨o1,e1⟩ := I.base.there b o e (nx b)
    exact inB b o1 e1 (nstk I e hb)
theorem leaves1 {pins:List (Addr × Obj)} {σ:St} {H:Hp} {s:Shared} {h':Heap} {x C:Addr} {args:List Value} (I:Inv (cx1 P w K mg base N qual scope f cd A outer s₀ H₀ E) pins σ H s) (hx:Heap.MadeExcOf s.heap h' x (.ref C) args) (hE:E (.ref C) none H) :
    (cx1 P w K mg base N qual scope f cd A outer s₀ H₀ E).xe (.ref x) { s with heap := h' } := by
  show wpAny _ _ (leaving _ _) _ _ _
  have nx:∀ b:Addr,b ∉ (cx1 P w K mg base N qual scope f cd A outer s₀ H₀ E).ex := fun b z => absurd (show b ∈ ([] : List Addr) from z) (by simp)
  have hin:∀ env ∈ (cx1 P w K mg base N qual scope f cd A outer s₀ H₀ E).stack,∀ b,env.frame = some b -> b ∈ frs (cx1 P w K mg base N qual scope f cd A outer s₀ H₀ E).stack := fun env he b hb => List.mem_filterMap.mpr ⟨env,he,hb⟩
  have FF := I.stack
  refine wpAny_leaves_madeW (base := PySem.W.hideAll s.heap (frs (cx1 P w K mg base N qual scope f cd A outer s₀ H₀ E).stack)) I.ok.frames rfl (fun b o q => PySem.W.of_hideAll _ q) (PySem.W.funFrames_hide FF hin) hx fun h'' t fly _ _ up => ?_
  have inB:∀ b o,s.heap.get? b = some o -> b ∉ frs (cx1 P w K mg base N qual scope f cd A outer s₀ H₀ E).stack -> (PySem.W.hideAll s.heap (frs (cx1 P w K mg base N qual scope f cd A outer s₀ H₀ E).stack)).get? b = some o := fun b o e hb => PySem.W.hideAll_get _ e hb
  have trk:∀ b u,H b = some u -> ∃ o,(PySem.W.hideAll s.heap (frs (cx1 P w K mg base N qual scope f cd A outer s₀ H₀ E).stack)).get? b = some o := fun b u e => by
    obtain ⟨o,ho⟩ := objOk_some (I.hok b u e)
    exact ⟨o,inB b o ho fun z => by rw [I.stkFree b z] at e; cases e⟩
  have st:(PySem.W.hideAll s.heap (frs (cx1 P w K mg base N qual scope f cd A outer s₀ H₀ E).stack)).StaysIn s.heap := fun b o q => PySem.W.of_hideAll _ q
  have nf:∀ b,b ∈ frs outer -> ∀ o,s.heap.get? b = some o -> ∀ vs,o.data ≠ .fields vs := fun b hb o e => by
    obtain ⟨_,o',e',d⟩ := FF.mem (stk_of (P := P) (w := w) (K := K) (mg := mg) (base := base) (N := N) (H₀ := H₀) (E := E) (A := A) hb)
    rw [e] at e'; cases e'; exact d
  have hxn:H x = none := by
    cases q:H x with
    | none => rfl
    | some u =>
      obtain ⟨o,ho⟩ := objOk_some (I.hok x u q)
      rw [hx.new] at ho; cases ho
  refine ⟨x,C,t,_,H,rfl,I.os,I.bare,⟨fun b o e n hb _ => ?_,fun b o e n hb _ => ?_,fun b o e n _ => I.base.free b o e n (nx b),fun b o e _ => ?_,I.base.tups,I.base.frzs,I.base.tbls⟩,hok_stays I.hok trk st fly.1,fly,trk,fun b o e n hb => ?_,fun b o e hb => ?_,hxn,hE⟩
  · exact fly.1 b o (inB b o (I.base.keep b o e n hb (nx b)) (nstk I e hb))
  · obtain ⟨sl,e1⟩ := I.base.slot b o e n hb (nx b)
    obtain ⟨sl',e2⟩ := up b _ (hx.keeps b _ e1) (nf b hb _ e1)
    exact ⟨sl',e2⟩
  · obtain ⟨o1,e1⟩ := I.base.there b o e (nx b)
    by_cases hb:b ∈ frs outer
    · obtain ⟨sl,e2⟩ := up b _ (hx.keeps b _ e1) (nf b hb _ e1)
      exact ⟨_,e2⟩
    · exact ⟨o1,fly.1 b o1 (inB b o1 e1 (nstk I e hb))⟩
  · exact inB b o (I.base.keep b o e n hb (nx b)) (nstk I e hb)
  · obtain ⟨o1,e1⟩ := I.base.there b o e (nx b)
    exact ⟨o1,inB b o1 e1 (nstk I e hb)⟩
theorem own1:PassesOwn (model P w) (cx1 P w K mg base N qual scope f cd A outer s₀ H₀ E).A (cx1 P w K mg base N qual scope f cd A outer s₀ H₀ E).env (cx1 P w K mg base N qual scope f cd A outer s₀ H₀ E).xe := by
  show PassesOwn _ _ _ (fun e s' => wpAny _ _ (leaving _ e) _ _ s')
  passes_own
end
end L2
namespace L2
open PySem PySem.Spec PyProof.Rows
abbrev vMro : List Value := [.type "ValueError", .type "Exception", .type "BaseException", .type "object"]
def ClsAt (h : Heap) (C : Addr) (bm : List Value) : Prop := ∃ N nm q bs hdct sn sub ab col dd k0 k1 k2 k3 k5 mN, h.get? C = some (excClassObj nm q C N bs bm hdct sn sub ab col dd k0 k1 k2 k3 k5 "ValueError.__new__") /\ h.Ns N mN /\ mN "__init__" = none /\ OwnTail h vMro bm
theorem ClsAt.keeps {h h':Heap} {C:Addr} {bm:List Value} (x:ClsAt h C bm) (k:∀ b o,h.get? b = some o -> h'.get? b = some o) : ClsAt h' C bm := by
  obtain ⟨N,nm,q,bs,hd,sn,sub,ab,col,dd,k0,k1,k2,k3,k5,mN,e1,e2,e3,e4⟩ := x
  exact ⟨N,nm,q,bs,hd,sn,sub,ab,col,dd,k0,k1,k2,k3,k5,mN,k _ _ e1,e2.keeps k,e3,e4.keeps k⟩
def mroK (K:PySem.W.Frag) (C:Addr) : List Value := match K.lookup C with
  | some ⟨_,_,.cls cd,_⟩ => cd.mro
  | _ => []
theorem clsAt_of {K : PySem.W.Frag} {h : Heap} {C : Addr} (X : K.In h) (q : PySem.W.excIn K C vMro "ValueError.__new__" = true) : ∃ bm, mroK K C = .ref C :: bm /\ ClsAt h C bm := by
  have q0 := q
  unfold PySem.W.excIn at q
  unfold mroK
  cases ho:K.lookup C with
  | none => rw [ho] at q; cases q
  | some ob =>
    rw [ho] at q
    split at q
    · rename_i dd cd sl he
      injection he with he
      subst he
      dsimp only
      split at q
      · rename_i D bm k0 k1 k2 k3 n k5 hm hs
        rw [hm]
        simp only [Bool.and_eq_true,beq_iff_eq,Bool.not_eq_true'] at q
        obtain ⟨⟨⟨⟨⟨hD,hn⟩,hdel⟩,ht⟩,hok⟩,hni⟩ := q
        refine ⟨bm,by rw [hD],?_⟩
        obtain ⟨nm,bs,mro,ns,qn,hd,sn,sub,ab,col,del⟩ := cd
        dsimp only at hm hdel hok hni
        have es:sl = #[k0,k1,k2,k3,some (.builtin n),k5] := by
          cases sl with
          | mk l => simp only at hs; rw [hs]
        rw [hn] at es
        subst es
        have hC := X _ _ ho
        rw [hdel,hm,hD] at hC
        exact ⟨ns,nm,qn,bs,hd,sn,sub,ab,col,dd,k0,k1,k2,k3,k5,_,hC,.of_isNs (PySem.W.isNs_of_in X hok),PySem.W.nsMap_none_of_in X hok hni,PySem.W.tail_of_in X ht⟩
      · cases q
    · cases q
structure XC (K:PySem.W.Frag) (mg:Str -> Option Value) (c:Str) (C:Addr) : Prop where
  gl:mg c = some (.ref C)
  ex : PySem.W.excIn K C vMro "ValueError.__new__" = true
section
variable {X:Cx} {c:Str} {C:Addr} {np cpos pos:Pos} {e₀:Expr} {rest:List Expr} {t:TA}
def tRaise (t:TA) (EW:Hp -> Prop) : TS := fun _ σ H => t σ H fun vs H' => vs.length <= sizeLine /\ EW H'
theorem ps_raise {EW:Hp -> Prop} (hc:XC X.K X.mg c C) (hg:Gl X c) (hcalm:X.calm = true) (ha:PA X (e₀ :: rest) t)
    (hl:∀ (pins:List (Addr × Obj)) (σ:St) (H:Hp) (s:Shared) (h':Heap) (x:Addr) (args:List Value),Inv X pins σ H s -> Heap.MadeExcOf s.heap h' x (.ref C) args -> EW H -> X.xe (.ref x) { s with heap := h' })
    (he : starEach (e₀ :: rest) X.env = (false, eval e₀ X.env) :: starEach rest X.env := by rfl) (hpl : (backTo cpos (starEach rest X.env)).any (·.1) = false := by rfl) (hd : (c == ("__debug__" : Str)) = false := by decide) :
    PS X (.Raise (some (.Call (.Name c np) (e₀ :: rest) [] cpos)) none pos) (tRaise t EW) := by
  intro pins s σ H D I h
  obtain ⟨bm,_,N,nm,q,bs,hdct,sn,sub,ab,col,dd,k0,k1,k2,k3,k5,mN,hC,hN,hni,TL⟩ := clsAt_of I.ok.mod.kin hc.ex
  have fb := PySem.F.excBase_ValueError
  refine wpAny_Raise_call_subU (C := C) (nm := nm) (q := q) (N := N) (bs := bs) (bm := bm) (hdct := hdct) (sn := sn) (sub := sub) (ab := ab) (col := col) (dd := dd) (k0 := k0) (k1 := k1) (k2 := k2) (k3 := k3) (k5 := k5) (bmB := vMro)
    fb (by decide +kernel) fb (mN := mN) (TL.hasType fb.hasBase) (I.ok.hd hcalm) ?_ hni (ld_glob I hg hc.gl ⟨rfl,?_⟩ hd)
  · rw [he]
    show (false || (backTo cpos (starEach rest X.env)).any (·.1)) = false
    rw [hpl]; rfl
  · have ha' := ha cpos pins s σ H _ I h
    rw [he] at ha' ⊢
    refine Calls.evalArgs_plain (wpAny_mono ha' (fun us s2 ⟨vs,H2,I2,r,q2⟩ => ?_) fun _ _ y => y)
    exact ⟨rfl,by rw [<- r.length]; exact q2.1,I2.bk _ _ hC,hN.keeps I2.bk,TL.keeps I2.bk,fun h' e hm => hl pins σ H2 s2 h' e us I2 hm q2.2⟩
end
section
variable {M:Model} {A:Around} {E:Value -> Shared -> Prop}
theorem matches_above {s:Shared} {e C C':Addr} {oe:Obj} {bm bm':List Value} {Q:Bool -> Shared -> Prop} (hC:ClsAt s.heap C bm) (hC':ClsAt s.heap C' bm') (he:s.heap.get? e = some oe) (hcls:oe.cls = .ref C)
    (hq:Q ((Value.ref C :: bm).contains (.ref C')) s) : wpAny M A (excMatches (.ref e) (.ref C')) Q E s := by
  obtain ⟨N,nm,q,bs,hd,sn,sub,ab,col,dd,k0,k1,k2,k3,k5,mN,hC,_,_,_⟩ := hC
  obtain ⟨N',nm',q',bs',hd',sn',sub',ab',col',dd',k0',k1',k2',k3',k5',mN',hC',_,_,TL'⟩ := hC'
  obtain ⟨h,g,d,t,os⟩ := s
  have hcB : (Value.ref C' :: bm').contains (.type "BaseException") = true := by rw [List.contains_cons, TL'.hasType PySem.F.excBase_ValueError.hasBase, Bool.or_true]
  have f := tc_notTuple
  unfold excMatches
  repeat (first | (with_reducible refine wpAny_loadPart_at he ?_; rw [hcls]) | with_reducible refine wpAny_loadPart_at hC' ?_ | (with_reducible refine wpAny_isSubtype_exc hC' ?_; rw [hcB]) | with_reducible refine wpAny_isSubtype_exc hC ?_ | wp_step)
  cases hb:(Value.ref C :: bm).contains (.ref C') <;> (rw [hb] at hq; wp_walk; exact hq)
end
end L2
namespace L2
open PySem PySem.Spec PyProof.Rows
abbrev TX := St -> Hp -> VK -> XK -> Prop
def PEX (X:Cx) (e:Expr) (t:TX) : Prop := ∀ (pins:List (Addr × Obj)) (s:Shared) (σ:St) (H:Hp) (Q:VK) (EX:XK),Inv X pins σ H s -> t σ H Q EX ->
  wpAny (model X.prog X.w) X.A (eval e X.env) (EP X pins σ Q) (fun ev s' => ∃ H1 s1,Inv X pins σ H1 s1 /\ CX1 X.prog X.w X.stack H1 s1 EX ev s') s
section
variable {X:Cx} {k:Nat} {f:Addr} {fd:FuncData} {ps:List Str} {sp:Sp} {dvs:List V} {ds:List Value} {x:Str} {p pos:Pos} {e:Expr} {es:List Expr} {t:TA}
theorem pex_call (F:FnOk X.prog X.w X.K X.mg X.base (CX1 X.prog X.w) k f fd ps sp) (hr:Room k X.A) (hg:Gl X x) (hm:X.mg x = some (.ref f)) (hk:PySem.W.keepIn X.K (.ref f) = true) (hb:Binds X.K fd ps ds) (hd:Vals dvs ds) (ha:PA X.nox (e :: es) t)
    (hdb : (x == ("__debug__" : Str)) = false := by decide) (he : starEach (e :: es) X.env = (false, eval e X.env) :: starEach es X.env := by rfl) (hpl : (backTo pos (starEach es X.env)).any (·.1) = false := by rfl) :
    PEX X (.Call (.Name x p) (e :: es) [] pos) (fun σ H Q EX => t σ H fun vs H1 => sp (vs ++ dvs) H1 Q EX) := by
  intro pins s σ H Q EX I h
  refine wpAny_Call_Name_kw (ld_glob I hg hm ?_ hdb)
  refine PySem.W.callWith_K (h₀ := X.base) I.ok.mod.kin hk (wpAny_mono (ha pos pins s σ H _ (I.wish _) h) (fun us s1 ⟨vs,H1,I1,r,q⟩ => ⟨I1.kIn,?_⟩) fun _ _ z => False.elim z) he hpl
  have J:Inv X pins σ H1 s1 := I1.unwish
  have r2:Vals (vs ++ dvs) (us ++ ds) := r.append hd
  have hl:(us ++ ds).length = ps.length := by rw [<- r2.length]; exact F.len _ _ _ _ q
  refine wpAny_call (codeAny_mono (F.run X.A X.stack s1 H1 ⟨us,[]⟩ (us ++ ds) (vs ++ dvs) Q EX hr J.env0 (hb s1 us J.kIn hl) r2 q) fun r s' hq => ?_)
  cases r with
  | error ev => exact ⟨H1,s1,J,hq⟩
  | ok fl =>
    cases fl with
    | ret u => exact J.after hq
    | next => exact False.elim hq
    | brk => exact False.elim hq
    | cont => exact False.elim hq
end
abbrev Cx.caught (X:Cx) (x:Addr) : Cx := { X with A := X.A.mark (some (.ref x)),calm := false,xe := fun _ _ => False }
section
variable {X:Cx} {pins:List (Addr × Obj)} {σ:St} {H:Hp} {s:Shared} {x:Addr}
theorem Inv.caught (I:Inv X pins σ H s) (x:Addr) : Inv (X.caught x) pins σ H s :=
  ⟨⟨I.ok.mod,I.ok.kind,I.ok.glob,I.ok.blt,I.ok.above,I.ok.inj,I.ok.has,I.ok.cab,(fun z => by cases z),I.ok.frames,I.ok.stk,I.ok.exf,I.ok.bs,I.ok.bsz,I.ok.noex,I.ok.exfs,I.ok.funs,I.ok.frf⟩,I.os,I.bare,I.base,I.loc,I.cell,I.free,I.freeC,I.pin,I.hok,I.len⟩
theorem Inv.uncaught (I:Inv (X.caught x) pins σ H s) (ok:X.Ok) : Inv X pins σ H s := ⟨ok,I.os,I.bare,I.base,I.loc,I.cell,I.free,I.freeC,I.pin,I.hok,I.len⟩
theorem SP.uncaught {D:Ends} {f:Flow} {s':Shared} (h:SP (X.caught x) pins D f s') (ok:X.Ok) : SP X pins D f s' := by
  cases f with
  | next => obtain ⟨σ',H',I,q⟩ := h; exact ⟨σ',H',I.uncaught ok,q⟩
  | brk => obtain ⟨σ',H',I,q⟩ := h; exact ⟨σ',H',I.uncaught ok,q⟩
  | cont => obtain ⟨σ',H',I,q⟩ := h; exact ⟨σ',H',I.uncaught ok,q⟩
  | ret u => obtain ⟨v,σ',H',I,r,q⟩ := h; exact ⟨v,σ',H',I.uncaught ok,r,q⟩
theorem Inv.landed {H1:Hp} {s1 s':Shared} {B:Heap} {h6:Heap} {C t:Addr} {g6:Array GenState} {l:List Env} (I:Inv X pins σ H1 s1) (os:s'.os = s1.os) (bare:AllBare s'.gens) (un:Un (frs X.stack) [] H1 H s1.heap s'.heap) (hok:HOk X.prog X.w H s'.heap) (fly:Heap.FlyingW B X.stack x (.ref C) (.ref t) s'.heap)
    (trk:∀ b u,H b = some u -> ∃ o,B.get? b = some o) (unt:∀ b o,s1.heap.get? b = some o -> H1 b = none -> b ∉ frs X.stack -> B.get? b = some o) (inB:∀ b o,s1.heap.get? b = some o -> b ∉ frs X.stack -> ∃ o',B.get? b = some o')
    (st:B.StaysIn h6) (up:s'.heap.UpToSlots h6) : Inv X pins σ H { s' with heap := h6 } := by
  have nf:∀ b,b ∈ frs X.stack -> ∀ o,s'.heap.get? b = some o -> ∀ vs,o.data ≠ .fields vs := fun b hb o e => by
    obtain ⟨_,o',e',d⟩ := fly.2.2.1.mem hb
    rw [e] at e'; cases e'; exact d
  refine I.call' (ch := []) os ⟨fun b o e n hb _ => st b o (unt b o e n hb),fun b o e n hb _ => ?_,fun b o e n hx => un.free b o e n hx,fun b o e hx => ?_,un.tups,un.frzs,un.tbls⟩ (hok_stays hok trk fly.1 st) bare fun b z => absurd z (by simp)
  · obtain ⟨sl,e1⟩ := un.slot b o e n hb (by simp)
    obtain ⟨sl',e2⟩ := up b _ e1 (nf b hb _ e1)
    exact ⟨sl',e2⟩
  · by_cases hb : b ∈ frs X.stack
    · obtain ⟨o1,e1⟩ := un.there b o e (by simp)
      obtain ⟨sl',e2⟩ := up b _ e1 (nf b hb _ e1)
      exact ⟨_,e2⟩
    · obtain ⟨o',q⟩ := inB b o e hb
      exact ⟨o',st b o' q⟩
end
section
variable {X:Cx} {hc:Str} {Ch:Addr} {np hpos pos epos:Pos} {b₀:Stmt} {suite:List Stmt} {ts:TS} {te:TX} {e:Expr}
end
end L2
namespace L2
open PySem PySem.Spec PySem.Calls PyProof.Rows
end L2
namespace L2
open PySem PySem.Spec PySem.Calls PyProof.Rows
abbrev PItem := List Key × Addr × Value
section
variable {prog:Program} {w:World}
abbrev tK (prog:Program) (w:World) := tupleKind (mixKind prog w)
def DRaw (prog:Program) (w:World) (h:Heap) (S:Addr) (xs:List PItem) : Prop := ∃ o es ep,h.get? S = some o /\ o.ExactDict /\ o.data = .dict es ep /\ es.toList = xs.map (entryOfKey (tK prog w)) /\ (xs.map (·.1)).Nodup
theorem is_keep {h h':Heap} {k:List Key} {a:Addr} (x:(tK prog w).is h k a) (e:∀ b o,h.get? b = some o -> h'.get? b = some o) : (tK prog w).is h' k a := by
  obtain ⟨o,items,n,h1,r⟩ := x
  exact ⟨o,items,n,e _ _ h1,r⟩
theorem DRaw.of {hb h:Heap} {S:Addr} {xs:List PItem} (d:DRaw prog w h S xs) (ks:∀ x ∈ xs,(tK prog w).is hb x.1 x.2.1) (e:∀ b o,hb.get? b = some o -> h.get? b = some o) : h.DictOfH (tK prog w) S xs := by
  obtain ⟨o,es,ep,h1,h2,h3,h4,h5⟩ := d
  exact ⟨o,es,ep,h1,h2,h3,h4,fun x hx => is_keep (ks x hx) e,h5⟩
variable {A:Around} {R:Result -> Shared -> Prop} {I:Addr} {fp wr:List Addr} {G:Array GenState -> Array GenState -> Prop} {n:Nat} {P:Nat -> Value -> Prop} {St:Nat -> Shared -> Prop}
end
end L2
namespace L2
open PySem PySem.Spec PySem.Calls PyProof.Rows
section
variable {prog:Program} {w:World} {A:Around} {E:Value -> Shared -> Prop} {s:Shared}
end
end L2
namespace L2
open PySem PySem.Spec PySem.Calls PyProof.Rows
section
variable {P:Program} {w:World} {H:Hp} {h:Heap}
end
section
variable {X:Cx}
end
end L2
namespace L2
open PySem PySem.Spec PySem.Calls PyProof.Rows
section
variable {X:Cx} {pins:List (Addr × Obj)} {σ:St} {H:Hp} {s:Shared} {a:Addr}
end
end L2
namespace L2
open PySem PySem.Spec PySem.Calls PyProof.Rows
def DGetX (H:Hp) (a:Addr) (y:V) (r:Option V) : Prop :=
  DGet H a y r \/ (Rd H a (.dT []) /\ (∃ k,y = kV k) /\ r = none) \/ (Rd H a (.dK []) /\ (∃ (b:Addr) (k:List Key),y = .ref b /\ H b = some (.tup (k.map kV))) /\ r = none)
section
variable {X:Cx} {pins:List (Addr × Obj)} {σ:St} {H:Hp} {s:Shared} {a:Addr} {y v:V} {u r:Value} {o:Option V} {A:Around} {E:Value -> Shared -> Prop}
theorem emptyK {P:Program} {w:World} {h:Heap} (x:ObjOk P w H h a (.dT [])) : (a == sysModules) = false /\ h.DictOf (mixKind P w) a [] := by
  obtain ⟨z,y,xs,r,o,es,ep,h1,h2,h3,h4,h5⟩ := x
  cases r
  have e:es = #[] := by simpa using h4
  subst e
  exact ⟨y,o,#[],ep,h1,h2,h3,fun x hx => by simp at hx,by constructor,List.nodup_nil⟩
theorem emptyT {P:Program} {w:World} {h:Heap} (x:ObjOk P w H h a (.dK [])) : (a == sysModules) = false /\ h.DictOfH (tupleKind (mixKind P w)) a [] := by
  obtain ⟨z,y,vs,r,o,es,ep,h1,h2,h3,h4,h5⟩ := x
  cases r
  refine ⟨y,o,es,ep,h1,h2,h3,?_,fun x hx => (nomatch hx),List.nodup_nil⟩
  generalize es.toList = l at h5
  obtain ⟨h5,_⟩ := h5
  cases l with
  | nil => rfl
  | cons x r => cases h5
theorem d_notInX {Q:Value -> Shared -> Prop} (hu:A.units + 1 < cLine) (I:Inv X pins σ H s) (g:DGetX H a y o) (ry:RelV y u) (h:∀ s',Inv X pins σ H s' -> Q (.bool (!o.isSome)) s') :
    wpAny (model X.prog X.w) A (compareOp .NotIn u (.ref a)) Q E s := by
  rcases g with g | ⟨e,⟨k,rfl⟩,rfl⟩ | ⟨e,⟨b,k,rfl,eb⟩,rfl⟩
  · exact d_notIn hu I g ry h
  · obtain ⟨y,dd⟩ := emptyK (e.ok I.hok)
    exact wpAny_notIn_of (kV_is ry) y dd.mapOf (h _ (I.tok _))
  · obtain rfl:u = Value.ref b := ry
    obtain ⟨y,dd⟩ := emptyT (e.ok I.hok)
    exact wpAny_notIn_heap (tupleKind_room_in1 hu) (key_of I.hok eb) y dd (h _ (I.tok _))
end
section
variable {X:Cx} {value o i:Expr} {td ty tv:TE} {pos pos':Pos}
end
end L2
namespace L2
open PySem PySem.Spec PySem.Calls PyProof.Rows
section
variable {X:Cx} {pins:List (Addr × Obj)} {σ:St} {H:Hp} {s:Shared} {a:Addr} {y d:V} {u r:Value} {o:Option V} {A:Around} {E:Value -> Shared -> Prop}
end
section
variable {X:Cx} {o e f:Expr} {apos cpos:Pos} {td ty tx:TE}
end
end L2
namespace L2
open PySem PySem.Spec PySem.Calls PyProof.Rows
def dicO:HO -> Prop
  | .dK _ => True
  | .dT _ => True
  | _ => False
section
variable {X:Cx} {pins:List (Addr × Obj)} {σ:St} {H H':Hp} {s:Shared} {d:Addr} {o:Obj} {u:HO}
theorem Inv.view (I:Inv X pins σ H s) (hn:∀ b,H b = none -> H' b = none) (ht:∀ b xs,H b = some (.tup xs) -> H' b = some (.tup xs)) (hf:∀ b o u,X.H₀ b = some (.frz o u) -> H' b = some (.frz o u))
    (hb:∀ b ps,H b = some (.tbl ps) -> H' b = some (.tbl ps)) (hok:HOk X.prog X.w H' s.heap) : Inv X pins σ H' s where
  ok := I.ok
  os := I.os
  bare := I.bare
  base := ⟨I.base.keep,I.base.slot,fun b o e n hx => hn b (I.base.free b o e n hx),I.base.there,fun b xs e => ht b xs (I.base.tups b xs e),hf,fun b ps e => let ⟨m,q⟩ := I.base.tbls b ps e; ⟨m,hb b _ q⟩⟩
  loc := I.loc
  cell := I.cell
  free := hn _ I.free
  freeC := fun x c e => hn c (I.freeC x c e)
  pin := fun p hp => let ⟨a,b,c⟩ := I.pin p hp; ⟨a,hn _ b,c⟩
  hok := hok
  len := I.len
theorem view_ok {P:Program} {w:World} {h:Heap} (ok:HOk P w H h) {u':HO} (hd:∃ u,H d = some u /\ (∀ y,u ≠ .own y) /\ ∀ xs,u ≠ .tup xs) (new:ObjOk P w (upd H d u') h d u') : HOk P w (upd H d u') h := fun b v e => by
  obtain ⟨u,hu,h1,h2⟩ := hd
  by_cases hb:b = d
  · subst hb; rw [upd_same] at e; cases e; exact new
  · rw [upd_ne hb] at e
    refine (ok b v e).stay (fun _ _ _ q => q) (fun c q => ?_) fun c xs q => ?_
    · rw [upd_ne]
      · exact q
      · rintro rfl; rw [hu] at q; cases q; exact h1 _ rfl
    · rw [upd_ne]
      · exact q
      · rintro rfl; rw [hu] at q; cases q; exact h2 _ rfl
theorem dicO_no {u:HO} (h:dicO u) : (∀ y,u ≠ .own y) /\ (∀ xs,u ≠ .tup xs) /\ (∀ ps,u ≠ .tbl ps) /\ ∀ o v,u ≠ .frz o v := by
  cases u <;> first | exact h.elim | exact ⟨fun _ z => (nomatch z),fun _ z => (nomatch z),fun _ z => (nomatch z),fun _ _ z => (nomatch z)⟩
theorem objOk_dic {P:Program} {w:World} {h:Heap} (hu:dicO u) (x:ObjOk P w H h d u) (ht:∀ b xs,H b = some (.tup xs) -> H' b = some (.tup xs)) : ObjOk P w H' h d u := by
  cases u with
  | dK kvs => exact x
  | dT kvs =>
    obtain ⟨z,y,xs,r,q⟩ := x
    exact ⟨z,y,xs,Paired.mapP r fun p q z => ⟨z.1,ht _ _ z.2.1,z.2.2⟩,q⟩
  | _ => exact hu.elim
theorem Inv.frz (I:Inv X pins σ H s) (e:H d = some u) (hu:dicO u) (ho:s.heap.get? d = some o) : Inv X pins σ (upd H d (.frz o u)) s := by
  obtain ⟨n1,n2,n3,n4⟩ := dicO_no hu
  have ht:∀ b xs,H b = some (.tup xs) -> upd H d (.frz o u) b = some (.tup xs) := fun b xs q => by
    rw [upd_ne]
    · exact q
    · rintro rfl; rw [e] at q; cases q; exact n2 _ rfl
  refine I.view (fun b hb => ?_) ht (fun b o' u' q => ?_) (fun b ps q => ?_) (view_ok I.hok ⟨u,e,n1,n2⟩ ⟨ho,objOk_dic hu (I.hok d u e) ht⟩)
  · rw [upd_ne]
    · exact hb
    · rintro rfl; rw [e] at hb; cases hb
  · have q := I.base.frzs b o' u' q
    rw [upd_ne]
    · exact q
    · rintro rfl; rw [e] at q; cases q; exact n4 _ _ rfl
  · rw [upd_ne]
    · exact q
    · rintro rfl; rw [e] at q; cases q; exact n3 _ rfl
end
section
variable {X:Cx} {tg:Expr}
end
end L2
namespace L2
open PySem PySem.Spec PySem.Calls PyProof.Rows
section
variable {prog:Program} {w:World}
variable {A:Around} {R:Result -> Shared -> Prop} {I:Addr} {fp wr:List Addr} {G:Array GenState -> Array GenState -> Prop} {n:Nat} {P:Nat -> Value -> Prop} {St:Nat -> Shared -> Prop}
end
section
variable {prog:Program} {w:World} {A:Around} {E:Value -> Shared -> Prop} {s:Shared}
end
section
variable {P:Program} {w:World} {H:Hp} {h:Heap}
end
section
variable {X:Cx}
end
end L2
namespace L2
open PySem PySem.Spec PySem.Calls PyProof.Rows
section
variable {prog:Program} {w:World} {A:Around} {E:Value -> Shared -> Prop} {s:Shared}
end
section
variable {X:Cx}
end
end L2
namespace L2
open PySem PySem.Spec PySem.Calls PyProof.Rows
section
variable {X:Cx} {tg:Expr}
end
end L2
namespace ST
open PySem PySem.SetTable
def st (m:Nat) (h:Int) : Probe := { j := bits h % (m + 1),more := runEnd m (bits h % (m + 1)) - bits h % (m + 1),i := bits h % (m + 1),perturb := bits h,dummy := none }
def rs (m:Nat) (p:Nat × Nat) : Probe := { j := p.1,more := runEnd m p.1 - p.1,i := p.1,perturb := p.2,dummy := none }
def adv (m:Nat) (p:Probe) : Probe := if p.more > 0 then { p with j := p.j + 1,more := p.more - 1 } else { p with j := (leap m p.i p.perturb).1,more := runEnd m (leap m p.i p.perturb).1 - (leap m p.i p.perturb).1,i := (leap m p.i p.perturb).1,perturb := (leap m p.i p.perturb).2 }
def it (m:Nat) : Nat -> Probe -> Probe
  | 0,p => p
  | n + 1,p => it m n (adv m p)
structure Va (m:Nat) (p:Probe) : Prop where
  i:p.i <= m
  more:p.more <= 9
  j:p.j + p.more <= m
  q:p.perturb < 2 ^ 64
  d:p.dummy = none
theorem bits_lt (h:Int) : bits h < 2 ^ 64 := by
  unfold bits
  have := Int.emod_lt_of_pos h (show (0:Int) < 2 ^ 64 by decide)
  have h2 := Int.emod_nonneg h (show (2 ^ 64:Int) ≠ 0 by decide)
  omega
theorem run_le (m i:Nat) (h:i <= m) : runEnd m i - i <= 9 /\ i + (runEnd m i - i) <= m := by
  unfold runEnd; split <;> omega
theorem Va.rs {m:Nat} {p:Nat × Nat} (h1:p.1 <= m) (h2:p.2 < 2 ^ 64) : Va m (rs m p) := ⟨h1,(run_le m _ h1).1,(run_le m _ h1).2,h2,rfl⟩
theorem Va.st (m:Nat) (h:Int) : Va m (st m h) := by
  have:bits h % (m + 1) <= m := Nat.le_of_lt_succ (Nat.mod_lt _ (Nat.succ_pos m))
  exact ⟨this,(run_le m _ this).1,(run_le m _ this).2,bits_lt h,rfl⟩
theorem leap_le (m i q:Nat) : (leap m i q).1 <= m := by
  exact Nat.le_of_lt_succ (Nat.mod_lt _ (Nat.succ_pos m))
theorem leap_q (m i q:Nat) : (leap m i q).2 = q / 32 := rfl
theorem Va.adv {m:Nat} {p:Probe} (v:Va m p) : Va m (adv m p) := by
  unfold ST.adv
  split
  · exact ⟨v.i,by dsimp only; have := v.more; omega,by dsimp only; have := v.j; omega,v.q,v.d⟩
  · have l := leap_le m p.i p.perturb
    exact ⟨l,(run_le m _ l).1,(run_le m _ l).2,by dsimp only; rw [leap_q]; have := v.q; have := Nat.div_le_self p.perturb 32; omega,v.d⟩
theorem Va.it {m:Nat} : ∀ {n:Nat} {p:Probe},Va m p -> Va m (it m n p)
  | 0,_,v => v
  | n + 1,_,v => Va.it (n := n) v.adv
def lp (m:Nat) : Nat -> Nat × Nat -> Nat × Nat
  | 0,p => p
  | n + 1,p => lp m n (leap m p.1 p.2)
def Msk (m:Nat) : Prop := m = 7 \/ m = 31 \/ m = 127
end ST
namespace ST
open PySem PySem.SetTable
def Ris (xs:List Nat) : Prop := xs.Pairwise (· < ·)
structure Tb (t:SetTable) : Prop where
  msk:Msk t.mask
  dum:t.dummies = #[]
  ris:Ris t.place.toList
  le:∀ j ∈ t.place.toList,j <= t.mask
def Lv (t:SetTable) (j:Nat) : Prop := j ∈ t.place.toList
inductive PrSpec (t:SetTable) (ha:Nat -> Int) (h:Int) (p:Probe) : Option Met -> Prop
  | em (n:Nat) (e:¬ Lv t (it t.mask n p).j) (b:∀ k,k < n -> ∃ i,∃ hi:i < t.place.size,t.place[i] = (it t.mask k p).j /\ ha i ≠ h) : PrSpec t ha h p (some (.empty (it t.mask n p).j none))
  | ca (n i:Nat) (hi:i < t.place.size) (e:t.place[i] = (it t.mask n p).j) (q:ha i = h) (b:∀ k,k < n -> ∃ i,∃ hi:i < t.place.size,t.place[i] = (it t.mask k p).j /\ ha i ≠ h) :
    PrSpec t ha h p (some (.candidate (it t.mask n p).j i (it t.mask (n + 1) p)))
end ST
namespace ST
open PySem PySem.SetTable
def Rea (m:Nat) (lv:Nat -> Prop) (h:Int) (j:Nat) : Prop := ∃ n,(it m n (st m h)).j = j /\ ∀ k,k < n -> lv (it m k (st m h)).j
theorem Rea.mono {m:Nat} {lv lv':Nat -> Prop} {h:Int} {j:Nat} (r:Rea m lv h j) (s:∀ j,lv j -> lv' j) : Rea m lv' h j := let ⟨n,e,b⟩ := r; ⟨n,e,fun k hk => s _ (b k hk)⟩
structure Tbl {V:Type} (t:SetTable) (es:Array (Int × V)) : Prop where
  tb:Tb t
  len:t.place.size = es.size
  rea:∀ q ∈ t.place.toList.zip es.toList,Rea t.mask (· ∈ t.place.toList) q.2.1 q.1
def Spare (t:SetTable) : Prop := t.place.size * 5 < t.mask * 3
def ow (owner:Array (Option Nat)) (j:Nat) : Prop := ∃ k,owner[j]? = some (some k)
structure Own (m:Nat) (hs:List Int) (owner:Array (Option Nat)) : Prop where
  size:owner.size = m + 1
  all:∀ k:Nat,k < hs.length -> ∃ j:Nat,owner[j]? = some (some k)
  lt:∀ j k:Nat,owner[j]? = some (some k) -> k < hs.length
  rea:∀ (j k:Nat) (h:Int),owner[j]? = some (some k) -> hs[k]? = some h -> Rea m (ow owner) h j
  inj:∀ j j' k:Nat,owner[j]? = some (some k) -> owner[j']? = some (some k) -> j = j'
end ST
namespace ST
open PySem PySem.SetTable
structure Laid {V:Type} (m:Nat) (es es':Array (Int × V)) (t':SetTable) : Prop where
  tbl:Tbl t' es'
  mask:t'.mask = m
  size:es'.size = es.size
  mem:∀ x,x ∈ es'.toList ↔ x ∈ es.toList
  pw:∀ R:Int × V -> Int × V -> Prop,(∀ x y,R x y -> R y x) -> es.toList.Pairwise R -> es'.toList.Pairwise R
end ST
namespace ST
open PySem PySem.W PyProof.Rows
structure Lt (N:Nat) (lt:Nat -> Nat -> Bool) : Prop where
  irr:∀ i,lt i i = false
  tr:∀ i j k,lt i j = true -> lt j k = true -> lt i k = true
  tot:∀ i j,i < N -> j < N -> i ≠ j -> lt i j = true \/ lt j i = true
abbrev Cmp := Nat -> Nat -> (Bool -> Shared -> Prop) -> Shared -> Prop
def Pm (N:Nat) (p:Array Nat) : Prop := p.toList.Perm (List.range N)
def at0 (p:Array Nat) (i:Nat) : Nat := p.getD i 0
section
variable {N:Nat} {lt:Nat -> Nat -> Bool} {cmp:Cmp} {s:Shared} {p:Array Nat}
theorem Pm.size (h:Pm N p) : p.size = N := by have := h.length_eq; simpa using this
theorem Pm.ne (h:Pm N p) {i j:Nat} (hi:i < N) (hj:j < N) (e:i ≠ j) : at0 p i ≠ at0 p j := by
  have nd:p.toList.Nodup := h.nodup_iff.mpr List.nodup_range
  have hi':i < p.size := by rw [h.size]; exact hi
  have hj':j < p.size := by rw [h.size]; exact hj
  have gi:p.toList[i]'(by simpa using hi') = at0 p i := by simp [at0,Array.getD,hi']
  have gj:p.toList[j]'(by simpa using hj') = at0 p j := by simp [at0,Array.getD,hj']
  intro z
  rcases Nat.lt_or_gt_of_ne e with q | q
  · exact List.pairwise_iff_getElem.mp nd i j (by simpa using hi') (by simpa using hj') q (by rw [gi,gj]; exact z)
  · exact List.pairwise_iff_getElem.mp nd j i (by simpa using hj') (by simpa using hi') q (by rw [gi,gj]; exact z.symm)
def So (lt:Nat -> Nat -> Bool) (p:Array Nat) (k:Nat) : Prop := ∀ a b,a < b -> b < k -> lt (at0 p a) (at0 p b) = true
def De (lt:Nat -> Nat -> Bool) (p:Array Nat) (k:Nat) : Prop := ∀ a b,a < b -> b < k -> lt (at0 p b) (at0 p a) = true
theorem So.snoc (o:Lt N lt) {k:Nat} (h:So lt p k) (hk:1 <= k) (l:lt (at0 p (k - 1)) (at0 p k) = true) : So lt p (k + 1) := by
  intro a b hab hb
  by_cases e:b = k
  · subst e
    by_cases e2:a = b - 1
    · rw [e2]; exact l
    · exact o.tr _ _ _ (h a (b - 1) (by omega) (by omega)) l
  · exact h a b hab (by omega)
theorem De.snoc (o:Lt N lt) {k:Nat} (h:De lt p k) (hk:1 <= k) (l:lt (at0 p k) (at0 p (k - 1)) = true) : De lt p (k + 1) := by
  intro a b hab hb
  by_cases e:b = k
  · subst e
    by_cases e2:a = b - 1
    · rw [e2]; exact l
    · exact o.tr _ _ _ l (h a (b - 1) (by omega) (by omega))
  · exact h a b hab (by omega)
end
end ST
namespace L2
open PySem PySem.Spec PySem.Calls PyProof.Rows ST
abbrev iK (ns:List Int) : List Key := ns.map Sum.inl
section
variable {prog:Program} {w:World} {A:Around} {E:Value -> Shared -> Prop} {s:Shared}
end
end L2
namespace L2
open PySem PySem.Spec PySem.Calls PyProof.Rows ST
section
variable {prog:Program} {w:World} {A:Around} {E:Value -> Shared -> Prop} {s:Shared}
end
end L2
namespace L2
open PySem PySem.Spec PySem.Calls PyProof.Rows ST
def byT (w : World) : Bool := w.params.followText "set-order"
def SetAt (w:World) (h:Heap) (a:Addr) (es:Array (Int × Value)) : Prop := ∃ o ep t,h.get? a = some o /\ o.ExactSet /\ o.data = .set es ep t /\ Tbl t es /\ Spare t /\ t.plain = true /\ t.led = !byT w
theorem SetAt.keep {w:World} {h h':Heap} {a:Addr} {es:Array (Int × Value)} (x:SetAt w h a es) (k:∀ o,h.get? a = some o -> h'.get? a = some o) : SetAt w h' a es := let ⟨o,ep,t,e,r⟩ := x; ⟨o,ep,t,k o e,r⟩
section
variable {prog:Program} {w:World} {A:Around} {E:Value -> Shared -> Prop} {s:Shared}
structure Grown (es es':Array (Int × Value)) (x:Int × Value) : Prop where
  mem:∀ y,y ∈ es'.toList ↔ y = x \/ y ∈ es.toList
  pw:∀ R:Int × Value -> Int × Value -> Prop,(∀ x y,R x y -> R y x) -> es.toList.Pairwise R -> (∀ e ∈ es.toList,R e x) -> es'.toList.Pairwise R
  size:es'.size = es.size + 1
theorem Grown.laid {es es1 es2:Array (Int × Value)} {x:Int × Value} {m:Nat} {t:SetTable} (g:Grown es es1 x) (l:Laid m es1 es2 t) : Grown es es2 x :=
  ⟨fun y => (l.mem y).trans (g.mem y),fun R sy pw hx => l.pw R sy (g.pw R sy pw hx),by rw [l.size,g.size]⟩
end
end L2
namespace L2
open PySem PySem.Spec PySem.Calls PyProof.Rows ST
section
variable {prog:Program} {w:World} {A:Around} {E:Value -> Shared -> Prop} {s:Shared}
end
end L2
namespace L2
open PySem PySem.Spec PySem.Calls PyProof.Rows ST
abbrev TItem := List Int × Addr
section
variable {prog:Program} {w:World}
structure SInv (prog:Program) (w:World) (es:Array (Int × Value)) (xs:List TItem) : Prop where
  el:∀ e ∈ es.toList,∃ x ∈ xs,e = ((tK prog w).hash (iK x.1),Value.ref x.2)
  sz:es.size <= xs.length
  pw:es.toList.Pairwise fun e e' => ∀ x x':TItem,e = ((tK prog w).hash (iK x.1),Value.ref x.2) -> e' = ((tK prog w).hash (iK x'.1),Value.ref x'.2) -> x ∈ xs -> x' ∈ xs -> x.1 ≠ x'.1
  all:∀ x ∈ xs,∃ y ∈ xs,y.1 = x.1 /\ ((tK prog w).hash (iK y.1),Value.ref y.2) ∈ es.toList
variable {A:Around} {R:Result -> Shared -> Prop} {I:Addr} {fp wr:List Addr} {G:Array GenState -> Array GenState -> Prop} {n:Nat} {P:Nat -> Value -> Prop} {St:Nat -> Shared -> Prop}
def Uni (xs:List TItem) : Prop := ∀ x ∈ xs,∀ y ∈ xs,x.2 = y.2 -> x.1 = y.1
theorem SInv.new {es es':Array (Int × Value)} {xs:List TItem} {x:TItem} (v:SInv prog w es xs) (hin:¬ ∃ y ∈ xs,y.1 = x.1) (un:Uni (xs ++ [x])) (g:Grown es es' ((tK prog w).hash (iK x.1),.ref x.2)) : SInv prog w es' (xs ++ [x]) := by
  have hx:x ∈ xs ++ [x] := List.mem_append_right _ (List.mem_singleton.mpr rfl)
  refine ⟨fun e he => ?_,?_,?_,fun y hy => ?_⟩
  · rcases (g.mem e).mp he with rfl | he
    · exact ⟨x,hx,rfl⟩
    · obtain ⟨z,h1,h2⟩ := v.el e he
      exact ⟨z,List.mem_append_left _ h1,h2⟩
  · have := v.sz; rw [g.size]; simp; omega
  · refine g.pw _ (fun a b hab z z' e1 e2 m1 m2 h => hab z' z e2 e1 m2 m1 h.symm) ?_ ?_
    · refine List.Pairwise.imp_of_mem (fun {a b} ha hb hab z z' e1 e2 m1 m2 => ?_) v.pw
      obtain ⟨y,y1,y2⟩ := v.el a ha
      obtain ⟨y',y1',y2'⟩ := v.el b hb
      have q1:z.2 = y.2 := by rw [e1] at y2; simp only [Prod.mk.injEq,Value.ref.injEq] at y2; exact y2.2
      have q2:z'.2 = y'.2 := by rw [e2] at y2'; simp only [Prod.mk.injEq,Value.ref.injEq] at y2'; exact y2'.2
      rw [un z m1 y (List.mem_append_left _ y1) q1,un z' m2 y' (List.mem_append_left _ y1') q2]
      exact hab y y' y2 y2' y1 y1'
    · intro e he z z' e1 e2 m1 m2 h
      obtain ⟨y,y1,y2⟩ := v.el e he
      have q1:z.2 = y.2 := by rw [e1] at y2; simp only [Prod.mk.injEq,Value.ref.injEq] at y2; exact y2.2
      have q2:z'.2 = x.2 := by simp only [Prod.mk.injEq,Value.ref.injEq] at e2; exact e2.2.symm
      have a1 := un z m1 y (List.mem_append_left _ y1) q1
      have a2 := un z' m2 x hx q2
      exact hin ⟨y,y1,by rw [<- a1,<- a2]; exact h⟩
  · rcases List.mem_append.mp hy with hy | hy
    · obtain ⟨z,h1,h2,h3⟩ := v.all y hy
      exact ⟨z,List.mem_append_left _ h1,h2,(g.mem _).mpr (.inr h3)⟩
    · rw [List.mem_singleton] at hy; subst hy
      exact ⟨y,hx,rfl,(g.mem _).mpr (.inl rfl)⟩
end
end L2
namespace L2
open PySem PySem.Spec PySem.Calls PyProof.Rows ST
section
variable {prog:Program} {w:World} {A:Around} {E:Value -> Shared -> Prop} {s:Shared}
end
end L2
namespace L2
open PySem PySem.Spec PySem.Calls PyProof.Rows ST
def SetIt (h : Heap) (it S : Addr) (slot i n ep : Nat) : Prop := ∃ o, h.get? it = some o /\ o.cls = .type "set_iterator" /\ o.data = .fields #[.int slot 0, .int i 0, .ref S, .int n 0, .int ep 0]
theorem SetIt.typeIs {s : Shared} {it S : Addr} {slot i n ep : Nat} (x : SetIt s.heap it S slot i n ep) : s.TypeIs (.ref it) "set_iterator" := let ⟨o, ho, hc, _⟩ := x; ⟨o, ho, hc⟩
section
variable {prog:Program} {w:World} {A:Around} {E:Value -> Shared -> Prop} {s:Shared}
end
end L2
namespace L2
open PySem PySem.Spec PySem.Calls PyProof.Rows ST
section
variable {prog:Program} {w:World} {A:Around} {E:Value -> Shared -> Prop} {s:Shared}
end
end L2
namespace L2
open PySem PySem.Spec PySem.Calls PyProof.Rows ST
section
variable {prog:Program} {w:World} {A:Around} {E:Value -> Shared -> Prop} {s:Shared}
end
end L2
namespace L2
open PySem PySem.Spec PySem.Calls PyProof.Rows ST
def lexB:List Int -> List Int -> Bool
  | [],[] => false
  | [],_ :: _ => true
  | _ :: _,[] => false
  | a :: x,b :: y => if a = b then lexB x y else decide (a < b)
section
variable {prog:Program} {w:World} {A:Around} {E:Value -> Shared -> Prop} {s:Shared}
structure Tups (prog:Program) (w:World) (h:Heap) (xs:List TItem) : Prop where
  is:∀ x ∈ xs,(tK prog w).is h (iK x.1) x.2
  ne:∀ x ∈ xs,x.1 ≠ []
  nd:(xs.map (·.1)).Nodup
theorem Tups.keep {h h':Heap} {xs:List TItem} (t:Tups prog w h xs) (k:∀ b o,h.get? b = some o -> h'.get? b = some o) : Tups prog w h' xs := ⟨fun x hx => is_keep (t.is x hx) k,t.ne,t.nd⟩
end
end L2
namespace L2
open PySem PySem.Spec PySem.Calls PyProof.Rows ST
section
variable {prog:Program} {w:World} {A:Around} {E:Value -> Shared -> Prop} {s:Shared}
end
end L2
namespace L2
open PySem PySem.Spec PySem.Calls PyProof.Rows ST
section
variable {prog:Program} {w:World} {A:Around} {E:Value -> Shared -> Prop} {s:Shared}
structure SortedOf (its ys:List TItem) : Prop where
  sub:∀ y ∈ ys,y ∈ its
  all:∀ x ∈ its,∃ y ∈ ys,y.1 = x.1
  pw:ys.Pairwise fun x y => lexB x.1 y.1 = true
end
end L2
namespace L2
open PySem PySem.Spec PySem.Calls PyProof.Rows ST
def TupsIn (H:Hp) : List V -> List TItem -> Prop := Paired fun v x => v = .ref x.2 /\ H x.2 = some (.tup ((iK x.1).map kV))
theorem TupsIn.get {H:Hp} : ∀ {vs:List V} {us:List Value} {its:List TItem},TupsIn H vs its -> Vals vs us -> its.length = us.length /\ (∀ (i:Nat) (v:Value),us[i]? = some v -> ∃ x:TItem,its[i]? = some x /\ v = .ref x.2) /\ ∀ x ∈ its,H x.2 = some (.tup ((iK x.1).map kV))
  | _,_,_,.nil,.nil => ⟨rfl,fun i v e => by simp at e,fun x hx => nomatch hx⟩
  | _,_,_,.cons (a := v) (b := y) q t,.cons (b := u) r s => by
    obtain ⟨a,b,c⟩ := TupsIn.get t s
    obtain ⟨rfl,q⟩ := q
    obtain rfl:u = Value.ref y.2 := r
    refine ⟨by simp [a],fun i v e => ?_,fun x hx => ?_⟩
    · cases i with
      | zero => simp at e; exact ⟨y,rfl,e.symm⟩
      | succ i => exact b i v (by simpa using e)
    · rcases List.mem_cons.mp hx with rfl | hx
      · exact q
      · exact c x hx
section
variable {X:Cx}
end
end L2
namespace L2
open PySem PySem.Spec PySem.Calls PyProof.Rows
theorem KV.at {a:List (Key × V)} {b:List (Key × Value)} (r:KV a b) : ∀ (i:Nat) p q,a[i]? = some p -> b[i]? = some q -> p.1 = q.1 /\ RelV p.2 q.2 := by
  induction r with
  | nil => intro i p q e; simp at e
  | cons hq t ih =>
    intro i p q e1 e2
    cases i with
    | zero => simp at e1 e2; subst e1 e2; exact hq
    | succ i => exact ih i p q (by simpa using e1) (by simpa using e2)
section
variable {X:Cx} {es:List Expr} {k0:Nat} {tpos:Pos}
end
end L2
namespace L2
open PySem PySem.Spec PySem.Calls PyProof.Rows
section
variable {X:Cx}
end
section
open PySem.MeetsSeq PySem.SeqAt
open PySem.AutoSeq1 (wpAny_loadPart')
end
def minL:List Int -> Int
  | [] => 0
  | x :: r => r.foldl (fun a b => if b < a then b else a) x
theorem minL_snoc {l:List Int} (h:l ≠ []) (z:Int) : minL (l ++ [z]) = if z < minL l then z else minL l := by
  cases l with
  | nil => exact (h rfl).elim
  | cons x r => show (r ++ [z]).foldl _ x = _; rw [List.foldl_append]; rfl
theorem best_min (xs:Array (Int × Tok)) : ∀ k,k < xs.size -> numAt xs (argBest (fun i j => decide (numAt xs i < numAt xs j)) k) = minL ((xs.toList.map (·.1)).take (k + 1))
  | 0,h => by
    have e:xs.toList.map (·.1) ≠ [] := fun z => by
      have := congrArg List.length z
      simp at this; rw [this] at h; simp at h
    cases q:xs.toList.map (·.1) with
    | nil => exact (e q).elim
    | cons y r =>
      have:(xs[0]?.map (·.1)) = some y := by rw [<- Array.getElem?_toList,<- List.getElem?_map,q]; rfl
      show numAt xs 0 = y
      unfold numAt; rw [this]; rfl
  | k + 1,h => by
    have ih := best_min xs k (by omega)
    have ez:(xs.toList.map (·.1))[k + 1]? = some (numAt xs (k + 1)) := by
      rw [List.getElem?_map,Array.getElem?_toList]
      unfold numAt
      rw [Array.getElem?_eq_getElem h]; rfl
    have et:(xs.toList.map (·.1)).take (k + 1 + 1) = (xs.toList.map (·.1)).take (k + 1) ++ [numAt xs (k + 1)] := by
      rw [List.take_succ,ez]; rfl
    have ne:(xs.toList.map (·.1)).take (k + 1) ≠ [] := fun z => by
      have h9 := congrArg List.length z
      rw [List.length_take,List.length_map,Array.length_toList,List.length_nil] at h9
      omega
    rw [et,minL_snoc ne,<- ih]
    show numAt xs (if (decide (numAt xs (k + 1) < numAt xs (argBest _ k))) = true then k + 1 else argBest _ k) = _
    by_cases hl:numAt xs (k + 1) < numAt xs (argBest (fun i j => decide (numAt xs i < numAt xs j)) k)
    · rw [if_pos (decide_eq_true hl),if_pos hl]
    · rw [if_neg (by simpa using hl),if_neg hl]
theorem ints_items:∀ {ns:List Int} {its:List Value},Vals (ns.map V.int) its -> ∃ ps:List (Int × Tok),its = ps.map (fun p => .int p.1 p.2) /\ ps.map (·.1) = ns
  | [],_,h => by cases h; exact ⟨[],rfl,rfl⟩
  | n :: ns,_,h => by
    cases h with
    | cons r rr =>
      obtain ⟨t,rfl⟩ := r
      obtain ⟨ps,rfl,e⟩ := ints_items rr
      exact ⟨(n,t) :: ps,rfl,by rw [List.map_cons,e]⟩
theorem call_minL {X : Cx} (hc : X.calm = true) : CallR X (.builtin "min") (fun xs H Q => ∃ p ns, xs = [.ref p] /\ SqL X.K H p (ns.map V.int) /\ ns ≠ [] /\ Q (.int (minL ns)) H) := by
  intro pins s σ H xs us Q I r h
  obtain ⟨p,ns,rfl,hq,hne,q⟩ := h
  obtain ⟨u,rfl,rx⟩ := vals1 r
  cases rx
  obtain ⟨its,rv,pl,hz⟩ := I.list hq
  obtain ⟨ps,rfl,e⟩ := ints_items rv
  have hl:s.heap.IsList p (intItems ps.toArray) := by
    have:intItems ps.toArray = (ps.map (fun p => Value.int p.1 p.2)).toArray := by simp [intItems]
    rw [this]; exact pl.isList
  have hpos:0 < ps.toArray.size := by
    cases ps with
    | nil => exact (hne e.symm).elim
    | cons _ _ => simp
  refine min_intList (I.ok.hd hc) hl hpos fun v h' tk ev kp => ?_
  obtain ⟨t,rfl⟩ := intItems_at ev
  rw [best_min ps.toArray _ (by omega)]
  have ef:(ps.toArray.toList.map (·.1)).take (ps.toArray.size - 1 + 1) = ns := by
    rw [List.take_of_length_le (by simp; omega)]
    simpa using e
  rw [ef]
  exact ⟨.int (minL ns),H,I.kept (t' := tk) kp,⟨t,rfl⟩,q⟩
end L2
namespace L2
open PySem PySem.Spec PyProof.Rows
def tTake2 (X : Cx) (Ch Ch2 : Addr) (ts ts2 : TS) (D : Ends) (σ : St) : XK := fun cls _ H1 => ∃ C, cls = .ref C /\ PySem.W.excIn X.K C vMro "ValueError.__new__" = true /\
  (((mroK X.K C).contains (.ref Ch) = true /\ ts D σ H1) \/ ((mroK X.K C).contains (.ref Ch) = false /\ (mroK X.K C).contains (.ref Ch2) = true /\ ts2 D σ H1))
section
variable {X:Cx} {hc hc2:Str} {Ch Ch2:Addr} {np hpos np2 hpos2 pos epos:Pos} {b₀ c₀:Stmt} {suite suite2:List Stmt} {ts ts2:TS} {te:TX} {e:Expr}
theorem take_two {pins:List (Addr × Obj)} {σ:St} {D:Ends} {ev:Value} {s':Shared} (hst:X.stack = X.env :: X.outer) (hf:X.env.frame = some X.env.locals) (hx:XC X.K X.mg hc Ch) (hg:Gl X hc) (hx2:XC X.K X.mg hc2 Ch2) (hg2:Gl X hc2) (hs:∀ x,PSs (X.caught x) (b₀ :: suite) ts) (hs2:∀ x,PSs (X.caught x) (c₀ :: suite2) ts2)
    (h : ∃ H1 s1, Inv X pins σ H1 s1 /\ CX1 X.prog X.w X.stack H1 s1 (tTake2 X Ch Ch2 ts ts2 D σ) ev s') (hdb : (hc == ("__debug__" : Str)) = false := by decide) (hdb2 : (hc2 == ("__debug__" : Str)) = false := by decide) :
    wpAny (model X.prog X.w) X.A (noteFrame ev X.env) (fun _ s2 => wpAny (model X.prog X.w) X.A (setFlight ev none) (fun _ s3 => wpAny (model X.prog X.w) X.A (handleBy ev X.env [.ExceptHandler (some (.Name hc np)) none (b₀ :: suite) hpos,.ExceptHandler (some (.Name hc2 np2)) none (c₀ :: suite2) hpos2]) (SP X pins D) X.xe s3) X.xe s2) X.xe s' := by
  obtain ⟨H1,s1,I1,x,C,t,B,H',rfl,os,bare,un,hok,fly,trk,unt,inB,hxn,C0,ec,hex,hmr⟩ := h
  cases ec
  have fly':Heap.FlyingW B (X.env :: X.outer) x (.ref C) (.ref t) s'.heap := hst ▸ fly
  have fr:X.A.frames = some (X.env :: X.outer) := hst ▸ I1.ok.frames
  refine wpAny_looks_onW fr hf fly' fun h4 held up4 => ?_
  refine wpAny_landsW held fun h5 fly5 up5 => ?_
  have up45 := up4.trans up5
  have I5:Inv X pins σ H' { s' with heap := h5 } := I1.landed (l := []) (g6 := #[]) os bare un hok fly trk unt inB fly5.1 up45
  obtain ⟨bm,em,hC⟩ := clsAt_of I5.kIn hex
  obtain ⟨bm',em',hC'⟩ := clsAt_of I5.kIn hx.ex
  obtain ⟨bm2,em2,hC2⟩ := clsAt_of I5.kIn hx2.ex
  obtain ⟨oe,he,hcls⟩ := fly5.there
  refine wpAny_handleBy_cons (codeAny_handlers_test (ld_glob (X := X.caught x) (I5.caught x) hg hx.gl ?_ hdb)) (by intro z; cases z)
  refine matches_above hC hC' he hcls ?_
  rw [em] at hmr
  rcases hmr with ⟨hm,q⟩ | ⟨hm,hm2,q⟩
  · rw [hm]
    refine codeAny_handlers_suite ?_
    refine lands_againW fly5 fun h6 fly6 up6 => ?_
    have I6:Inv X pins σ H' { s' with heap := h6 } := I1.landed (l := []) (g6 := #[]) os bare un hok fly trk unt inB fly6.1 (up45.trans up6)
    exact wpAny_mono (hs x pins _ σ H' D (I6.caught x) q) (fun f s7 h7 => h7.uncaught I6.ok) fun _ _ z => False.elim z
  · rw [hm]
    refine wpAny_handleBy_cons (codeAny_handlers_test (ld_glob (X := X.caught x) (I5.caught x) hg2 hx2.gl ?_ hdb2)) (by intro z; cases z)
    refine matches_above hC hC2 he hcls ?_
    rw [hm2]
    refine codeAny_handlers_suite ?_
    refine lands_againW fly5 fun h6 fly6 up6 => ?_
    have I6:Inv X pins σ H' { s' with heap := h6 } := I1.landed (l := []) (g6 := #[]) os bare un hok fly trk unt inB fly6.1 (up45.trans up6)
    exact wpAny_mono (hs2 x pins _ σ H' D (I6.caught x) q) (fun f s7 h7 => h7.uncaught I6.ok) fun _ _ z => False.elim z
theorem ps_tryA2 {i:Nat} {y:Str} {py:Pos} (hN:X.N.Nodup) (hi:X.N[i]? = some y) (hy:Loc X.env.scope y) (hst:X.stack = X.env :: X.outer) (hf:X.env.frame = some X.env.locals) (hx:XC X.K X.mg hc Ch) (hg:Gl X hc) (hx2:XC X.K X.mg hc2 Ch2) (hg2:Gl X hc2) (he:PEX X e te) (hs:∀ x,PSs (X.caught x) (b₀ :: suite) ts) (hs2:∀ x,PSs (X.caught x) (c₀ :: suite2) ts2)
    (hsw : swapsWith e (some (.Name y py)) epos.line X.env = pure false := by rfl) (hdb : (hc == ("__debug__" : Str)) = false := by decide) (hdb2 : (hc2 == ("__debug__" : Str)) = false := by decide) (hfn : X.fn y = true \/ X.env.scope.names.lookup y = some .local := by first | exact .inl rfl | exact .inr rfl | assumption) :
    PS X (.Try [.Assign [.Name y py] e epos] [.ExceptHandler (some (.Name hc np)) none (b₀ :: suite) hpos,.ExceptHandler (some (.Name hc2 np2)) none (c₀ :: suite2) hpos2] [] [] pos) (fun D σ H => te σ H (fun v H1 => D.nx (σ.set i (some v)) H1) (tTake2 X Ch Ch2 ts ts2 D σ)) := by
  intro pins s σ H D I h
  refine wpAny_Try_except ?_
  refine wpAny_execs_cons (wpAny_Assign_Name (wpAny_mono (he pins s σ H _ _ I h) (fun v s1 ⟨z,H1,I1,r1,q1⟩ => ?_) fun ev s' z => ?_) hsw)
  · exact store_ok I1 hN hi hy r1 (fun s2 I2 => wpAny_execs_nil (wpAny_execs_nil ⟨_,H1,I2,q1⟩)) hfn
  · exact take_two hst hf hx hg hx2 hg2 hs hs2 z hdb hdb2
end
end L2
namespace L2
open PySem PySem.Spec PyProof.Rows
open Sem (wp)
open Builtin
section
variable {prog:Program} {w:World} {A:Around} {E:Value -> Shared -> Prop} {s:Shared}
theorem tnext {j t:Addr} {n:Nat} {xs:Array Value} {x:Value} {Q:Value -> Shared -> Prop} (hj:IsTupIter s.heap j t n) (ht:IsTup s.heap t xs) (hx:xs[n]? = some x)
    (q:∀ g,IsTupIter g j t (n + 1) -> Heap.SameBut j s.heap g -> Q x { s with heap := g }) : wpAny (model prog w) A (Builtin.SmallTypes.nextOf (.ref j)) Q E s := by
  obtain ⟨u,hu,cu,du⟩ := id hj
  obtain ⟨ut,hut,_,m,dut⟩ := ht
  unfold Builtin.SmallTypes.nextOf
  refine wpAny_bind (wpAny_callSpecial?_slot (name := Str.ofString "__next__") hj.typeIs slot_tupleiter_next (wpAny_call_entry slot_tupleiter_next hj.typeIs entry_tupleiter_next ?_ (args_tupleiter_next _)))
  show wpAny _ _ (field (.ref j) 0 >>= _) _ _ s; refine wpAny_bind (wpAny_field hu du (x := .ref t) rfl ?_)
  show wpAny _ _ (if (Value.ref t == Value.none) = true then _ else _) _ _ s; rw [if_neg (show ¬ ((Value.ref t == Value.none) = true) from Bool.false_ne_true)]
  show wpAny _ _ (field (.ref j) 1 >>= _) _ _ s; refine wpAny_bind (wpAny_field hu du (x := .int n 0) rfl ?_)
  show wpAny _ _ (seqItems? (.ref t) >>= _) _ _ s; refine wpAny_bind (wpAny_seqItems hut dut ?_); simp only [Int.toNat_natCast,hx]
  refine wpAny_bind (wpAny_setField hu du (by simp) (wpAny_pure ⟨x,rfl,wpAny_pure (q _ ⟨_,Heap.get?_update_self _ hu (Obj.isFreed_of_fields (Obj.data_mapFields du _)),(Obj.cls_mapFields ..).trans cu,by rw [Obj.data_mapFields du]; simp [rawInt]⟩ (Heap.SameBut.update ..))⟩))
theorem tstop {j t:Addr} {n:Nat} {xs:Array Value} {Q:Value -> Shared -> Prop} (hh:A.handled = none) (hj:IsTupIter s.heap j t n) (ht:IsTup s.heap t xs) (hx:xs[n]? = none)
    (q : ∀ g e, Heap.ExtBut j s.heap g -> (∃ u, g.get? e = some u /\ u.cls = .type "StopIteration") -> E (.ref e) { s with heap := g }) : wpAny (model prog w) A (Builtin.SmallTypes.nextOf (.ref j)) Q E s := by
  obtain ⟨u,hu,cu,du⟩ := id hj
  obtain ⟨ut,hut,_,m,dut⟩ := ht
  unfold Builtin.SmallTypes.nextOf
  refine wpAny_bind (wpAny_callSpecial?_slot (name := Str.ofString "__next__") hj.typeIs slot_tupleiter_next (wpAny_call_entry slot_tupleiter_next hj.typeIs entry_tupleiter_next ?_ (args_tupleiter_next _)))
  show wpAny _ _ (field (.ref j) 0 >>= _) _ _ s; refine wpAny_bind (wpAny_field hu du (x := .ref t) rfl ?_)
  show wpAny _ _ (if (Value.ref t == Value.none) = true then _ else _) _ _ s; rw [if_neg (show ¬ ((Value.ref t == Value.none) = true) from Bool.false_ne_true)]
  show wpAny _ _ (field (.ref j) 1 >>= _) _ _ s; refine wpAny_bind (wpAny_field hu du (x := .int n 0) rfl ?_)
  show wpAny _ _ (seqItems? (.ref t) >>= _) _ _ s; refine wpAny_bind (wpAny_seqItems hut dut ?_); simp only [Int.toNat_natCast,hx]
  refine wpAny_bind (wpAny_rule (wpAny_bind (wpAny_setField hu du (by simp) ?_))); show wpAny _ _ (newExc (.type "StopIteration") [] >>= _) _ _ _
  refine wpAny_bind ?_; simp only [newExc,newTuple]; refine wpAny_bind (wpAny_newObj_type ?_ (by size_fits)); refine wpAny_bind (m := firstArgMember _ _) (wpAny_of_eq (a := Value.none) (by first | rfl | (simp only [firstArgMember]; rfl)) ?_)
  refine wpAny_newObj_type ?_ (by size_fits); simp only [raiseNew]; refine wpAny_bind (wpAny_handled ?_); first | rw [show A.in1.handled = none from hh] | rw [hh]
  refine wpAny_bind (wpAny_pure (wpAny_throw (q _ _ (((Heap.SameBut.update ..).extBut.push _).push _) ⟨_,Heap.get?_push_size _ rfl,rfl⟩)))
theorem IsTupIter.at {h h':Heap} {a t:Addr} {i:Nat} (x:IsTupIter h a t i) (e:∀ o,h.get? a = some o -> h'.get? a = some o) : IsTupIter h' a t i := let ⟨o,ho,r⟩ := x; ⟨o,e o ho,r⟩
theorem tzip_item {z P O i j a b:Addr} {m n:Nat} {xs ys:Array Value} {x y c d:Value} {Q:Option Value -> Shared -> Prop} (N:ZipApart z P O i j a b) (hz:IsZip s.heap z P O .none) (hP:IsPair s.heap P (.ref i) (.ref j)) (hO:IsPair s.heap O c d)
    (hi:IsTupIter s.heap i a m) (hj:IsTupIter s.heap j b n) (ha:IsTup s.heap a xs) (hb:IsTup s.heap b ys) (hx:xs[m]? = some x) (hy:ys[n]? = some y)
    (q:∀ g,IsZip g z P O (rawInt s.heap.objs.size) -> IsPair g O x y -> IsTupIter g i a (m + 1) -> IsTupIter g j b (n + 1) -> IsPair g s.heap.objs.size x y -> g.objs.size = s.heap.objs.size + 1 ->
      (∀ k o,k ≠ z -> k ≠ O -> k ≠ i -> k ≠ j -> s.heap.get? k = some o -> g.get? k = some o) -> Q (some (.ref s.heap.objs.size)) { s with heap := g }) : wpAny (model prog w) A (pyNext (.ref z)) Q E s := by
  have hT : s.TypeIs (.ref z) "zip" := ⟨_, hz, rfl⟩
  unfold pyNext
  refine wpAny_bind (wpAny_attempt (wpAny_callSpecial?_slot (name := Str.ofString "__next__") hT F.slot_zip_next (wpAny_call_entry F.slot_zip_next hT F.entry_zip_next ?_ (F.args_zip_next_1 _))))
  show wpAny _ _ (field (.ref z) 2 >>= _) _ _ _; refine wpAny_bind (wpAny_field hz rfl (x := .bool false) rfl ?_); show wpAny _ _ (field (.ref z) 3 >>= _) _ _ _
  refine wpAny_bind (wpAny_field hz rfl (x := .ref P) rfl ?_); refine wpAny_bind (wpAny_seqItems hP rfl ?_); show wpAny _ _ (Builtin.SmallTypes.ownedTupleIsFree (.ref z) >>= _) _ _ _
  refine wpAny_bind ?_; unfold Builtin.SmallTypes.ownedTupleIsFree; refine wpAny_bind (wpAny_field hz rfl (x := .none) rfl (wpAny_pure ?_)); simp only [if_true]; refine wpAny_bind (wpAny_rule ?_)
  refine wpAny_bind (wpAny_field hz rfl (x := .ref O) rfl ?_); refine wpAny_bind (wpAny_setField_rec hz (by simp) fun g1 z1 k1 => ?_)
  replace z1:IsZip g1 z P O .ellipsis := z1
  refine wpAny_bind ?_; simp only [List.zipIdx_cons,List.zipIdx_nil,List.forIn_cons,List.forIn_nil]
  refine wpAny_bind (wpAny_bind (wpAny_onRaise ?_)); show wpAny _ _ (Builtin.SmallTypes.nextOf (.ref i) >>= _) _ _ _
  refine wpAny_bind (tnext (hi.extBut k1.extBut N.i1z) (ha.extBut k1.extBut N.l1z) hx fun g2 i2 k2 => wpAny_pure ?_)
  have O2:IsPair g2 O c d := k2.extBut _ _ N.TOi1 (k1.extBut _ _ N.TOz hO)
  refine wpAny_bind (wpAny_seqItems O2 rfl ?_); refine wpAny_bind (wpAny_updateSeq_pair O2 fun g3 O3 k3 => ?_)
  replace O3:IsPair g3 O x d := O3
  refine wpAny_bind (wpAny_letGo (wpAny_pure ?_)); refine wpAny_bind (wpAny_bind (wpAny_onRaise ?_)); show wpAny _ _ (Builtin.SmallTypes.nextOf (.ref j) >>= _) _ _ _
  refine wpAny_bind (tnext (((hj.extBut k1.extBut N.i2z).extBut k2.extBut N.i12.symm).extBut k3.extBut N.TOi2.symm) (((hb.extBut k1.extBut N.l2z).extBut k2.extBut N.l2i1).extBut k3.extBut N.l2TO) hy fun g4 j4 k4 => wpAny_pure ?_)
  have O4:IsPair g4 O x d := k4.extBut _ _ N.TOi2 O3
  refine wpAny_bind (wpAny_seqItems O4 rfl ?_); refine wpAny_bind (wpAny_updateSeq_pair O4 fun g5 O5 k5 => ?_)
  replace O5:IsPair g5 O x y := O5
  refine wpAny_bind (wpAny_letGo (wpAny_pure (wpAny_pure ?_))); refine wpAny_bind (wpAny_seqItems O5 rfl ?_); refine wpAny_bind (wpAny_newTuple ?_)
  have sz:g5.objs.size = s.heap.objs.size := by rw [k5.1,k4.1,k3.1,k2.1,k1.1]
  have z5:IsZip g5 z P O .ellipsis := k5.extBut _ _ N.TOz.symm (k4.extBut _ _ N.i2z.symm (k3.extBut _ _ N.TOz.symm (k2.extBut _ _ N.i1z.symm z1)))
  have kk:∀ k o,k ≠ z -> k ≠ O -> k ≠ i -> k ≠ j -> s.heap.get? k = some o -> g5.get? k = some o := fun k o n1 n2 n3 n4 e => k5.extBut _ _ n2 (k4.extBut _ _ n4 (k3.extBut _ _ n2 (k2.extBut _ _ n3 (k1.extBut _ _ n1 e))))
  have i5:IsTupIter g5 i a (m + 1) := ((i2.extBut k3.extBut N.TOi1.symm).extBut k4.extBut N.i12).extBut k5.extBut N.TOi1.symm
  have j5:IsTupIter g5 j b (n + 1) := j4.extBut k5.extBut N.TOi2.symm
  have zlt:z < g5.objs.size := Heap.lt_size z5
  show wpAny _ _ (Builtin.SmallTypes.ownedTupleHandOut (.ref z) (.ref g5.objs.size) >>= _) _ _ _
  refine wpAny_bind ?_; unfold Builtin.SmallTypes.ownedTupleHandOut
  have z6 : IsZip (g5.push { cls := .type "tuple", data := .seq #[x, y] }) z P O .ellipsis := Heap.get?_push_of_some _ z5
  refine wpAny_bind (wpAny_setField_rec z6 (by simp) fun g7 z7 k7 => ?_)
  replace z7:IsZip g7 z P O (rawInt g5.objs.size) := z7
  refine wpAny_setField_rec z7 (by simp) fun g8 z8 k8 => ?_
  replace z8:IsZip g8 z P O (rawInt g5.objs.size) := z8
  have up:∀ k o,k ≠ z -> g5.get? k = some o -> g8.get? k = some o := fun k o n1 e => k8.extBut _ _ n1 (k7.extBut _ _ n1 (Heap.get?_push_of_some _ e))
  have T8:IsPair g8 g5.objs.size x y := k8.extBut _ _ (Nat.ne_of_gt zlt) (k7.extBut _ _ (Nat.ne_of_gt zlt) (Heap.get?_push_size _ rfl))
  have s8:g8.objs.size = g5.objs.size + 1 := by rw [k8.1,k7.1,Heap.size_push]
  rw [sz] at z8 T8 s8
  refine wpAny_pure ⟨_,rfl,?_⟩
  refine wpAny_pure ?_
  show Q (some (.ref g5.objs.size)) _
  rw [sz]
  exact q g8 z8 (up _ _ N.TOz O5) (IsTupIter.at i5 fun o e => up _ o N.i1z e) (IsTupIter.at j5 fun o e => up _ o N.i2z e) T8 s8 fun k o n1 n2 n3 n4 e => up k o n1 (kk k o n1 n2 n3 n4 e)
theorem tzip_end {z P O i j a b:Addr} {m n:Nat} {xs ys:Array Value} {c d:Value} {Q:Option Value -> Shared -> Prop} (hh:A.handled = none) (N:ZipApart z P O i j a b) (hz:IsZip s.heap z P O .none) (hP:IsPair s.heap P (.ref i) (.ref j)) (hO:IsPair s.heap O c d)
    (hi:IsTupIter s.heap i a m) (hj:IsTupIter s.heap j b n) (ha:IsTup s.heap a xs) (hb:IsTup s.heap b ys) (hx:xs[m]? = none \/ ys[n]? = none)
    (q:∀ g,(∀ k o,k ≠ z -> k ≠ O -> k ≠ i -> k ≠ j -> s.heap.get? k = some o -> g.get? k = some o) -> Q none { s with heap := g }) : wpAny (model prog w) A (pyNext (.ref z)) Q E s := by
  have hT : s.TypeIs (.ref z) "zip" := ⟨_, hz, rfl⟩
  have fin : ∀ (g : Heap) (e : Addr), (∀ k o, k ≠ z -> k ≠ O -> k ≠ i -> k ≠ j -> s.heap.get? k = some o -> g.get? k = some o) -> (∃ u, g.get? e = some u /\ u.cls = .type "StopIteration") -> wpAny (model prog w) A (do if <- isInstance (.ref e) (.type "StopIteration") then pure none else throw (.ref e) : Sem (Option Value)) Q E { s with heap := g } := fun g e kp ⟨u, hu, cu⟩ =>
    wpAny_bind (wpAny_isInstance (T := "StopIteration") (b := true) ⟨u, hu, cu⟩ isSubtype_stop (wpAny_pure (q g kp)))
  unfold pyNext
  refine wpAny_bind (wpAny_attempt (wpAny_callSpecial?_slot (name := Str.ofString "__next__") hT F.slot_zip_next (wpAny_call_entry F.slot_zip_next hT F.entry_zip_next ?_ (F.args_zip_next_1 _))))
  show wpAny _ _ (field (.ref z) 2 >>= _) _ _ _; refine wpAny_bind (wpAny_field hz rfl (x := .bool false) rfl ?_); show wpAny _ _ (field (.ref z) 3 >>= _) _ _ _
  refine wpAny_bind (wpAny_field hz rfl (x := .ref P) rfl ?_); refine wpAny_bind (wpAny_seqItems hP rfl ?_); show wpAny _ _ (Builtin.SmallTypes.ownedTupleIsFree (.ref z) >>= _) _ _ _
  refine wpAny_bind ?_; unfold Builtin.SmallTypes.ownedTupleIsFree; refine wpAny_bind (wpAny_field hz rfl (x := .none) rfl (wpAny_pure ?_)); simp only [if_true]; refine wpAny_bind (wpAny_rule ?_)
  refine wpAny_bind (wpAny_field hz rfl (x := .ref O) rfl ?_); refine wpAny_bind (wpAny_setField_rec hz (by simp) fun g1 z1 k1 => ?_)
  replace z1:IsZip g1 z P O .ellipsis := z1
  refine wpAny_bind ?_; simp only [List.zipIdx_cons,List.zipIdx_nil,List.forIn_cons,List.forIn_nil]
  refine wpAny_bind (wpAny_bind (wpAny_onRaise ?_)); show wpAny _ _ (Builtin.SmallTypes.nextOf (.ref i) >>= _) _ _ _
  cases ex:xs[m]? with
  | none =>
    refine wpAny_bind (tstop hh (hi.extBut k1.extBut N.i1z) (ha.extBut k1.extBut N.l1z) ex fun g2 e k2 ⟨u,hu,cu⟩ => ?_)
    have z2:IsZip g2 z P O .ellipsis := k2 _ _ N.i1z.symm z1
    have ez:e ≠ z := fun w => by subst w; rw [z2] at hu; cases hu; simp at cu
    refine wpAny_setField_rec z2 (by simp) fun g3 _ k3 => ?_
    exact fin g3 e (fun k o n1 _ n3 _ w => k3.extBut _ _ n1 (k2 _ _ n3 (k1.extBut _ _ n1 w))) ⟨u,k3.extBut _ _ ez hu,cu⟩
  | some x =>
    have ey:ys[n]? = none := hx.resolve_left (by rw [ex]; simp)
    refine wpAny_bind (tnext (hi.extBut k1.extBut N.i1z) (ha.extBut k1.extBut N.l1z) ex fun g2 i2 k2 => wpAny_pure ?_)
    have O2:IsPair g2 O c d := k2.extBut _ _ N.TOi1 (k1.extBut _ _ N.TOz hO)
    refine wpAny_bind (wpAny_seqItems O2 rfl ?_); refine wpAny_bind (wpAny_updateSeq_pair O2 fun g3 O3 k3 => ?_)
    refine wpAny_bind (wpAny_letGo (wpAny_pure ?_)); refine wpAny_bind (wpAny_bind (wpAny_onRaise ?_)); show wpAny _ _ (Builtin.SmallTypes.nextOf (.ref j) >>= _) _ _ _
    refine wpAny_bind (tstop hh (((hj.extBut k1.extBut N.i2z).extBut k2.extBut N.i12.symm).extBut k3.extBut N.TOi2.symm) (((hb.extBut k1.extBut N.l2z).extBut k2.extBut N.l2i1).extBut k3.extBut N.l2TO) ey fun g4 e k4 ⟨u,hu,cu⟩ => ?_)
    have z4:IsZip g4 z P O .ellipsis := k4 _ _ N.i2z.symm (k3.extBut _ _ N.TOz.symm (k2.extBut _ _ N.i1z.symm z1))
    have ez:e ≠ z := fun w => by subst w; rw [z4] at hu; cases hu; simp at cu
    refine wpAny_setField_rec z4 (by simp) fun g5 _ k5 => ?_
    exact fin g5 e (fun k o n1 n2 n3 n4 w => k5.extBut _ _ n1 (k4 _ _ n4 (k3.extBut _ _ n2 (k2.extBut _ _ n3 (k1.extBut _ _ n1 w))))) ⟨u,k5.extBut _ _ ez hu,cu⟩
end
abbrev tz1 (h : Heap) (a : Addr) : Heap := h.push { cls := .type "tuple_iterator", data := .fields #[.ref a, .int 0 0] }
abbrev tz2 (h:Heap) (a b:Addr) : Heap := tz1 (tz1 h a) b
abbrev tz3 (h : Heap) (a b : Addr) : Heap := (tz2 h a b).push { cls := .type "tuple", data := .seq #[.ref h.objs.size, .ref (tz1 h a).objs.size] }
abbrev tz4 (h : Heap) (a b : Addr) : Heap := (tz3 h a b).push { cls := .type "tuple", data := .seq #[.none, .none] }
abbrev tz5 (h : Heap) (a b : Addr) : Heap := (tz4 h a b).push { cls := .type "zip", data := .fields #[.none, .bool false, .bool false, .ref (tz2 h a b).objs.size, .ref (tz3 h a b).objs.size] }
theorem tzip_new (a b : Addr) (xs ys : Array Value) : Meets (Builtin.«zip.__new__» ⟨[.type "zip", .ref a, .ref b], []⟩) (fun _ R s => IsTup s.heap a xs /\ IsTup s.heap b ys /\ R (.ok (.ret (.ref (tz4 s.heap a b).objs.size))) { s with heap := tz5 s.heap a b }) :=
  .of_wp fun prog w A R s h => by
    obtain ⟨hp,g,d,tk,os⟩ := s
    obtain ⟨ha,hb,h⟩ := h
    have hsub := PySem.sub_zip
    have h1:IsTup (Shared.heap ⟨hp,g,d,tk,os⟩) a xs := ha
    have h2 : IsTup (Shared.heap ⟨hp.push { cls := .type "tuple_iterator", data := .fields #[.ref a, .int 0 0] }, g, d, tk, os⟩) b ys := IsTup.push hb _
    wp_walk using iter_tuple h1,iter_tuple h2
    exact ⟨_,rfl,h⟩
section
variable {prog:Program} {w:World} {A:Around} {E:Value -> Shared -> Prop} {s:Shared}
theorem call_tzip {a b:Addr} {xs ys:Array Value} {Q:Value -> Shared -> Prop} (ha:IsTup s.heap a xs) (hb:IsTup s.heap b ys)
    (q:∀ g,IsZip g (s.heap.objs.size + 4) (s.heap.objs.size + 2) (s.heap.objs.size + 3) .none -> IsPair g (s.heap.objs.size + 2) (.ref s.heap.objs.size) (.ref (s.heap.objs.size + 1)) -> IsPair g (s.heap.objs.size + 3) .none .none ->
      IsTupIter g s.heap.objs.size a 0 -> IsTupIter g (s.heap.objs.size + 1) b 0 -> (∀ c o, s.heap.get? c = some o -> g.get? c = some o) -> Q (.ref (s.heap.objs.size + 4)) { s with heap := g }) : wpAny (model prog w) A (call (.type "zip") [.ref a, .ref b]) Q E s := by
  refine callType_new F.called_zip (by decide) (F.typeCall_zip_2 _ _) (F.newCall_zip_2 _ _) (fun obj => F.args_object_init_3 obj _ _) F.entry_zip_new (tzip_new a b xs ys) ⟨ha,hb,?_⟩
  have z1:(tz1 s.heap a).objs.size = s.heap.objs.size + 1 := Heap.size_push ..
  have z2:(tz2 s.heap a b).objs.size = s.heap.objs.size + 2 := by rw [Heap.size_push,z1]
  have z3:(tz3 s.heap a b).objs.size = s.heap.objs.size + 3 := by rw [Heap.size_push,z2]
  have z4:(tz4 s.heap a b).objs.size = s.heap.objs.size + 4 := by rw [Heap.size_push,z3]
  have pu:∀ {h:Heap} {c:Addr} {o:Obj} (x:Obj),h.get? c = some o -> (h.push x).get? c = some o := fun x e => Heap.get?_push_of_some x e
  have g5:(tz5 s.heap a b).get? (tz4 s.heap a b).objs.size = some _ := Heap.get?_push_size _ rfl
  have g4:(tz5 s.heap a b).get? (tz3 s.heap a b).objs.size = some _ := pu _ (Heap.get?_push_size _ rfl)
  have g3:(tz5 s.heap a b).get? (tz2 s.heap a b).objs.size = some _ := pu _ (pu _ (Heap.get?_push_size _ rfl))
  have g2:(tz5 s.heap a b).get? (tz1 s.heap a).objs.size = some _ := pu _ (pu _ (pu _ (Heap.get?_push_size _ rfl)))
  have g1:(tz5 s.heap a b).get? s.heap.objs.size = some _ := pu _ (pu _ (pu _ (pu _ (Heap.get?_push_size _ rfl))))
  show _ /\ _
  rw [z2,z3,z4] at g5
  rw [z1,z2] at g3
  rw [z3] at g4
  rw [z1] at g2
  rw [z4]
  exact ⟨⟨_,g5,rfl⟩,q _ g5 g3 g4 ⟨_,g1,rfl,rfl⟩ ⟨_,g2,rfl,rfl⟩ fun c o x => pu _ (pu _ (pu _ (pu _ (pu _ x))))⟩
end
end L2
set_option autoImplicit true
namespace L3
open PySem PySem.Spec PyProof.Rows L2
abbrev DK := Sum Key (List Key)
inductive D where
  | non | bl (b:Bool) | int (i:Int) | str (x:Str) | tup (ds:List D) | lst (ds:List D) | dic (ks:List DK) (ds:List D)
mutual
def D.flat:D -> Bool
  | .lst _ => false
  | .dic _ _ => false
  | .tup ds => D.flats ds
  | _ => true
def D.flats:List D -> Bool
  | [] => true
  | d :: ds => d.flat && D.flats ds
end
mutual
def D.dep:D -> Nat
  | .lst ds => D.deps ds + 1
  | .tup ds => D.deps ds + 1
  | .dic _ ds => D.deps ds + 1000
  | _ => 0
def D.deps:List D -> Nat
  | [] => 0
  | d :: ds => max d.dep (D.deps ds)
end
mutual
def eqD:D -> D -> Bool
  | .non,e => match e with | .non => true | _ => false
  | .bl a,e => match e with | .bl b => a == b | .int b => (if a then 1 else 0) == b | _ => false
  | .int a,e => match e with | .int b => a == b | .bl b => a == (if b then 1 else 0) | _ => false
  | .str a,e => match e with | .str b => a == b | _ => false
  | .tup as,e => match e with | .tup bs => eqDs as bs | _ => false
  | .lst as,e => match e with | .lst bs => eqDs as bs | _ => false
  | .dic ks as,e => match e with | .dic ls bs => decide (ks = ls) && eqDs as bs | _ => false
def eqDs:List D -> List D -> Bool
  | [],bs => match bs with | [] => true | _ => false
  | a :: as,bs => match bs with | b :: r => eqD a b && eqDs as r | [] => false
end
mutual
theorem eqD_refl:∀ d:D,eqD d d = true
  | .non => rfl
  | .bl a => by simp [eqD]
  | .int a => by simp [eqD]
  | .str a => by simp [eqD]
  | .tup as => by simp only [eqD]; exact eqDs_refl as
  | .lst as => by simp only [eqD]; exact eqDs_refl as
  | .dic ks as => by simp only [eqD,decide_true,Bool.true_and]; exact eqDs_refl as
theorem eqDs_refl:∀ ds:List D,eqDs ds ds = true
  | [] => rfl
  | d :: ds => by simp only [eqDs,eqD_refl d,eqDs_refl ds,Bool.and_self]
end
def DAt (H:Hp) (a:Addr) (ks:List DK) (vs:List V) : Prop :=
  (∃ kvs:List (Key × V),Rd H a (.dK kvs) /\ ks = kvs.map (fun p => .inl p.1) /\ vs = kvs.map Prod.snd) \/ ∃ kvs:List (List Key × V),Rd H a (.dT kvs) /\ ks = kvs.map (fun p => .inr p.1) /\ vs = kvs.map Prod.snd
def mutO:HO -> Prop
  | .lst _ => True
  | .dK _ => True
  | .dT _ => True
  | _ => False
def Mu (H:Hp) (a:Addr) : Prop := ∃ o,H a = some o /\ mutO o
theorem Mu.lst {H:Hp} {a:Addr} {vs:List V} (h:H a = some (.lst vs)) : Mu H a := ⟨_,h,True.intro⟩
theorem Mu.same {H H':Hp} {a:Addr} (h:Mu H a) (s:∀ o,H a = some o -> H' a = some o) : Mu H' a := let ⟨o,e,m⟩ := h; ⟨o,s o e,m⟩
theorem Mu.some {H:Hp} {a:Addr} (h:Mu H a) : H a ≠ none := by obtain ⟨o,e,_⟩ := h; rw [e]; simp
theorem rdObj {H:Hp} {a:Addr} {u:HO} (h:Rd H a u) : ∃ o,H a = some o := h.elim (fun e => ⟨_,e⟩) fun ⟨_,e⟩ => ⟨_,e⟩
theorem rdKeep {H H':Hp} {a:Addr} {u:HO} (h:Rd H a u) (s:∀ o,H a = some o -> H' a = some o) : Rd H' a u := h.imp (s _) fun ⟨o,e⟩ => ⟨o,s _ e⟩
theorem DAt.obj {H:Hp} {a:Addr} {ks:List DK} {vs:List V} (h:DAt H a ks vs) : ∃ o,H a = some o := h.elim (fun ⟨_,e,_⟩ => rdObj e) fun ⟨_,e,_⟩ => rdObj e
theorem DAt.mu {H:Hp} {a:Addr} {ks:List DK} {vs:List V} (h:DAt H a ks vs) (n:∀ o u,H a ≠ some (.frz o u)) : Mu H a := by
  rcases h with ⟨kvs,e | ⟨o,e⟩,_⟩ | ⟨kvs,e | ⟨o,e⟩,_⟩ <;> first | exact ⟨_,e,True.intro⟩ | exact (n _ _ e).elim
theorem DAt.keep {H H':Hp} {a:Addr} {ks:List DK} {vs:List V} (h:DAt H a ks vs) (s:∀ o,H a = some o -> H' a = some o) : DAt H' a ks vs :=
  h.imp (fun ⟨kvs,e,r⟩ => ⟨kvs,rdKeep e s,r⟩) fun ⟨kvs,e,r⟩ => ⟨kvs,rdKeep e s,r⟩
theorem DAt.inj {H:Hp} {a:Addr} {ks ls:List DK} {vs ws:List V} (h:DAt H a ks vs) (g:DAt H a ls ws) : ks = ls /\ vs = ws := by
  rcases h with ⟨k1,e1 | ⟨o1,e1⟩,r1,r2⟩ | ⟨k1,e1 | ⟨o1,e1⟩,r1,r2⟩ <;> rcases g with ⟨k2,e2 | ⟨o2,e2⟩,q1,q2⟩ | ⟨k2,e2 | ⟨o2,e2⟩,q1,q2⟩ <;> (rw [e1] at e2; cases e2; try exact ⟨r1.trans q1.symm,r2.trans q2.symm⟩)
def notD:HO -> Prop
  | .dK _ => False
  | .dT _ => False
  | .frz _ (.dK _) => False
  | .frz _ (.dT _) => False
  | _ => True
theorem DAt.no {H:Hp} {a:Addr} {ks:List DK} {vs:List V} {o:HO} (h:DAt H a ks vs) (e:H a = some o) (n:notD o) : False := by
  rcases h with ⟨k,z | ⟨o',z⟩,_⟩ | ⟨k,z | ⟨o',z⟩,_⟩ <;> (rw [e] at z; cases z; exact n)
mutual
def Is (H:Hp) (m:Addr -> Prop) : D -> V -> Prop
  | .non,v => v = .non
  | .bl b,v => v = .bl b
  | .int i,v => v = .int i
  | .str x,v => v = .str x
  | .tup ds,v => ∃ a vs,v = .ref a /\ H a = some (.tup vs) /\ IsAll H m ds vs
  | .lst ds,v => ∃ a vs,v = .ref a /\ ((H a = some (.lst vs) /\ m a) \/ ∃ o,H a = some (.frz o (.lst vs)) /\ m a) /\ IsAll H m ds vs
  | .dic ks ds,v => ∃ a vs,v = .ref a /\ (DAt H a ks vs /\ m a) /\ IsAll H m ds vs
def IsAll (H:Hp) (m:Addr -> Prop) : List D -> List V -> Prop
  | [],vs => vs = []
  | d :: ds,vs => ∃ v r,vs = v :: r /\ Is H m d v /\ IsAll H m ds r
end
def fixd:HO -> Prop
  | .tup _ => True
  | .frz _ _ => True
  | _ => False
section
variable {H H':Hp} {m m':Addr -> Prop}
mutual
theorem Is.mono (kp:∀ a o,H a = some o -> (m a \/ fixd o) -> H' a = some o) (mm:∀ a o,H a = some o -> m a -> m' a) : ∀ {d:D} {v:V},Is H m d v -> Is H' m' d v
  | .non,_,h => h
  | .bl _,_,h => h
  | .int _,_,h => h
  | .str _,_,h => h
  | .tup ds,_,h => by
    obtain ⟨a,vs,e,h1,h2⟩ := h
    exact ⟨a,vs,e,kp a _ h1 (.inr True.intro),IsAll.mono kp mm h2⟩
  | .lst ds,_,h => by
    obtain ⟨a,vs,e,h1,h2⟩ := h
    refine ⟨a,vs,e,?_,IsAll.mono kp mm h2⟩
    rcases h1 with ⟨h1,h3⟩ | ⟨o,h1,h3⟩
    · exact .inl ⟨kp a _ h1 (.inl h3),mm a _ h1 h3⟩
    · exact .inr ⟨o,kp a _ h1 (.inr True.intro),mm a _ h1 h3⟩
  | .dic ks ds,_,h => by
    obtain ⟨a,vs,e,h1,h2⟩ := h
    obtain ⟨o,eo⟩ := h1.1.obj
    exact ⟨a,vs,e,⟨h1.1.keep fun o e => kp a o e (.inl h1.2),mm a o eo h1.2⟩,IsAll.mono kp mm h2⟩
theorem IsAll.mono (kp:∀ a o,H a = some o -> (m a \/ fixd o) -> H' a = some o) (mm:∀ a o,H a = some o -> m a -> m' a) : ∀ {ds:List D} {vs:List V},IsAll H m ds vs -> IsAll H' m' ds vs
  | [],_,h => h
  | d :: ds,_,h => by
    obtain ⟨v,r,e,h1,h2⟩ := h
    exact ⟨v,r,e,Is.mono kp mm h1,IsAll.mono kp mm h2⟩
end
theorem Is.weak (mm:∀ a,m a -> m' a) {d:D} {v:V} (h:Is H m d v) : Is H m' d v := h.mono (fun _ _ e _ => e) fun a _ _ => mm a
theorem IsAll.weak (mm:∀ a,m a -> m' a) {ds:List D} {vs:List V} (h:IsAll H m ds vs) : IsAll H m' ds vs := h.mono (fun _ _ e _ => e) fun a _ _ => mm a
theorem Is.same (s:Same H H') {d:D} {v:V} (h:Is H m d v) : Is H' m d v := h.mono (fun a o e _ => s a o e) fun _ _ _ z => z
theorem IsAll.same (s:Same H H') {ds:List D} {vs:List V} (h:IsAll H m ds vs) : IsAll H' m ds vs := h.mono (fun a o e _ => s a o e) fun _ _ _ z => z
mutual
theorem Is.flat:∀ {d:D} {v:V},d.flat = true -> Is H m d v -> Is H m' d v
  | .non,_,_,h => h
  | .bl _,_,_,h => h
  | .int _,_,_,h => h
  | .str _,_,_,h => h
  | .tup ds,_,f,h => by
    obtain ⟨a,vs,e,h1,h2⟩ := h
    exact ⟨a,vs,e,h1,IsAll.flat (by simpa only [D.flat] using f) h2⟩
  | .lst ds,_,f,_ => by simp [D.flat] at f
  | .dic ks ds,_,f,_ => by simp [D.flat] at f
theorem IsAll.flat:∀ {ds:List D} {vs:List V},D.flats ds = true -> IsAll H m ds vs -> IsAll H m' ds vs
  | [],_,_,h => h
  | d :: ds,_,f,h => by
    obtain ⟨v,r,e,h1,h2⟩ := h
    simp only [D.flats,Bool.and_eq_true] at f
    exact ⟨v,r,e,Is.flat f.1 h1,IsAll.flat f.2 h2⟩
end
mutual
theorem Is.inj:∀ {d e:D} {v:V},Is H m d v -> Is H m' e v -> d = e
  | .non,e,_,h,g => by cases e <;> first | rfl | (cases h; first | (obtain ⟨_,_,z,_⟩ := g; cases z; done) | cases g)
  | .bl _,e,_,h,g => by cases e <;> (cases h; first | (obtain ⟨_,_,z,_⟩ := g; cases z; done) | (cases g; rfl) | cases g)
  | .int _,e,_,h,g => by cases e <;> (cases h; first | (obtain ⟨_,_,z,_⟩ := g; cases z; done) | (cases g; rfl) | cases g)
  | .str _,e,_,h,g => by cases e <;> (cases h; first | (obtain ⟨_,_,z,_⟩ := g; cases z; done) | (cases g; rfl) | cases g)
  | .tup ds,e,_,h,g => by
    obtain ⟨a,vs,rfl,h1,h2⟩ := h
    cases e with
    | tup es =>
      obtain ⟨b,ws,z,g1,g2⟩ := g
      cases z
      rw [h1] at g1; cases g1
      rw [IsAll.inj h2 g2]
    | lst es =>
      obtain ⟨b,ws,z,g1,g2⟩ := g
      cases z
      rcases g1 with ⟨g1,_⟩ | ⟨o,g1,_⟩ <;> (rw [h1] at g1; cases g1)
    | dic ls es =>
      obtain ⟨b,ws,z,g1,g2⟩ := g
      cases z
      exact (g1.1.no h1 True.intro).elim
    | _ => cases g
  | .lst ds,e,_,h,g => by
    obtain ⟨a,vs,rfl,h1,h2⟩ := h
    cases e with
    | tup es =>
      obtain ⟨b,ws,z,g1,g2⟩ := g
      cases z
      rcases h1 with ⟨h1,_⟩ | ⟨o,h1,_⟩ <;> (rw [h1] at g1; cases g1)
    | lst es =>
      obtain ⟨b,ws,z,g1,g2⟩ := g
      cases z
      have e:vs = ws := by
        rcases h1 with ⟨h1,_⟩ | ⟨o,h1,_⟩ <;> rcases g1 with ⟨g1,_⟩ | ⟨o',g1,_⟩ <;> (rw [h1] at g1; cases g1; try rfl)
      subst e
      rw [IsAll.inj h2 g2]
    | dic ls es =>
      obtain ⟨b,ws,z,g1,g2⟩ := g
      cases z
      rcases h1 with ⟨h1,_⟩ | ⟨o,h1,_⟩ <;> exact (g1.1.no h1 True.intro).elim
    | _ => cases g
  | .dic ks ds,e,_,h,g => by
    obtain ⟨a,vs,rfl,h1,h2⟩ := h
    cases e with
    | tup es =>
      obtain ⟨b,ws,z,g1,g2⟩ := g
      cases z
      exact (h1.1.no g1 True.intro).elim
    | lst es =>
      obtain ⟨b,ws,z,g1,g2⟩ := g
      cases z
      rcases g1 with ⟨g1,_⟩ | ⟨o,g1,_⟩ <;> exact (h1.1.no g1 True.intro).elim
    | dic ls es =>
      obtain ⟨b,ws,z,g1,g2⟩ := g
      cases z
      obtain ⟨e1,e2⟩ := h1.1.inj g1.1
      subst e1 e2
      rw [IsAll.inj h2 g2]
    | _ => cases g
theorem IsAll.inj:∀ {ds es:List D} {vs:List V},IsAll H m ds vs -> IsAll H m' es vs -> ds = es
  | [],es,_,h,g => by
    cases h
    cases es with
    | nil => rfl
    | cons e es => obtain ⟨_,_,z,_⟩ := g; cases z
  | d :: ds,es,_,h,g => by
    obtain ⟨v,r,rfl,h1,h2⟩ := h
    cases es with
    | nil => cases g
    | cons e es =>
      obtain ⟨w,q,z,g1,g2⟩ := g
      cases z
      rw [Is.inj h1 g1,IsAll.inj h2 g2]
end
mutual
theorem Is.lists (nf:∀ a o u,m a -> H a = some (.frz o u) -> False) : ∀ {d:D} {v:V},Is H m d v -> Is H (fun a => m a /\ Mu H a) d v
  | .non,_,h => h
  | .bl _,_,h => h
  | .int _,_,h => h
  | .str _,_,h => h
  | .tup ds,_,h => by
    obtain ⟨a,vs,e,h1,h2⟩ := h
    exact ⟨a,vs,e,h1,IsAll.lists nf h2⟩
  | .lst ds,_,h => by
    obtain ⟨a,vs,e,h1,h2⟩ := h
    refine ⟨a,vs,e,?_,IsAll.lists nf h2⟩
    rcases h1 with ⟨h1,h3⟩ | ⟨o,h1,h3⟩
    · exact .inl ⟨h1,h3,Mu.lst h1⟩
    · exact (nf a _ _ h3 h1).elim
  | .dic ks ds,_,h => by
    obtain ⟨a,vs,e,h1,h2⟩ := h
    exact ⟨a,vs,e,⟨h1.1,h1.2,h1.1.mu fun o u z => nf a o u h1.2 z⟩,IsAll.lists nf h2⟩
theorem IsAll.lists (nf:∀ a o u,m a -> H a = some (.frz o u) -> False) : ∀ {ds:List D} {vs:List V},IsAll H m ds vs -> IsAll H (fun a => m a /\ Mu H a) ds vs
  | [],_,h => h
  | d :: ds,_,h => by
    obtain ⟨v,r,e,h1,h2⟩ := h
    exact ⟨v,r,e,Is.lists nf h1,IsAll.lists nf h2⟩
end
theorem IsAll.length:∀ {ds:List D} {vs:List V},IsAll H m ds vs -> vs.length = ds.length
  | [],_,h => by cases h; rfl
  | d :: ds,_,h => by
    obtain ⟨v,r,rfl,_,h2⟩ := h
    simp [IsAll.length h2]
theorem IsAll.append:∀ {ds es:List D} {vs ws:List V},IsAll H m ds vs -> IsAll H m es ws -> IsAll H m (ds ++ es) (vs ++ ws)
  | [],_,_,_,h,g => by cases h; exact g
  | d :: ds,_,_,_,h,g => by
    obtain ⟨v,r,rfl,h1,h2⟩ := h
    exact ⟨v,r ++ _,rfl,h1,IsAll.append h2 g⟩
theorem IsAll.snoc {ds:List D} {d:D} {vs:List V} {v:V} (h:IsAll H m ds vs) (g:Is H m d v) : IsAll H m (ds ++ [d]) (vs ++ [v]) := h.append ⟨v,[],rfl,g,rfl⟩
theorem IsAll.get:∀ {ds:List D} {vs:List V} {i:Nat} {d:D},IsAll H m ds vs -> ds[i]? = some d -> ∃ v,vs[i]? = some v /\ Is H m d v
  | [],_,_,_,_,e => by simp at e
  | d :: ds,_,0,_,h,e => by
    obtain ⟨v,r,rfl,h1,h2⟩ := h
    simp at e; subst e
    exact ⟨v,rfl,h1⟩
  | d :: ds,_,i + 1,_,h,e => by
    obtain ⟨v,r,rfl,h1,h2⟩ := h
    obtain ⟨w,a,b⟩ := IsAll.get (i := i) h2 (by simpa using e)
    exact ⟨w,by simpa using a,b⟩
theorem IsAll.set:∀ {ds:List D} {vs:List V} {d:D} {v:V} (i:Nat),IsAll H m ds vs -> Is H m d v -> IsAll H m (ds.set i d) (vs.set i v)
  | [],_,_,_,_,h,_ => by cases h; exact rfl
  | x :: ds,_,d,v,0,h,g => by
    obtain ⟨w,r,rfl,h1,h2⟩ := h
    exact ⟨v,r,rfl,g,h2⟩
  | x :: ds,_,d,v,i + 1,h,g => by
    obtain ⟨w,r,rfl,h1,h2⟩ := h
    exact ⟨w,r.set i v,rfl,h1,IsAll.set i h2 g⟩
theorem IsAll.take:∀ {ds:List D} {vs:List V} (n:Nat),IsAll H m ds vs -> IsAll H m (ds.take n) (vs.take n)
  | _,_,0,_ => rfl
  | [],_,n + 1,h => by cases h; exact rfl
  | d :: ds,_,n + 1,h => by
    obtain ⟨v,r,rfl,h1,h2⟩ := h
    exact ⟨v,r.take n,rfl,h1,IsAll.take n h2⟩
theorem IsAll.drop:∀ {ds:List D} {vs:List V} (n:Nat),IsAll H m ds vs -> IsAll H m (ds.drop n) (vs.drop n)
  | _,_,0,h => h
  | [],_,n + 1,h => by cases h; exact rfl
  | d :: ds,_,n + 1,h => by
    obtain ⟨v,r,rfl,h1,h2⟩ := h
    exact IsAll.drop n h2
end
section
variable {P:Program} {w:World} {H:Hp} {s:Shared} {m m':Addr -> Prop}
theorem lst_at (ok:HOk P w H s.heap) {a:Addr} {vs:List V} (h:(H a = some (.lst vs) /\ m a) \/ ∃ o,H a = some (.frz o (.lst vs)) /\ m a) :
    ∃ its:List Value,Vals vs its /\ s.heap.IsList a its.toArray := by
  have key:ObjOk P w H s.heap a (.lst vs) -> ∃ its:List Value,Vals vs its /\ s.heap.IsList a its.toArray := fun ⟨_,its,n,r,e⟩ => ⟨its,r,⟨_,e,rfl,n,rfl⟩⟩
  rcases h with ⟨h,_⟩ | ⟨o,h,_⟩
  · exact key (ok a _ h)
  · exact key (ok a _ h).2
theorem tup_at (ok:HOk P w H s.heap) {a:Addr} {vs:List V} (h:H a = some (.tup vs)) : ∃ its:List Value,Vals vs its /\ s.heap.IsTuple a its.toArray := by
  obtain ⟨_,its,r,e⟩ := ok a _ h
  exact ⟨its,r,e⟩
theorem all_range (n:Nat) (e:Nat -> Bool) : (List.range n).all e = true ↔ ∀ j,j < n -> e j = true := by
  simp [List.all_eq_true,List.mem_range]
theorem eqDs_iff:∀ (ds es:List D),eqDs ds es = true ↔ ds.length = es.length /\ ∀ (j:Nat) (d e:D),ds[j]? = some d -> es[j]? = some e -> eqD d e = true
  | [],[] => by simp [eqDs]
  | [],e :: es => by simp [eqDs]
  | d :: ds,[] => by simp [eqDs]
  | d :: ds,e :: es => by
    simp only [eqDs,Bool.and_eq_true,eqDs_iff ds es,List.length_cons,Nat.add_right_cancel_iff]
    constructor
    · rintro ⟨h1,h2,h3⟩
      refine ⟨h2,fun j x y ex ey => ?_⟩
      cases j with
      | zero => simp at ex ey; subst ex; subst ey; exact h1
      | succ j => exact h3 j x y (by simpa using ex) (by simpa using ey)
    · rintro ⟨h2,h3⟩
      exact ⟨h3 0 d e rfl rfl,h2,fun j x y ex ey => h3 (j + 1) x y (by simpa using ex) (by simpa using ey)⟩
theorem dep_mem:∀ {ds:List D} {j:Nat} {d:D},ds[j]? = some d -> d.dep <= D.deps ds
  | [],_,_,e => by simp at e
  | d :: ds,0,_,e => by simp at e; subst e; simp only [D.deps]; omega
  | d :: ds,j + 1,x,e => by
    have := dep_mem (ds := ds) (j := j) (d := x) (by simpa using e)
    simp only [D.deps]; omega
theorem eqs_of (ok:HOk P w H s.heap) {A:Around} {ds es:List D} {vs ws:List V} {its its2:List Value} (h1:IsAll H m ds vs) (h2:IsAll H m' es ws) (r1:Vals vs its) (r2:Vals ws its2)
    (rec:∀ d ∈ ds,∀ e ∈ es,∀ (v w:V) (u u':Value),Is H m d v -> Is H m' e w -> RelV v u -> RelV w u' -> SeqAt.EqAt A.in1 s u u' (eqD d e)) :
    ∀ j (z1:j < its.toArray.size) (z2:j < its2.toArray.size),SeqAt.EqAt A.in1 s its.toArray[j] its2.toArray[j] (match ds[j]?,es[j]? with | some d,some e => eqD d e | _,_ => true) := by
  intro j z1 z2
  have l1 := r1.length
  have l2 := r2.length
  have l3 := h1.length
  have l4 := h2.length
  have y1:j < its.length := by simpa using z1
  have y2:j < its2.length := by simpa using z2
  have k1:j < ds.length := by omega
  have k2:j < es.length := by omega
  obtain ⟨v,ev,iv⟩ := h1.get (i := j) (d := ds[j]) (by simp [k1])
  obtain ⟨v',ev',iv'⟩ := h2.get (i := j) (d := es[j]) (by simp [k2])
  obtain ⟨u,eu,ru⟩ := r1.get ev
  obtain ⟨u',eu',ru'⟩ := r2.get ev'
  have q1:its.toArray[j] = u := by
    have:its[j]? = some its[j] := by simp [y1]
    rw [this] at eu; simpa using Option.some.inj eu
  have q2:its2.toArray[j] = u' := by
    have:its2[j]? = some its2[j] := by simp [y2]
    rw [this] at eu'; simpa using Option.some.inj eu'
  have g1:ds[j]? = some ds[j] := by simp [k1]
  have g2:es[j]? = some es[j] := by simp [k2]
  rw [q1,q2,g1,g2]
  exact rec ds[j] (List.getElem_mem _) es[j] (List.getElem_mem _) v v' u u' iv iv' ru ru'
theorem all_eq {ds es:List D} (hl:ds.length = es.length) :
    ((List.range ds.length).all fun j => match ds[j]?,es[j]? with | some d,some e => eqD d e | _,_ => true) = eqDs ds es := by
  rw [Bool.eq_iff_iff,all_range,eqDs_iff]
  constructor
  · intro h
    refine ⟨hl,fun j d e ed ee => ?_⟩
    have := h j (List.getElem?_eq_some_iff.mp ed).1
    rw [ed,ee] at this
    exact this
  · rintro ⟨_,h⟩ j hj
    have e1:ds[j]? = some ds[j] := by simp [hj]
    have hj':j < es.length := by omega
    have e2:es[j]? = some es[j] := by simp [hj']
    rw [e1,e2]
    exact h j _ _ e1 e2
theorem eqDs_ne {ds es:List D} (hl:ds.length ≠ es.length) : eqDs ds es = false := by
  cases h:eqDs ds es with
  | false => rfl
  | true => exact absurd ((eqDs_iff ds es).mp h).1 hl
end
section
variable {P:Program} {w:World} {H:Hp} {s:Shared} {m m':Addr -> Prop}
abbrev RecAt (H:Hp) (s:Shared) (m m':Addr -> Prop) (A:Around) (n:Nat) : Prop :=
  ∀ (d e:D) (v w:V) (u u':Value),d.dep < n -> e.dep < 1000 -> Is H m d v -> Is H m' e w -> RelV v u -> RelV w u' -> SeqAt.EqAt A.in1 s u u' (eqD d e)
section
variable {A:Around} {n:Nat} {l1 l2:List D} {vs1 vs2:List V} {its1 its2:List Value} {a1 a2:Addr}
theorem rcat_lists (ok:HOk P w H s.heap) (hn:(D.lst l1).dep <= n) (hE:(D.lst l2).dep < 1000) (hu:A.units < cLine) (q1:IsAll H m l1 vs1) (q2:IsAll H m' l2 vs2) (y1:Vals vs1 its1) (y2:Vals vs2 its2) (p1:s.heap.IsList a1 its1.toArray) (p2:s.heap.IsList a2 its2.toArray)
    (rec:RecAt H s m m' A n) : SeqAt.RcAt A s (.ref a1) (.ref a2) (eqD (.lst l1) (.lst l2)) := by
  have e1:its1.toArray.size = l1.length := by rw [List.size_toArray,<- y1.length,q1.length]
  have e2:its2.toArray.size = l2.length := by rw [List.size_toArray,<- y2.length,q2.length]
  have hd:∀ d ∈ l1,d.dep < n := fun d hd => by
    obtain ⟨j,hj⟩ := List.mem_iff_getElem?.mp hd
    have := dep_mem hj
    simp only [D.dep] at hn; omega
  have he:∀ e ∈ l2,e.dep < 1000 := fun d hd => by
    obtain ⟨j,hj⟩ := List.mem_iff_getElem?.mp hd
    have := dep_mem hj
    simp only [D.dep] at hE; omega
  by_cases hl:l1.length = l2.length
  · have z := SeqAt.RcAt.lists p1 p2 (by rw [e1,e2,hl]) hu (eqs_of ok q1 q2 y1 y2 fun d hm e hm2 v w u u' i1 i2 r1 r2 => rec d e v w u u' (hd d hm) (he e hm2) i1 i2 r1 r2)
    rw [e1,all_eq hl] at z
    exact z
  · have z := SeqAt.RcAt.lists_lengths p1 p2 (by rw [e1,e2]; simpa using hl) hu
    rw [show eqD (.lst l1) (.lst l2) = eqDs l1 l2 from rfl,eqDs_ne hl]
    exact z
theorem rcneat_lists (ok:HOk P w H s.heap) (hn:(D.lst l1).dep <= n) (hE:(D.lst l2).dep < 1000) (hu:A.units < cLine) (q1:IsAll H m l1 vs1) (q2:IsAll H m' l2 vs2) (y1:Vals vs1 its1) (y2:Vals vs2 its2) (p1:s.heap.IsList a1 its1.toArray) (p2:s.heap.IsList a2 its2.toArray)
    (rec:RecAt H s m m' A n) : SeqAt.RcNeAt A s (.ref a1) (.ref a2) (!eqD (.lst l1) (.lst l2)) := by
  have e1:its1.toArray.size = l1.length := by rw [List.size_toArray,<- y1.length,q1.length]
  have e2:its2.toArray.size = l2.length := by rw [List.size_toArray,<- y2.length,q2.length]
  have hd:∀ d ∈ l1,d.dep < n := fun d hd => by
    obtain ⟨j,hj⟩ := List.mem_iff_getElem?.mp hd
    have := dep_mem hj
    simp only [D.dep] at hn; omega
  have he:∀ e ∈ l2,e.dep < 1000 := fun d hd => by
    obtain ⟨j,hj⟩ := List.mem_iff_getElem?.mp hd
    have := dep_mem hj
    simp only [D.dep] at hE; omega
  by_cases hl:l1.length = l2.length
  · have z := SeqAt.RcNeAt.lists p1 p2 (by rw [e1,e2,hl]) hu (eqs_of ok q1 q2 y1 y2 fun d hm e hm2 v w u u' i1 i2 r1 r2 => rec d e v w u u' (hd d hm) (he e hm2) i1 i2 r1 r2)
    rw [e1,all_eq hl] at z
    exact z
  · have z := SeqAt.RcNeAt.lists_lengths p1 p2 (by rw [e1,e2]; simpa using hl) hu
    rw [show eqD (.lst l1) (.lst l2) = eqDs l1 l2 from rfl,eqDs_ne hl]
    exact z
theorem tups_eq:((List.range (min l1.length l2.length)).all (fun j => match l1[j]?,l2[j]? with | some d,some e => eqD d e | _,_ => true) && l1.length == l2.length) = eqDs l1 l2 := by
  by_cases hl:l1.length = l2.length
  · rw [hl,Nat.min_self,<- hl,all_eq hl]; simp [hl]
  · rw [eqDs_ne hl]; simp [hl]
theorem rcat_tups (ok:HOk P w H s.heap) (hn:(D.tup l1).dep <= n) (hE:(D.tup l2).dep < 1000) (hu:A.units < cLine) (q1:IsAll H m l1 vs1) (q2:IsAll H m' l2 vs2) (y1:Vals vs1 its1) (y2:Vals vs2 its2) (p1:s.heap.IsTuple a1 its1.toArray) (p2:s.heap.IsTuple a2 its2.toArray)
    (rec:RecAt H s m m' A n) : SeqAt.RcAt A s (.ref a1) (.ref a2) (eqD (.tup l1) (.tup l2)) := by
  have e1:its1.toArray.size = l1.length := by rw [List.size_toArray,<- y1.length,q1.length]
  have e2:its2.toArray.size = l2.length := by rw [List.size_toArray,<- y2.length,q2.length]
  have hd:∀ d ∈ l1,d.dep < n := fun d hd => by
    obtain ⟨j,hj⟩ := List.mem_iff_getElem?.mp hd
    have := dep_mem hj
    simp only [D.dep] at hn; omega
  have he:∀ e ∈ l2,e.dep < 1000 := fun d hd => by
    obtain ⟨j,hj⟩ := List.mem_iff_getElem?.mp hd
    have := dep_mem hj
    simp only [D.dep] at hE; omega
  have z := SeqAt.RcAt.tuples p1 p2 hu (eqs_of ok q1 q2 y1 y2 fun d hm e hm2 v w u u' i1 i2 r1 r2 => rec d e v w u u' (hd d hm) (he e hm2) i1 i2 r1 r2)
  rw [e1,e2,tups_eq] at z
  exact z
theorem rcneat_tups (ok:HOk P w H s.heap) (hn:(D.tup l1).dep <= n) (hE:(D.tup l2).dep < 1000) (hu:A.units < cLine) (q1:IsAll H m l1 vs1) (q2:IsAll H m' l2 vs2) (y1:Vals vs1 its1) (y2:Vals vs2 its2) (p1:s.heap.IsTuple a1 its1.toArray) (p2:s.heap.IsTuple a2 its2.toArray)
    (rec:RecAt H s m m' A n) : SeqAt.RcNeAt A s (.ref a1) (.ref a2) (!eqD (.tup l1) (.tup l2)) := by
  have e1:its1.toArray.size = l1.length := by rw [List.size_toArray,<- y1.length,q1.length]
  have e2:its2.toArray.size = l2.length := by rw [List.size_toArray,<- y2.length,q2.length]
  have hd:∀ d ∈ l1,d.dep < n := fun d hd => by
    obtain ⟨j,hj⟩ := List.mem_iff_getElem?.mp hd
    have := dep_mem hj
    simp only [D.dep] at hn; omega
  have he:∀ e ∈ l2,e.dep < 1000 := fun d hd => by
    obtain ⟨j,hj⟩ := List.mem_iff_getElem?.mp hd
    have := dep_mem hj
    simp only [D.dep] at hE; omega
  have z := SeqAt.RcNeAt.tuples p1 p2 hu (eqs_of ok q1 q2 y1 y2 fun d hm e hm2 v w u u' i1 i2 r1 r2 => rec d e v w u u' (hd d hm) (he e hm2) i1 i2 r1 r2)
  rw [e1,e2,tups_eq] at z
  exact z
theorem eqat_ref (h:SeqAt.RcAt A s (.ref a1) (.ref a2) k) (hs:a1 = a2 -> k = true) : SeqAt.EqAt A s (.ref a1) (.ref a2) k := by
  by_cases e:a1 = a2
  · subst e; rw [hs rfl]; exact SeqAt.EqAt.same _
  · exact SeqAt.EqAt.of_refs e h
end
theorem Is.shape (ok:HOk P w H s.heap) {d:D} {v:V} {u:Value} (hE:d.dep < 1000) (h:Is H m d v) (r:RelV v u) : (d = .non /\ u = .none) \/ (∃ b,d = .bl b /\ u = .bool b) \/ (∃ i t,d = .int i /\ u = .int i t) \/ (∃ x t,d = .str x /\ u = .str x t) \/
    (∃ l a vs its,d = .lst l /\ v = .ref a /\ u = .ref a /\ IsAll H m l vs /\ Vals vs its /\ s.heap.IsList a its.toArray) \/ ∃ l a vs its,d = .tup l /\ v = .ref a /\ u = .ref a /\ IsAll H m l vs /\ Vals vs its /\ s.heap.IsTuple a its.toArray := by
  cases d with
  | non => cases h; cases r; exact .inl ⟨rfl,rfl⟩
  | bl b => cases h; cases r; exact .inr (.inl ⟨b,rfl,rfl⟩)
  | int i => cases h; obtain ⟨t,rfl⟩ := r; exact .inr (.inr (.inl ⟨i,t,rfl,rfl⟩))
  | str x => cases h; obtain ⟨t,rfl⟩ := r; exact .inr (.inr (.inr (.inl ⟨x,t,rfl,rfl⟩)))
  | lst l =>
    obtain ⟨a,vs,rfl,g,q⟩ := h; cases r; obtain ⟨its,y,p⟩ := lst_at ok g
    exact .inr (.inr (.inr (.inr (.inl ⟨l,a,vs,its,rfl,rfl,rfl,q,y,p⟩))))
  | tup l =>
    obtain ⟨a,vs,rfl,g,q⟩ := h; cases r; obtain ⟨its,y,p⟩ := tup_at ok g
    exact .inr (.inr (.inr (.inr (.inr ⟨l,a,vs,its,rfl,rfl,rfl,q,y,p⟩))))
  | dic k l => exact absurd hE (by simp only [D.dep]; omega)
theorem rc_step (ok:HOk P w H s.heap) {A:Around} {n:Nat} (hu:A.units < cLine) (rec:RecAt H s m m' A n) {d e:D} {v w':V} {u u':Value} (hn:d.dep <= n) (hN:n < 1000) (hE:e.dep < 1000) (h1:Is H m d v) (h2:Is H m' e w') (r1:RelV v u) (r2:RelV w' u') :
    SeqAt.RcAt A s u u' (eqD d e) := by
  rcases h1.shape ok (by omega) r1 with ⟨rfl,rfl⟩ | ⟨b1,rfl,rfl⟩ | ⟨i1,t1,rfl,rfl⟩ | ⟨x1,t1,rfl,rfl⟩ | ⟨l1,a1,vs1,its1,rfl,rfl,rfl,q1,y1,p1⟩ | ⟨l1,a1,vs1,its1,rfl,rfl,rfl,q1,y1,p1⟩ <;> rcases h2.shape ok hE r2 with ⟨rfl,rfl⟩ | ⟨b2,rfl,rfl⟩ | ⟨i2,t2,rfl,rfl⟩ | ⟨x2,t2,rfl,rfl⟩ | ⟨l2,a2,vs2,its2,rfl,rfl,rfl,q2,y2,p2⟩ | ⟨l2,a2,vs2,its2,rfl,rfl,rfl,q2,y2,p2⟩
  exact .none_none; exact .none_bool b2; exact .none_int i2 t2; exact .none_str x2 t2; exact .none_list p2 hu; exact .none_tuple p2 hu; exact .bool_none b1; exact .bool_bool b1 b2; exact .bool_int b1 i2 t2; exact .bool_str b1 x2 t2; exact .bool_list b1 p2 hu; exact .bool_tuple b1 p2 hu; exact .int_none i1 t1; exact .int_bool i1 t1 b2; exact .int_int i1 t1 i2 t2; exact .int_str i1 t1 x2 t2; exact .int_list i1 t1 p2 hu; exact .int_tuple i1 t1 p2 hu; exact .str_none x1 t1; exact .str_bool x1 t1 b2; exact .str_int x1 t1 i2 t2; exact .str_str x1 t1 x2 t2; exact .str_list x1 t1 p2 hu; exact .str_tuple x1 t1 p2 hu; exact .list_none p1 hu; exact .list_bool b2 p1 hu; exact .list_int i2 t2 p1 hu; exact .list_str x2 t2 p1 hu; exact rcat_lists ok hn hE hu q1 q2 y1 y2 p1 p2 rec; exact .list_tuple p1 p2 hu; exact .tuple_none p1 hu; exact .tuple_bool b2 p1 hu; exact .tuple_int i2 t2 p1 hu; exact .tuple_str x2 t2 p1 hu; exact .tuple_list p1 p2 hu; exact rcat_tups ok hn hE hu q1 q2 y1 y2 p1 p2 rec
theorem ne_step (ok:HOk P w H s.heap) {A:Around} {n:Nat} (hu:A.units < cLine) (rec:RecAt H s m m' A n) {d e:D} {v w':V} {u u':Value} (hn:d.dep <= n) (hN:n < 1000) (hE:e.dep < 1000) (h1:Is H m d v) (h2:Is H m' e w') (r1:RelV v u) (r2:RelV w' u') :
    SeqAt.RcNeAt A s u u' (!eqD d e) := by
  rcases h1.shape ok (by omega) r1 with ⟨rfl,rfl⟩ | ⟨b1,rfl,rfl⟩ | ⟨i1,t1,rfl,rfl⟩ | ⟨x1,t1,rfl,rfl⟩ | ⟨l1,a1,vs1,its1,rfl,rfl,rfl,q1,y1,p1⟩ | ⟨l1,a1,vs1,its1,rfl,rfl,rfl,q1,y1,p1⟩ <;> rcases h2.shape ok hE r2 with ⟨rfl,rfl⟩ | ⟨b2,rfl,rfl⟩ | ⟨i2,t2,rfl,rfl⟩ | ⟨x2,t2,rfl,rfl⟩ | ⟨l2,a2,vs2,its2,rfl,rfl,rfl,q2,y2,p2⟩ | ⟨l2,a2,vs2,its2,rfl,rfl,rfl,q2,y2,p2⟩
  exact .none_none; exact .none_bool b2; exact .none_int i2 t2; exact .none_str x2 t2; exact .none_list p2 hu; exact .none_tuple p2 hu; exact .bool_none b1; exact .bool_bool b1 b2; exact .bool_int b1 i2 t2; exact .bool_str b1 x2 t2; exact .bool_list b1 p2 hu; exact .bool_tuple b1 p2 hu; exact .int_none i1 t1; exact .int_bool i1 t1 b2; exact .int_int i1 t1 i2 t2; exact .int_str i1 t1 x2 t2; exact .int_list i1 t1 p2 hu; exact .int_tuple i1 t1 p2 hu; exact .str_none x1 t1; exact .str_bool x1 t1 b2; exact .str_int x1 t1 i2 t2; exact .str_str x1 t1 x2 t2; exact .str_list x1 t1 p2 hu; exact .str_tuple x1 t1 p2 hu; exact .list_none p1 hu; exact .list_bool b2 p1 hu; exact .list_int i2 t2 p1 hu; exact .list_str x2 t2 p1 hu; exact rcneat_lists ok hn hE hu q1 q2 y1 y2 p1 p2 rec; exact .list_tuple p1 p2 hu; exact .tuple_none p1 hu; exact .tuple_bool b2 p1 hu; exact .tuple_int i2 t2 p1 hu; exact .tuple_str x2 t2 p1 hu; exact .tuple_list p1 p2 hu; exact rcneat_tups ok hn hE hu q1 q2 y1 y2 p1 p2 rec
theorem eq_step (ok:HOk P w H s.heap) {A:Around} {n:Nat} (hu:A.units < cLine) (rec:RecAt H s m m' A n) {d e:D} {v w':V} {u u':Value} (hn:d.dep <= n) (hN:n < 1000) (hE:e.dep < 1000) (h1:Is H m d v) (h2:Is H m' e w') (r1:RelV v u) (r2:RelV w' u') :
    SeqAt.EqAt A s u u' (eqD d e) := by
  rcases h1.shape ok (by omega) r1 with ⟨rfl,rfl⟩ | ⟨b1,rfl,rfl⟩ | ⟨i1,t1,rfl,rfl⟩ | ⟨x1,t1,rfl,rfl⟩ | ⟨l1,a1,vs1,its1,rfl,rfl,rfl,q1,y1,p1⟩ | ⟨l1,a1,vs1,its1,rfl,rfl,rfl,q1,y1,p1⟩ <;> rcases h2.shape ok hE r2 with ⟨rfl,rfl⟩ | ⟨b2,rfl,rfl⟩ | ⟨i2,t2,rfl,rfl⟩ | ⟨x2,t2,rfl,rfl⟩ | ⟨l2,a2,vs2,its2,rfl,rfl,rfl,q2,y2,p2⟩ | ⟨l2,a2,vs2,its2,rfl,rfl,rfl,q2,y2,p2⟩
  exact .same _; exact .none_bool b2; exact .none_int i2 t2; exact .none_str x2 t2; exact .none_list p2 hu; exact .none_tuple p2 hu; exact .bool_none b1; exact .bool_bool b1 b2; exact .bool_int b1 i2 t2; exact .bool_str b1 x2 t2; exact .bool_list b1 p2 hu; exact .bool_tuple b1 p2 hu; exact .int_none i1 t1; exact .int_bool i1 t1 b2; exact .int_int i1 t1 i2 t2; exact .int_str i1 t1 x2 t2; exact .int_list i1 t1 p2 hu; exact .int_tuple i1 t1 p2 hu; exact .str_none x1 t1; exact .str_bool x1 t1 b2; exact .str_int x1 t1 i2 t2; exact .str_str x1 t1 x2 t2; exact .str_list x1 t1 p2 hu; exact .str_tuple x1 t1 p2 hu; exact .list_none p1 hu; exact .list_bool b2 p1 hu; exact .list_int i2 t2 p1 hu; exact .list_str x2 t2 p1 hu; exact eqat_ref (rcat_lists ok hn hE hu q1 q2 y1 y2 p1 p2 rec) (fun z => by subst z; rw [Is.inj h1 h2]; exact eqD_refl _); exact .list_tuple p1 p2 hu; exact .tuple_none p1 hu; exact .tuple_bool b2 p1 hu; exact .tuple_int i2 t2 p1 hu; exact .tuple_str x2 t2 p1 hu; exact .tuple_list p1 p2 hu; exact eqat_ref (rcat_tups ok hn hE hu q1 q2 y1 y2 p1 p2 rec) (fun z => by subst z; rw [Is.inj h1 h2]; exact eqD_refl _)
theorem eq_at (ok:HOk P w H s.heap) : ∀ (n:Nat) (A:Around) {d e:D} {v w':V} {u u':Value},A.units + n < cLine -> n < 1000 -> d.dep <= n -> e.dep < 1000 -> Is H m d v -> Is H m' e w' -> RelV v u -> RelV w' u' -> SeqAt.EqAt A s u u' (eqD d e)
  | 0,A,d,e,v,w',u,u',hu,hN,hn,hE,h1,h2,r1,r2 => eq_step ok (by omega) (fun d e v w u u' hd => absurd hd (by omega)) hn hN hE h1 h2 r1 r2
  | n + 1,A,d,e,v,w',u,u',hu,hN,hn,hE,h1,h2,r1,r2 => eq_step ok (by omega) (fun d e v w u u' hd he i1 i2 r1 r2 => eq_at ok n A.in1 (by show A.units + 1 + n < cLine; omega) (by omega) (by omega) he i1 i2 r1 r2) hn hN hE h1 h2 r1 r2
theorem rec_at (ok:HOk P w H s.heap) {A:Around} {n:Nat} (hu:A.units + n < cLine) (hN:n < 1000) : RecAt H s m m' A n := fun d e v w u u' hd he i1 i2 r1 r2 =>
  eq_at ok (n - 1) A.in1 (by show A.units + 1 + (n - 1) < cLine; omega) (by omega) (by omega) he i1 i2 r1 r2
end
end L3
set_option autoImplicit false
namespace L3
open PySem PySem.Spec PyProof.Rows L2
abbrev St := L2.St
inductive Res (α:Type) where
  | stuck | ok (a:α) | exc (c:Str)
def Res.bind {α β:Type} : Res α -> (α -> Res β) -> Res β
  | .stuck,_ => .stuck
  | .exc c,_ => .exc c
  | .ok a,k => k a
@[simp] theorem Res.bind_ok {α β:Type} (a:α) (k:α -> Res β) : (Res.ok a).bind k = k a := rfl
@[simp] theorem Res.bind_exc {α β:Type} (c:Str) (k:α -> Res β) : (Res.exc c:Res α).bind k = .exc c := rfl
@[simp] theorem Res.bind_stuck {α β:Type} (k:α -> Res β) : (Res.stuck:Res α).bind k = .stuck := rfl
inductive Sl where
  | val (d:D) (fr:Bool) | own (ds:List D) (fr:Bool) | tre (d:D) | mes (d:D) | pin (d:D) | dis (d:D)
abbrev En := List (Option Sl)
inductive R where
  | val (d:D) (fr:Bool) (al:List Nat) | new (ds:List D) (fr:Bool) | fre (d:D)
def R.d:R -> D
  | .val d _ _ => d
  | .new ds _ => .lst ds
  | .fre d => d
def R.fr:R -> Bool
  | .val _ f _ => f
  | .new _ f => f
  | .fre _ => true
def R.al:R -> List Nat
  | .val _ _ al => al
  | .new _ _ => []
  | .fre _ => []
@[simp] theorem R.d_fre (d:D) : (R.fre d).d = d := rfl
@[simp] theorem R.fr_fre (d:D) : (R.fre d).fr = true := rfl
@[simp] theorem R.al_fre (d:D) : (R.fre d).al = [] := rfl
@[simp] theorem R.d_val (d:D) (f:Bool) (al:List Nat) : (R.val d f al).d = d := rfl
@[simp] theorem R.d_new (ds:List D) (f:Bool) : (R.new ds f).d = .lst ds := rfl
@[simp] theorem R.fr_val (d:D) (f:Bool) (al:List Nat) : (R.val d f al).fr = f := rfl
@[simp] theorem R.fr_new (ds:List D) (f:Bool) : (R.new ds f).fr = f := rfl
@[simp] theorem R.al_val (d:D) (f:Bool) (al:List Nat) : (R.val d f al).al = al := rfl
@[simp] theorem R.al_new (ds:List D) (f:Bool) : (R.new ds f).al = [] := rfl
def mkV (d:D) (fr:Bool) (al:List Nat) : R := if d.flat then .val d true [] else .val d fr al
structure Gd where
  H₀:Hp
  Ma:Addr -> Prop
  Z:Addr -> Prop
  root:Option V
abbrev mkG (H:Hp) (Ma:Addr -> Prop) : Gd := ⟨H,Ma,fun _ => False,none⟩
def MuZ (g:Gd) (H:Hp) (a:Addr) : Prop := Mu H a \/ (g.Z a /\ ∃ o u,H a = some (.frz o u))
theorem MuZ.same {g:Gd} {H H':Hp} {a:Addr} (h:MuZ g H a) (s:∀ o,H a = some o -> H' a = some o) : MuZ g H' a := h.imp (fun z => z.same s) fun ⟨z,o,u,e⟩ => ⟨z,o,u,s _ e⟩
def msk (g:Gd) (M:Addr -> Prop) (fr:Bool) (a:Addr) : Prop := M a /\ (fr = true -> g.H₀ a = none)
abbrev Pr := Nat -> Addr -> Prop
def vmsk (g:Gd) (M:Addr -> Prop) (fr:Bool) (ρ:Pr) (al:List Nat) (a:Addr) : Prop := msk g M fr a \/ ∃ i,i ∈ al /\ ρ i a
mutual
def IsSh (H:Hp) (m:Addr -> Prop) : D -> V -> Prop
  | .tup ds,v => ∃ a vs,v = .ref a /\ H a = some (.tup vs) /\ IsShs H m ds vs
  | .lst _,v => ∃ a vs,v = .ref a /\ H a = some (.lst vs) /\ m a
  | _,_ => True
def IsShs (H:Hp) (m:Addr -> Prop) : List D -> List V -> Prop
  | [],_ => True
  | d :: ds,vs => ∃ v r,vs = v :: r /\ IsSh H m d v /\ IsShs H m ds r
end
def Dst (H:Hp) (T:Addr -> Prop) (v:V) : Prop := ∃ (a:Addr) (vs:List V),v = .ref a /\ T a /\ (H a = some (.lst vs) \/ (∃ kvs,H a = some (.dK kvs) /\ vs = kvs.map Prod.snd) \/ (H a = some (.dT []) /\ vs = [])) /\ V.ref a ∉ vs /\ ∀ (i j:Nat) (b:Addr),vs[i]? = some (V.ref b) -> vs[j]? = some (V.ref b) -> i = j
theorem Dst.mono {H H':Hp} {T T':Addr -> Prop} {v:V} (kp:∀ a o,T a -> H a = some o -> H' a = some o) (mm:∀ a,T a -> T' a) (h:Dst H T v) : Dst H' T' v := by
  obtain ⟨a,vs,e,ta,h1,h2⟩ := h
  exact ⟨a,vs,e,mm a ta,h1.imp (kp a _ ta) (.imp (fun ⟨kvs,q,z⟩ => ⟨kvs,kp a _ ta q,z⟩) fun ⟨q,z⟩ => ⟨kp a _ ta q,z⟩),h2⟩
def SlOk (g:Gd) (M T:Addr -> Prop) (H:Hp) (v:V) : Sl -> Prop
  | .val d fr => Is H (msk g M fr) d v
  | .own ds fr => ∃ a vs,v = .ref a /\ H a = some (.lst vs) /\ (∀ b,T b ↔ b = a) /\ IsAll H (msk g M fr) ds vs
  | .tre d => Is H T d v
  | .mes d => IsSh H T d v
  | .pin d => Is H T d v /\ g.root = some v
  | .dis d => Is H T d v /\ Dst H T v
def Sl.isO:Sl -> Bool
  | .val _ _ => false
  | _ => true
def isOwn (env:En) (j:Nat) : Bool := match env[j]? with
  | some (some sl) => sl.isO
  | _ => false
structure Rep (g:Gd) (M:Addr -> Prop) (ρ:Pr) (env:En) (σ:St) (H:Hp) : Prop where
  same:Same g.H₀ H
  froz:∀ a,M a -> H a ≠ none
  inn:∀ a,M a -> g.H₀ a = none \/ g.Ma a
  fl:∀ a,M a -> g.H₀ a = none -> MuZ g H a
  slot:∀ (i:Nat) (sl:Sl),env[i]? = some (some sl) -> ∃ v,σ[i]? = some (some v) /\ SlOk g M (ρ i) H v sl
  priv:∀ (i:Nat) (a:Addr),ρ i a -> ¬ M a /\ g.H₀ a = none /\ Mu H a
  apart:∀ (i j:Nat) (a:Addr),ρ i a -> ρ j a -> i = j
  ow:∀ (i:Nat) (a:Addr),ρ i a -> isOwn env i = true
  len:env.length = σ.length
  zz:∀ a,g.Z a -> H a ≠ none
def ROk (g:Gd) (M:Addr -> Prop) (ρ:Pr) (H0 H:Hp) (v:V) : R -> Prop
  | .val d fr al => Is H (vmsk g M fr ρ al) d v
  | .new ds fr => ∃ a vs,v = .ref a /\ H a = some (.lst vs) /\ ¬ M a /\ H0 a = none /\ (∀ i,¬ ρ i a) /\ IsAll H (msk g M fr) ds vs
  | .fre d => ∃ T:Addr -> Prop,(∀ a,T a -> ¬ M a /\ H0 a = none /\ Mu H a /\ ∀ i,¬ ρ i a) /\ Is H T d v
structure Ext (M:Addr -> Prop) (H:Hp) (M':Addr -> Prop) (H':Hp) : Prop where
  m:∀ a,M a -> M' a
  h:Same H H'
  n:∀ a,M' a -> M a \/ H a = none
theorem Ext.refl (M:Addr -> Prop) (H:Hp) : Ext M H M H := ⟨fun _ z => z,Same.refl H,fun _ z => .inl z⟩
theorem Ext.trans {M M1 M2:Addr -> Prop} {H H1 H2:Hp} (a:Ext M H M1 H1) (b:Ext M1 H1 M2 H2) : Ext M H M2 H2 :=
  ⟨fun x z => b.m x (a.m x z),a.h.trans b.h,fun x z => (b.n x z).elim (a.n x) fun w => .inr (a.h.free w)⟩
section
variable {g:Gd} {M M':Addr -> Prop} {ρ:Pr} {env:En} {σ:St} {H H' H0:Hp} {fr:Bool} {al:List Nat}
mutual
theorem IsSh.mono {m m':Addr -> Prop} (kp:∀ a o,H a = some o -> fixd o -> H' a = some o) (kl:∀ a vs,m a -> H a = some (.lst vs) -> ∃ vs',H' a = some (.lst vs')) (mm:∀ a,m a -> m' a) : ∀ {d:D} {v:V},IsSh H m d v -> IsSh H' m' d v
  | .non,_,h => h
  | .bl _,_,h => h
  | .int _,_,h => h
  | .str _,_,h => h
  | .tup ds,_,h => by
    obtain ⟨a,vs,e,h1,h2⟩ := h
    exact ⟨a,vs,e,kp a _ h1 True.intro,IsShs.mono kp kl mm h2⟩
  | .lst ds,_,h => by
    obtain ⟨a,vs,e,h1,h2⟩ := h
    obtain ⟨vs',h3⟩ := kl a vs h2 h1
    exact ⟨a,vs',e,h3,mm a h2⟩
  | .dic _ _,_,h => h
theorem IsShs.mono {m m':Addr -> Prop} (kp:∀ a o,H a = some o -> fixd o -> H' a = some o) (kl:∀ a vs,m a -> H a = some (.lst vs) -> ∃ vs',H' a = some (.lst vs')) (mm:∀ a,m a -> m' a) : ∀ {ds:List D} {vs:List V},IsShs H m ds vs -> IsShs H' m' ds vs
  | [],_,h => h
  | d :: ds,_,h => by
    obtain ⟨v,r,e,h1,h2⟩ := h
    exact ⟨v,r,e,IsSh.mono kp kl mm h1,IsShs.mono kp kl mm h2⟩
end
theorem msk.mono (mm:∀ a,M a -> M' a) {a:Addr} (h:msk g M fr a) : msk g M' fr a := ⟨mm a h.1,h.2⟩
theorem vmsk.mono (mm:∀ a,M a -> M' a) {a:Addr} (h:vmsk g M fr ρ al a) : vmsk g M' fr ρ al a := h.imp (msk.mono mm) id
theorem Is.ext {d:D} {v:V} (e:Ext M H M' H') (h:Is H (vmsk g M fr ρ al) d v) : Is H' (vmsk g M' fr ρ al) d v :=
  h.mono (fun a o q _ => e.h a o q) fun _ _ _ z => z.mono e.m
theorem IsAll.ext {ds:List D} {vs:List V} (e:Ext M H M' H') (h:IsAll H (vmsk g M fr ρ al) ds vs) : IsAll H' (vmsk g M' fr ρ al) ds vs :=
  h.mono (fun a o q _ => e.h a o q) fun _ _ _ z => z.mono e.m
theorem SlOk.weak {T:Addr -> Prop} {v:V} {sl:Sl} (mm:∀ a,M a -> M' a) (h:SlOk g M T H v sl) : SlOk g M' T H v sl := by
  cases sl with
  | val d fr => exact Is.weak (fun b z => msk.mono mm z) h
  | own ds fr =>
    obtain ⟨b,vs,rfl,h1,h2,h4⟩ := h
    exact ⟨b,vs,rfl,h1,h2,IsAll.weak (fun b z => msk.mono mm z) h4⟩
  | tre d => exact h
  | mes d => exact h
  | pin d => exact h
  | dis d => exact h
theorem SlOk.same {T:Addr -> Prop} {v:V} {sl:Sl} (s:Same H H') (h:SlOk g M T H v sl) : SlOk g M T H' v sl := by
  cases sl with
  | val d fr => exact Is.same s h
  | own ds fr =>
    obtain ⟨b,vs,rfl,h1,h2,h4⟩ := h
    exact ⟨b,vs,rfl,s _ _ h1,h2,IsAll.same s h4⟩
  | tre d => exact Is.same s h
  | mes d => exact IsSh.mono (fun a o e _ => s a o e) (fun a vs _ e => ⟨vs,s _ _ e⟩) (fun _ z => z) h
  | pin d => exact ⟨Is.same s h.1,h.2⟩
  | dis d => exact ⟨Is.same s h.1,h.2.mono (fun a o _ e => s a o e) fun _ z => z⟩
theorem Rep.moreT {T:Addr -> Prop} (r:Rep g M ρ env σ H) (ht:∀ a,T a -> Mu H a /\ g.H₀ a = none /\ ∀ i,¬ ρ i a) : Rep g (fun b => M b \/ T b) ρ env σ H where
  same := r.same
  froz := fun b hb => hb.elim (r.froz b) fun e => (ht b e).1.some
  inn := fun b hb => hb.elim (r.inn b) fun e => .inl (ht b e).2.1
  fl := fun b hb h0 => hb.elim (fun z => r.fl b z h0) fun e => .inl (ht b e).1
  slot := fun i sl e => by
    obtain ⟨v,ev,s⟩ := r.slot i sl e
    exact ⟨v,ev,SlOk.weak (fun _ => .inl) s⟩
  priv := fun i a h => ⟨fun z => z.elim (r.priv i a h).1 fun z => (ht a z).2.2 i h,(r.priv i a h).2⟩
  apart := r.apart
  ow := r.ow
  len := r.len
  zz := r.zz
theorem Rep.more {a:Addr} {ws:List V} (r:Rep g M ρ env σ H) (ha:H a = some (.lst ws)) (h0:g.H₀ a = none) (no:∀ i,¬ ρ i a) : Rep g (fun b => M b \/ b = a) ρ env σ H :=
  r.moreT fun b e => by subst e; exact ⟨Mu.lst ha,h0,no⟩
theorem Rep.grow (r:Rep g M ρ env σ H) (s:Same H H') : Rep g M ρ env σ H' where
  same := r.same.trans s
  froz := fun a ha e => by
    cases q:H a with
    | none => exact r.froz a ha q
    | some o => rw [s a o q] at e; cases e
  inn := r.inn
  fl := fun a ha h0 => (r.fl a ha h0).same fun o e => s a o e
  slot := fun i sl e => by
    obtain ⟨v,ev,k⟩ := r.slot i sl e
    exact ⟨v,ev,SlOk.same s k⟩
  priv := fun i a h => let ⟨a1,a2,a3⟩ := r.priv i a h; ⟨a1,a2,a3.same fun o e => s a o e⟩
  apart := r.apart
  ow := r.ow
  len := r.len
  zz := fun a z e => by
    cases q:H a with
    | none => exact r.zz a z q
    | some o => rw [s a o q] at e; cases e
theorem Rep.free {a:Addr} (r:Rep g M ρ env σ H) (h:H a = none) : g.H₀ a = none /\ ¬ M a /\ ∀ i,¬ ρ i a := by
  refine ⟨r.same.free h,fun z => r.froz a z h,fun i o => ?_⟩
  exact (r.priv i a o).2.2.some h
theorem same_upd {a:Addr} {o:HO} (h:H a = none) : Same H (upd H a o) := fun b u e => by rw [upd_ne (ne_of_none e h)]; exact e
theorem ROk.is {v:V} {r:R} {M0:Addr -> Prop} (rep:Rep g M ρ env σ H) (x:Ext M0 H0 M H) (h0:Same g.H₀ H0) (h:ROk g M ρ H0 H v r) : ∃ M',Ext M0 H0 M' H /\ (∀ a,M a -> M' a) /\ Rep g M' ρ env σ H /\ Is H (vmsk g M' r.fr ρ r.al) r.d v := by
  cases r with
  | val d fr al => exact ⟨M,x,fun _ z => z,rep,h⟩
  | new ds fr =>
    obtain ⟨a,vs,rfl,h1,h2,h3,h4,h5⟩ := h
    have z0:g.H₀ a = none := h0.free h3
    exact ⟨fun b => M b \/ b = a,⟨fun b z => .inl (x.m b z),x.h,fun b z => z.elim (x.n b) fun e => .inr (e ▸ h3)⟩,fun _ => .inl,rep.more h1 z0 h4,a,vs,rfl,.inl ⟨h1,.inl ⟨.inr rfl,fun _ => z0⟩⟩,IsAll.weak (fun b z => .inl (msk.mono (fun _ => .inl) z)) h5⟩
  | fre d =>
    obtain ⟨T,ht,is⟩ := h
    exact ⟨fun b => M b \/ T b,⟨fun b z => .inl (x.m b z),x.h,fun b z => z.elim (x.n b) fun e => .inr (ht b e).2.1⟩,fun _ => .inl,rep.moreT fun a z => let ⟨a1,a2,a3,a4⟩ := ht a z; ⟨a3,h0.free a2,a4⟩,Is.weak (fun b z => .inl ⟨.inr z,fun _ => h0.free (ht b z).2.1⟩) is⟩
theorem ROk.mkV {d:D} {v:V} (h:Is H (vmsk g M fr ρ al) d v) : ROk g M ρ H0 H v (mkV d fr al) := by
  unfold L3.mkV
  split
  · exact Is.flat (by assumption) h
  · exact h
theorem ROk.back {v:V} {r:R} {H1:Hp} (s:Same H1 H0) (h:ROk g M ρ H0 H v r) : ROk g M ρ H1 H v r := by
  cases r with
  | val d fr al => exact h
  | new ds fr =>
    obtain ⟨a,vs,rfl,h1,h2,h3,h4,h5⟩ := h
    exact ⟨a,vs,rfl,h1,h2,s.free h3,h4,h5⟩
  | fre d =>
    obtain ⟨T,ht,is⟩ := h
    exact ⟨T,fun a z => let ⟨a1,a2,a3⟩ := ht a z; ⟨a1,s.free a2,a3⟩,is⟩
end
def XOk (mg:Str -> Option Value) (E:XK) (g:Gd) (c:Str) : Prop := ∀ cls dx H',mg c = some cls -> Same g.H₀ H' -> E cls dx H'
section
variable (mg:Str -> Option Value) (E:XK) (g:Gd) (M:Addr -> Prop) (ρ:Pr) (env:En) (σ:St) (H:Hp)
def PostE (Q:VK) : Res R -> Prop
  | .stuck => False
  | .exc c => XOk mg E g c
  | .ok r => ∀ v M' H',Ext M H M' H' -> Rep g M' ρ env σ H' -> ROk g M' ρ H H' v r -> Q v H'
def rfrs (rs:List R) : Bool := rs.all R.fr
def rals (rs:List R) : List Nat := rs.flatMap R.al
def PostA (Q:List V -> Hp -> Prop) : Res (List R) -> Prop
  | .stuck => False
  | .exc c => XOk mg E g c
  | .ok rs => ∀ vs M' H',Ext M H M' H' -> Rep g M' ρ env σ H' -> IsAll H' (vmsk g M' (rfrs rs) ρ (rals rs)) (rs.map R.d) vs -> Q vs H'
def PostT (Q:Bool -> Hp -> Prop) : Res Bool -> Prop
  | .stuck => False
  | .exc c => XOk mg E g c
  | .ok b => ∀ M' H',Ext M H M' H' -> Rep g M' ρ env σ H' -> Q b H'
end
def Snd (mg:Str -> Option Value) (E:XK) (t:TE) (f:En -> Res R) : Prop := ∀ g M ρ env σ H Q,Rep g M ρ env σ H -> PostE mg E g M ρ env σ H Q (f env) -> t σ H Q
def SndA (mg:Str -> Option Value) (E:XK) (t:TA) (f:En -> Res (List R)) : Prop := ∀ g M ρ env σ H Q,Rep g M ρ env σ H -> PostA mg E g M ρ env σ H Q (f env) -> t σ H Q
def SndT (mg:Str -> Option Value) (E:XK) (t:TT) (f:En -> Res Bool) : Prop := ∀ g M ρ env σ H Q,Rep g M ρ env σ H -> PostT mg E g M ρ env σ H Q (f env) -> t σ H Q
def PD (X:Cx) (E:XK) (e:Expr) (f:En -> Res R) : Prop := ∃ t,PE X e t /\ Snd X.mg E t f
def PAD (X:Cx) (E:XK) (es:List Expr) (f:En -> Res (List R)) : Prop := ∃ t,PA X es t /\ SndA X.mg E t f
def PTD (X:Cx) (E:XK) (e:Expr) (f:En -> Res Bool) : Prop := ∃ t,PT X e t /\ SndT X.mg E t f
def PWD (X:Cx) (E:XK) (e:Expr) (f:En -> Res Bool) : Prop := ∃ t,PW X e t /\ SndT X.mg E t f
theorem PWD.pt {X:Cx} {E:XK} {e:Expr} {f:En -> Res Bool} (h:PWD X E e f) : PTD X E e f := let ⟨t,a,b⟩ := h; ⟨t,a.pt,b⟩
section
variable {mg:Str -> Option Value} {E:XK} {g:Gd} {M M':Addr -> Prop} {ρ:Pr} {env:En} {σ:St} {H H':Hp}
theorem PostE.ext {Q:VK} {r:Res R} (e:Ext M H M' H') (p:PostE mg E g M ρ env σ H Q r) : PostE mg E g M' ρ env σ H' Q r := by
  cases r with
  | stuck => exact p
  | exc c => exact p
  | ok r => exact fun v M2 H2 e2 rep2 ro => p v M2 H2 (e.trans e2) rep2 (ro.back e.h)
theorem PostA.ext {Q:List V -> Hp -> Prop} {r:Res (List R)} (e:Ext M H M' H') (p:PostA mg E g M ρ env σ H Q r) : PostA mg E g M' ρ env σ H' Q r := by
  cases r with
  | stuck => exact p
  | exc c => exact p
  | ok r => exact fun v M2 H2 e2 => p v M2 H2 (e.trans e2)
theorem PostT.ext {Q:Bool -> Hp -> Prop} {r:Res Bool} (e:Ext M H M' H') (p:PostT mg E g M ρ env σ H Q r) : PostT mg E g M' ρ env σ H' Q r := by
  cases r with
  | stuck => exact p
  | exc c => exact p
  | ok r => exact fun M2 H2 e2 => p M2 H2 (e.trans e2)
theorem PostE.val {Q:VK} {d:D} {fr:Bool} {al:List Nat} {v:V} (p:PostE mg E g M ρ env σ H Q (.ok (mkV d fr al))) (rep:Rep g M ρ env σ H) (h:Is H (vmsk g M fr ρ al) d v) : Q v H :=
  p v M H (Ext.refl M H) rep (ROk.mkV h)
theorem PostE.new {Q:VK} {ds:List D} {fr:Bool} {vs:List V} {a:Addr} (p:PostE mg E g M ρ env σ H Q (.ok (.new ds fr))) (rep:Rep g M ρ env σ H) (ha:H a = none) (h:IsAll H (msk g M fr) ds vs) : Q (.ref a) (upd H a (.lst vs)) := by
  have s:Same H (upd H a (.lst vs)) := same_upd ha
  obtain ⟨h0,hm,ho⟩ := rep.free ha
  exact p _ M _ ⟨fun _ z => z,s,fun _ z => .inl z⟩ (rep.grow s) ⟨a,vs,rfl,upd_same,hm,ha,ho,IsAll.same s h⟩
theorem PostE.tup {Q:VK} {ds:List D} {fr:Bool} {al:List Nat} {vs:List V} {a:Addr} (p:PostE mg E g M ρ env σ H Q (.ok (mkV (.tup ds) fr al))) (rep:Rep g M ρ env σ H) (ha:H a = none) (h:IsAll H (vmsk g M fr ρ al) ds vs) : Q (.ref a) (upd H a (.tup vs)) := by
  have s:Same H (upd H a (.tup vs)) := same_upd ha
  exact p _ M _ ⟨fun _ z => z,s,fun _ z => .inl z⟩ (rep.grow s) (ROk.mkV ⟨a,vs,rfl,upd_same,IsAll.same s h⟩)
theorem Snd.one {t:TE} {f:En -> Res R} (h:Snd mg E t f) (rep:Rep g M ρ env σ H) {α:Type} {K:R -> Res α} {P:(M:Addr -> Prop) -> (H:Hp) -> Res α -> Prop} {Q:VK}
    (hp:P M H ((f env).bind K)) (hs:∀ M H,P M H .stuck -> False) (hx:∀ M H c,P M H (.exc c) -> XOk mg E g c) (he:∀ M H M' H' r,Ext M H M' H' -> P M H r -> P M' H' r)
    (k:∀ r v M' H',Ext M H M' H' -> Rep g M' ρ env σ H' -> Is H' (vmsk g M' r.fr ρ r.al) r.d v -> P M' H' (K r) -> Q v H') : t σ H Q := by
  refine h g M ρ env σ H Q rep ?_
  cases e:f env with
  | stuck => rw [e] at hp; exact hs _ _ hp
  | exc c => rw [e] at hp; exact hx _ _ c hp
  | ok r =>
    rw [e] at hp
    intro v M1 H1 e1 rep1 ro
    obtain ⟨M2,e2,_,rep2,is⟩ := ro.is rep1 e1 rep.same
    exact k r v M2 H1 e2 rep2 is (he _ _ _ _ _ e2 hp)
theorem Snd.oneE {t:TE} {f:En -> Res R} (h:Snd mg E t f) (rep:Rep g M ρ env σ H) {K:R -> Res R} {Q':VK} {Q:VK} (hp:PostE mg E g M ρ env σ H Q' ((f env).bind K))
    (k:∀ r v M' H',Ext M H M' H' -> Rep g M' ρ env σ H' -> Is H' (vmsk g M' r.fr ρ r.al) r.d v -> PostE mg E g M' ρ env σ H' Q' (K r) -> Q v H') : t σ H Q :=
  h.one rep (P := fun M H r => PostE mg E g M ρ env σ H Q' r) hp (fun _ _ z => z) (fun _ _ _ z => z) (fun _ _ _ _ _ e p => p.ext e) k
theorem Snd.oneA {t:TE} {f:En -> Res R} (h:Snd mg E t f) (rep:Rep g M ρ env σ H) {K:R -> Res (List R)} {Q':List V -> Hp -> Prop} {Q:VK} (hp:PostA mg E g M ρ env σ H Q' ((f env).bind K))
    (k:∀ r v M' H',Ext M H M' H' -> Rep g M' ρ env σ H' -> Is H' (vmsk g M' r.fr ρ r.al) r.d v -> PostA mg E g M' ρ env σ H' Q' (K r) -> Q v H') : t σ H Q :=
  h.one rep (P := fun M H r => PostA mg E g M ρ env σ H Q' r) hp (fun _ _ z => z) (fun _ _ _ z => z) (fun _ _ _ _ _ e p => p.ext e) k
theorem Snd.oneT {t:TE} {f:En -> Res R} (h:Snd mg E t f) (rep:Rep g M ρ env σ H) {K:R -> Res Bool} {Q':Bool -> Hp -> Prop} {Q:VK} (hp:PostT mg E g M ρ env σ H Q' ((f env).bind K))
    (k:∀ r v M' H',Ext M H M' H' -> Rep g M' ρ env σ H' -> Is H' (vmsk g M' r.fr ρ r.al) r.d v -> PostT mg E g M' ρ env σ H' Q' (K r) -> Q v H') : t σ H Q :=
  h.one rep (P := fun M H r => PostT mg E g M ρ env σ H Q' r) hp (fun _ _ z => z) (fun _ _ _ z => z) (fun _ _ _ _ _ e p => p.ext e) k
theorem Snd.twoE {ta tb:TE} {fa fb:En -> Res R} (ha:Snd mg E ta fa) (hb:Snd mg E tb fb) (rep:Rep g M ρ env σ H) {K:R -> R -> Res R} {Q':VK} {S:V -> V -> Hp -> Prop}
    (hp:PostE mg E g M ρ env σ H Q' ((fa env).bind fun ra => (fb env).bind fun rb => K ra rb))
    (k:∀ ra rb x y M' H',Rep g M' ρ env σ H' -> Is H' (vmsk g M' ra.fr ρ ra.al) ra.d x -> Is H' (vmsk g M' rb.fr ρ rb.al) rb.d y -> PostE mg E g M' ρ env σ H' Q' (K ra rb) -> S x y H') :
    ta σ H fun x H1 => tb σ H1 fun y H2 => S x y H2 :=
  ha.oneE rep hp fun ra x M1 H1 e1 rep1 i1 p1 => hb.oneE rep1 p1 fun rb y M2 H2 e2 rep2 i2 p2 => k ra rb x y M2 H2 rep2 (i1.ext e2) i2 p2
end
end L3
namespace L3
open PySem PySem.Spec PyProof.Rows L2
def lim:Nat := 1000000
theorem lim_le {n:Nat} (h:n <= lim) : n <= sizeLine := by rw [sizeLine_eq]; unfold lim at h; omega
theorem lim_lt {n:Nat} (h:n < lim) : n < sizeLine := by rw [sizeLine_eq]; unfold lim at h; omega
def mkL (ds:List D) (fr:Bool) (al:List Nat) : R := if D.flats ds then .new ds true else if al.isEmpty then .new ds fr else .val (.lst ds) fr al
section
variable {mg:Str -> Option Value} {E:XK} {g:Gd} {M M':Addr -> Prop} {ρ:Pr} {env:En} {σ:St} {H H':Hp}
theorem vmsk.nil {fr:Bool} {a:Addr} (h:vmsk g M fr ρ [] a) : msk g M fr a := h.elim id fun ⟨_,z,_⟩ => absurd z (by simp)
theorem PostE.lst {Q:VK} {ds:List D} {fr:Bool} {al:List Nat} {vs:List V} {a:Addr} (p:PostE mg E g M ρ env σ H Q (.ok (mkL ds fr al))) (rep:Rep g M ρ env σ H) (ha:H a = none) (h:IsAll H (vmsk g M fr ρ al) ds vs) : Q (.ref a) (upd H a (.lst vs)) := by
  unfold mkL at p
  by_cases hf:D.flats ds = true
  · rw [if_pos hf] at p
    exact p.new rep ha (IsAll.flat hf h)
  · rw [if_neg hf] at p
    cases al with
    | nil =>
      exact PostE.new (p := p) rep ha (IsAll.weak (fun _ z => z.nil) h)
    | cons i al =>
      have p:PostE mg E g M ρ env σ H Q (.ok (.val (.lst ds) fr (i :: al))) := p
      have s:Same H (upd H a (.lst vs)) := same_upd ha
      obtain ⟨h0,hm,ho⟩ := rep.free ha
      refine p _ (fun b => M b \/ b = a) _ ⟨fun _ => .inl,s,fun b z => z.imp id fun (e:b = a) => by rw [e]; exact ha⟩ ((rep.grow s).more upd_same h0 ho) ⟨a,vs,rfl,.inl ⟨upd_same,.inl ⟨.inr rfl,fun _ => h0⟩⟩,?_⟩
      exact (IsAll.same s h).weak fun b z => z.mono fun _ => .inl
theorem Is.rd {m:Addr -> Prop} {ds:List D} {v:V} (h:Is H m (.lst ds) v) : ∃ a vs,v = .ref a /\ Rd H a (.lst vs) /\ IsAll H m ds vs := by
  obtain ⟨a,vs,e,h1,h2⟩ := h
  exact ⟨a,vs,e,h1.imp (·.1) fun ⟨o,z,_⟩ => ⟨o,z⟩,h2⟩
end
section
variable {X:Cx} {E:XK}
def vVar (i:Nat) : En -> Res R := fun env => match env[i]? with
  | some (some (.val d fr)) => .ok (mkV d fr [])
  | some (some (.own ds fr)) => .ok (.val (.lst ds) fr [i])
  | some (some (.tre d)) => .ok (.val d true [i])
  | some (some (.pin d)) => .ok (.val d true [i])
  | some (some (.dis d)) => .ok (.val d true [i])
  | _ => .stuck
theorem snd_var {mg:Str -> Option Value} {i:Nat} : Snd mg E (tVar i) (vVar i) := by
  intro g M ρ env σ H Q rep p
  unfold vVar at p
  cases e1:env[i]? with
  | none => rw [e1] at p; exact p.elim
  | some o =>
    cases o with
    | none => rw [e1] at p; exact p.elim
    | some sl =>
      obtain ⟨v,ev,k⟩ := rep.slot i sl e1
      rw [e1] at p
      refine ⟨v,ev,?_⟩
      cases sl with
      | val d fr => exact PostE.val p rep (Is.weak (fun _ z => .inl z) k)
      | own ds fr =>
        obtain ⟨a,vs,rfl,h1,h2,h4⟩ := k
        exact p _ M H (Ext.refl M H) rep ⟨a,vs,rfl,.inl ⟨h1,.inr ⟨i,by simp,(h2 a).mpr rfl⟩⟩,IsAll.weak (fun _ z => .inl z) h4⟩
      | tre d => exact p _ M H (Ext.refl M H) rep (Is.weak (fun a z => .inr ⟨i,by simp,z⟩) k)
      | mes d => exact p.elim
      | pin d => exact p _ M H (Ext.refl M H) rep (Is.weak (fun a z => .inr ⟨i,by simp,z⟩) k.1)
      | dis d => exact p _ M H (Ext.refl M H) rep (Is.weak (fun a z => .inr ⟨i,by simp,z⟩) k.1)
theorem pd_var {i:Nat} {e:Expr} (h:PE X e (tVar i)) : PD X E e (vVar i) := ⟨_,h,snd_var⟩
def vC (d:D) : En -> Res R := fun _ => .ok (.val d true [])
theorem snd_c {mg:Str -> Option Value} {d:D} {v:V} (h:∀ H m,Is H m d v) : Snd mg E (tC v) (vC d) := fun g M ρ env σ H Q rep p => p v M H (Ext.refl M H) rep (h H _)
theorem pd_int {i j pos} : PD X E (.Constant (.int i) j pos) (vC (.int i)) := ⟨_,pe_int,snd_c fun _ _ => rfl⟩
theorem pd_bl {b j pos} : PD X E (.Constant (.bool b) j pos) (vC (.bl b)) := ⟨_,pe_bl,snd_c fun _ _ => rfl⟩
theorem pd_str {x j pos} : PD X E (.Constant (.str x) j pos) (vC (.str x)) := ⟨_,pe_str,snd_c fun _ _ => rfl⟩
theorem pd_non {j pos} : PD X E (.Constant .none j pos) (vC .non) := ⟨_,pe_non,snd_c fun _ _ => rfl⟩
def v2 (op:R -> R -> Res R) (fa fb:En -> Res R) : En -> Res R := fun env => (fa env).bind fun ra => (fb env).bind fun rb => op ra rb
def OpD (X:Cx) (E:XK) (f:Value -> Value -> Sem Value) (op:R -> R -> Res R) : Prop := ∃ r:R2,OpR X f r /\
  ∀ g M ρ env σ H Q ra rb x y,Rep g M ρ env σ H -> Is H (vmsk g M ra.fr ρ ra.al) ra.d x -> Is H (vmsk g M rb.fr ρ rb.al) rb.d y -> PostE X.mg E g M ρ env σ H Q (op ra rb) -> r x y H Q
theorem pd_op {a b:Expr} {fa fb:En -> Res R} {op:Operator} {k:R -> R -> Res R} {pos:Pos} (ho:OpD X E (binaryOp op) k) (ha:PD X E a fa) (hb:PD X E b fb) : PD X E (.BinOp a op b pos) (v2 k fa fb) := by
  obtain ⟨r,h1,h2⟩ := ho
  obtain ⟨ta,pa,sa⟩ := ha
  obtain ⟨tb,pb,sb⟩ := hb
  exact ⟨_,pe_op h1 pa pb,fun g M ρ env σ H Q rep p => sa.twoE sb rep p fun ra rb x y M' H' rep' i1 i2 p' => h2 g M' ρ env σ H' Q ra rb x y rep' i1 i2 p'⟩
theorem pd_cmp {a b:Expr} {fa fb:En -> Res R} {op:CmpOp} {k:R -> R -> Res R} {pos:Pos} (ho:OpD X E (compareOp op) k) (ha:PD X E a fa) (hb:PD X E b fb) (hm:behindInMarks op b = false) : PD X E (.Compare a [op] [b] pos) (v2 k fa fb) := by
  obtain ⟨r,h1,h2⟩ := ho
  obtain ⟨ta,pa,sa⟩ := ha
  obtain ⟨tb,pb,sb⟩ := hb
  exact ⟨_,pe_cmpR h1 pa pb hm,fun g M ρ env σ H Q rep p => sa.twoE sb rep p fun ra rb x y M' H' rep' i1 i2 p' => h2 g M' ρ env σ H' Q ra rb x y rep' i1 i2 p'⟩
def oI (C:Int -> Int -> Bool) (k:Int -> Int -> D) (a b:R) : Res R := match a.d,b.d with
  | .int i,.int j => if C i j then .ok (.val (k i j) true []) else .stuck
  | _,_ => .stuck
theorem opd_I {f:Value -> Value -> Sem Value} {C:Int -> Int -> Prop} {kV:Int -> Int -> V} (c:Int -> Int -> Bool) (k:Int -> Int -> D) (ho:OpR X f (rI C kV)) (hc:∀ i j,c i j = true -> C i j) (hk:∀ H m i j,Is H m (k i j) (kV i j)) : OpD X E f (oI c k) := by
  refine ⟨_,ho,fun g M ρ env σ H Q ra rb x y rep i1 i2 p => ?_⟩
  unfold oI at p
  cases e1:ra.d with
  | int i =>
    rw [e1] at p i1
    cases e2:rb.d with
    | int j =>
      rw [e2] at p i2
      cases i1; cases i2
      by_cases h:c i j = true
      · simp only [h,if_true] at p
        exact ⟨i,j,rfl,rfl,hc i j h,p _ M H (Ext.refl M H) rep (hk H _ i j)⟩
      · simp only [h] at p
        exact p.elim
    | _ => rw [e2] at p; exact p.elim
  | _ => rw [e1] at p; exact p.elim
theorem opd_I0 {f:Value -> Value -> Sem Value} {kV:Int -> Int -> V} (k:Int -> Int -> D) (ho:OpR X f (rI0 kV)) (hk:∀ H m i j,Is H m (k i j) (kV i j)) : OpD X E f (oI (fun _ _ => true) k) := by
  refine opd_I (C := fun _ _ => True) (kV := kV) _ k (fun pins s σ H x y v u Q I rx ry h => ?_) (fun _ _ _ => True.intro) hk
  obtain ⟨i,j,a,b,_,q⟩ := h
  exact ho pins s σ H x y v u Q I rx ry ⟨i,j,a,b,q⟩
def oSub:R -> R -> Res R := oI (fun _ _ => true) fun i j => .int (i - j)
def cMul (i j:Int) : Bool := (decide (-(2 ^ 64) < i) && decide (i < 2 ^ 64)) || (decide (-(2 ^ 64) < j) && decide (j < 2 ^ 64))
def oMul:R -> R -> Res R := oI cMul fun i j => .int (i * j)
def oDiv:R -> R -> Res R := oI (fun _ j => decide (0 < j) && decide (j < 1073741824)) fun i j => .int (i / j)
def oMod:R -> R -> Res R := oI (fun _ j => decide (0 < j)) fun i j => .int (i % j)
theorem od_sub:OpD X E (binaryOp .Sub) oSub := opd_I0 _ op_sub fun _ _ _ _ => rfl
theorem od_mul:OpD X E (binaryOp .Mult) oMul := opd_I _ _ op_mul (fun i j h => by
  simp only [cMul,Bool.or_eq_true,Bool.and_eq_true,decide_eq_true_eq] at h
  exact h) fun _ _ _ _ => rfl
theorem od_div:OpD X E (binaryOp .FloorDiv) oDiv := opd_I _ _ op_fdiv (fun i j h => by
  simp only [Bool.and_eq_true,decide_eq_true_eq] at h
  exact h) fun _ _ _ _ => rfl
theorem od_mod:OpD X E (binaryOp .Mod) oMod := opd_I _ _ op_mod (fun i j h => by simpa using h) fun _ _ _ _ => rfl
def oLt:R -> R -> Res R := oI (fun _ _ => true) fun i j => .bl (decide (i < j))
def oLe:R -> R -> Res R := oI (fun _ _ => true) fun i j => .bl (decide (i <= j))
def oGe:R -> R -> Res R := oI (fun _ _ => true) fun i j => .bl (decide (j <= i))
theorem od_lt:OpD X E (compareOp .Lt) oLt := opd_I0 _ op_lt fun _ _ _ _ => rfl
theorem od_le:OpD X E (compareOp .LtE) oLe := opd_I0 _ op_le fun _ _ _ _ => rfl
theorem od_ge:OpD X E (compareOp .GtE) oGe := opd_I0 _ op_ge fun _ _ _ _ => rfl
theorem Inv.rdL {pins:List (Addr × Obj)} {σ:St} {H:Hp} {s:Shared} {l:Addr} {xs:List V} (I:L2.Inv X pins σ H s) (h:Rd H l (.lst xs)) :
    xs.length <= sizeLine /\ ∃ (its : List Value) (n : Nat), Vals xs its /\ xs.length = its.length /\ s.heap.get? l = some { cls := .type "list", data := .seq its.toArray n } := by
  obtain ⟨z,its,n,r,e⟩ := (h.ok I.hok:ObjOk X.prog X.w H s.heap l (.lst xs))
  exact ⟨z,its,n,r,r.length,e⟩
def rCatS:R2 := fun x y H Q => ∃ l b xs zs,x = .ref l /\ y = .ref b /\ Rd H l (.lst xs) /\ Rd H b (.lst zs) /\ xs.length + zs.length <= sizeLine /\ ∀ p,H p = none -> Q (.ref p) (upd H p (.lst (xs ++ zs)))
theorem op_catS:OpR X (binaryOp .Add) rCatS := by
  intro pins s σ H x y v u Q I rx ry h
  obtain ⟨l,b,xs,zs,rfl,rfl,hH,hB,hz,q⟩ := h
  cases rx
  cases ry
  obtain ⟨z,its,n,r,hl,e⟩ := Inv.rdL I hH
  obtain ⟨z2,its2,n2,r2,hl2,e2⟩ := Inv.rdL I hB
  refine PySem.P.add_list e e2 ?_ (by rw [List.size_toArray,List.size_toArray]; omega)
  have ea:its.toArray ++ its2.toArray = (its ++ its2).toArray := by simp
  rw [ea]
  exact ⟨.ref _,_,I.lnew (t' := s.toks) (r.append r2) (by rw [List.length_append]; omega),rfl,q _ I.fresh⟩
def oAdd (a b:R) : Res R := match a.d,b.d with
  | .int i,.int j => .ok (.val (.int (i + j)) true [])
  | .lst xs,.lst ys => if xs.length + ys.length <= lim then .ok (mkL (xs ++ ys) (a.fr && b.fr) (a.al ++ b.al)) else .stuck
  | .tup xs,.tup ys => if xs.length + ys.length <= lim /\ xs ≠ [] then .ok (mkV (.tup (xs ++ ys)) (a.fr && b.fr) (a.al ++ b.al)) else .stuck
  | .str x,.str y => if x.length + y.length <= lim then .ok (.val (.str (x ++ y)) true []) else .stuck
  | _,_ => .stuck
section
variable {g:Gd} {M:Addr -> Prop} {ρ:Pr} {env:En} {σ:St}
theorem vmsk.l {f1 f2:Bool} {l1 l2:List Nat} {a:Addr} (h:vmsk g M f1 ρ l1 a) : vmsk g M (f1 && f2) ρ (l1 ++ l2) a :=
  h.imp (fun z => ⟨z.1,fun e => z.2 (by cases f1 <;> simp_all)⟩) fun ⟨i,hi,o⟩ => ⟨i,by simp [hi],o⟩
theorem vmsk.r {f1 f2:Bool} {l1 l2:List Nat} {a:Addr} (h:vmsk g M f2 ρ l2 a) : vmsk g M (f1 && f2) ρ (l1 ++ l2) a :=
  h.imp (fun z => ⟨z.1,fun e => z.2 (by cases f2 <;> simp_all)⟩) fun ⟨i,hi,o⟩ => ⟨i,by simp [hi],o⟩
end
theorem od_add:OpD X E (binaryOp .Add) oAdd := by
  refine ⟨_,op_add.or (op_catS.or (op_catT.or op_add_str)),fun g M ρ env σ H Q ra rb x y rep i1 i2 p => ?_⟩
  unfold oAdd at p
  cases e1:ra.d with
  | int i =>
    rw [e1] at p i1
    cases e2:rb.d with
    | int j =>
      rw [e2] at p i2
      cases i1; cases i2
      exact .inl ⟨i,j,rfl,rfl,p _ M H (Ext.refl M H) rep rfl⟩
    | _ => rw [e2] at p; exact p.elim
  | lst xs =>
    rw [e1] at p i1
    cases e2:rb.d with
    | lst ys =>
      rw [e2] at p i2
      obtain ⟨a,vs,rfl,h1,h2⟩ := i1.rd
      obtain ⟨b,ws,rfl,h3,h4⟩ := i2.rd
      by_cases hz:xs.length + ys.length <= lim
      · simp only [hz,if_true] at p
        refine .inr (.inl ⟨a,b,vs,ws,rfl,rfl,h1,h3,by rw [h2.length,h4.length]; exact lim_le hz,fun q hq => ?_⟩)
        exact p.lst rep hq ((h2.weak fun _ z => z.l).append (h4.weak fun _ z => z.r))
      · simp only [hz,if_false] at p
        exact p.elim
    | _ => rw [e2] at p; exact p.elim
  | tup xs =>
    rw [e1] at p i1
    cases e2:rb.d with
    | tup ys =>
      rw [e2] at p i2
      obtain ⟨a,vs,rfl,h1,h2⟩ := i1
      obtain ⟨b,ws,rfl,h3,h4⟩ := i2
      dsimp only at p
      by_cases hz:xs.length + ys.length <= lim /\ xs ≠ []
      · rw [if_pos hz] at p
        have n1:vs ≠ [] := fun z => hz.2 (by have := h2.length; rw [z] at this; exact List.eq_nil_of_length_eq_zero this.symm)
        refine .inr (.inr (.inl ⟨a,b,vs,ws,rfl,rfl,SqT.of h1,SqT.of h3,n1,by rw [h2.length,h4.length]; exact lim_le hz.1,fun z => ?_,fun _ q hq => ?_⟩))
        · have ey:ys = [] := by have := h4.length; rw [z] at this; exact List.eq_nil_of_length_eq_zero this.symm
          rw [ey,List.append_nil] at p
          exact p.val rep (Is.weak (d := .tup xs) (fun _ z => z.l) ⟨a,vs,rfl,h1,h2⟩)
        · exact p.tup rep hq ((h2.weak fun _ z => z.l).append (h4.weak fun _ z => z.r))
      · rw [if_neg hz] at p
        exact p.elim
    | _ => rw [e2] at p; exact p.elim
  | str xs =>
    rw [e1] at p i1
    cases e2:rb.d with
    | str ys =>
      rw [e2] at p i2
      cases i1; cases i2
      by_cases hz:xs.length + ys.length <= lim
      · simp only [hz,if_true] at p
        exact .inr (.inr (.inr ⟨xs,ys,rfl,rfl,lim_le hz,p _ M H (Ext.refl M H) rep rfl⟩))
      · simp only [hz,if_false] at p
        exact p.elim
    | _ => rw [e2] at p; exact p.elim
  | _ => rw [e1] at p; exact p.elim
def oEq (a b:R) : Res R := if a.d.dep <= 50 /\ b.d.dep <= 50 then .ok (.val (.bl (eqD a.d b.d)) true []) else .stuck
def oNe (a b:R) : Res R := if a.d.dep <= 50 /\ b.d.dep <= 50 then .ok (.val (.bl (!eqD a.d b.d)) true []) else .stuck
def rEqD:R2 := fun x y H Q => ∃ d e m m',Is H m d x /\ Is H m' e y /\ (d.dep <= 50 /\ e.dep <= 50) /\ Q (.bl (eqD d e)) H
def rNeD:R2 := fun x y H Q => ∃ d e m m',Is H m d x /\ Is H m' e y /\ (d.dep <= 50 /\ e.dep <= 50) /\ Q (.bl (!eqD d e)) H
theorem op_eqD (hu:X.A.units + 64 < cLine) : OpR X (compareOp .Eq) rEqD := by
  intro pins s σ H x y v u Q I rx ry h
  obtain ⟨d,e,m,m',h1,h2,hd,q⟩ := h
  exact rc_step I.hok (by omega) (rec_at I.hok (A := X.A) (n := 50) (by omega) (by omega)) hd.1 (by omega) (by omega) h1 h2 rx ry X.prog X.w X.xe _ ⟨.bl _,H,I,rfl,q⟩
theorem op_neD (hu:X.A.units + 64 < cLine) : OpR X (compareOp .NotEq) rNeD := by
  intro pins s σ H x y v u Q I rx ry h
  obtain ⟨d,e,m,m',h1,h2,hd,q⟩ := h
  exact ne_step I.hok (by omega) (rec_at I.hok (A := X.A) (n := 50) (by omega) (by omega)) hd.1 (by omega) (by omega) h1 h2 rx ry X.prog X.w X.xe _ ⟨.bl _,H,I,rfl,q⟩
theorem od_eq (hu:X.A.units + 64 < cLine) : OpD X E (compareOp .Eq) oEq := by
  refine ⟨_,op_eqD hu,fun g M ρ env σ H Q ra rb x y rep i1 i2 p => ?_⟩
  unfold oEq at p
  by_cases h:ra.d.dep <= 50 /\ rb.d.dep <= 50
  · rw [if_pos h] at p
    exact ⟨_,_,_,_,i1,i2,h,p _ M H (Ext.refl M H) rep rfl⟩
  · rw [if_neg h] at p; exact p.elim
theorem od_ne (hu:X.A.units + 64 < cLine) : OpD X E (compareOp .NotEq) oNe := by
  refine ⟨_,op_neD hu,fun g M ρ env σ H Q ra rb x y rep i1 i2 p => ?_⟩
  unfold oNe at p
  by_cases h:ra.d.dep <= 50 /\ rb.d.dep <= 50
  · rw [if_pos h] at p
    exact ⟨_,_,_,_,i1,i2,h,p _ M H (Ext.refl M H) rep rfl⟩
  · rw [if_neg h] at p; exact p.elim
end
end L3
namespace L3
open PySem PySem.Spec PyProof.Rows L2
section
variable {X:Cx} {E:XK}
def D.isNon:D -> Bool
  | .non => true
  | _ => false
def vNot (fa:En -> Res R) : En -> Res R := fun env => (fa env).bind fun ra => match ra.d with
  | .bl b => .ok (.val (.bl (!b)) true [])
  | _ => .stuck
def vAnd (fa fb:En -> Res R) : En -> Res R := fun env => (fa env).bind fun ra => match ra.d with
  | .bl true => fb env
  | .bl false => .ok (.val (.bl false) true [])
  | _ => .stuck
theorem pd_not {a:Expr} {fa:En -> Res R} {pos:Pos} (ha:PD X E a fa) : PD X E (.UnaryOp .Not a pos) (vNot fa) := by
  obtain ⟨ta,pa,sa⟩ := ha
  refine ⟨_,pe_not pa,fun g M ρ env σ H Q rep p => sa.oneE rep p fun r v M' H' e rep' i p' => ?_⟩
  cases q:r.d with
  | bl b =>
    rw [q] at i
    simp only [q] at p'
    cases i
    exact ⟨b,rfl,p' _ M' H' (Ext.refl _ _) rep' rfl⟩
  | _ => simp only [q] at p'; exact p'.elim
theorem pd_one {op:BoolOp} {a:Expr} {fa:En -> Res R} {pos:Pos} (ha:PD X E a fa) : PD X E (.BoolOp op [a] pos) fa := let ⟨t,pa,sa⟩ := ha; ⟨t,pe_one pa,sa⟩
theorem pd_and {a b:Expr} {rest:List Expr} {fa fb:En -> Res R} {pos:Pos} (ha:PD X E a fa) (hb:PD X E (.BoolOp .And (b :: rest) pos) fb) : PD X E (.BoolOp .And (a :: b :: rest) pos) (vAnd fa fb) := by
  obtain ⟨ta,pa,sa⟩ := ha
  obtain ⟨tb,pb,sb⟩ := hb
  refine ⟨_,pe_and pa pb,fun g M ρ env σ H Q rep p => sa.oneE rep p fun r v M' H' e rep' i p' => ?_⟩
  cases q:r.d with
  | bl b =>
    rw [q] at i
    simp only [q] at p'
    cases i
    refine ⟨b,rfl,?_⟩
    cases b with
    | true => exact iteT (sb g M' ρ env σ H' Q rep' p')
    | false => exact iteF (p' _ M' H' (Ext.refl _ _) rep' rfl)
  | _ => simp only [q] at p'; exact p'.elim
def tru:D -> Res Bool
  | .non => .ok false
  | .bl b => .ok b
  | .int i => .ok (i != 0)
  | .str y => if y.length <= lim then .ok ((y.length:Int) != 0) else .stuck
  | .tup ds => .ok (!ds.isEmpty)
  | .lst ds => .ok (!ds.isEmpty)
  | .dic _ _ => .stuck
theorem Is.tru {H:Hp} {m:Addr -> Prop} {d:D} {v:V} {k:Bool} (h:Is H m d v) (e:tru d = .ok k) : TruV X.K v H k := by
  cases d with
  | non => cases h; cases e; rfl
  | bl b => cases h; cases e; rfl
  | int b => cases h; cases e; rfl
  | str b =>
    cases h
    unfold L3.tru at e
    dsimp only at e
    by_cases hl:b.length <= lim
    · rw [if_pos hl] at e; cases e; exact ⟨lim_le hl,rfl⟩
    · rw [if_neg hl] at e; cases e
  | tup ds =>
    obtain ⟨a,vs,rfl,h1,h2⟩ := h
    cases e
    refine .inr (.inl ⟨vs,SqT.of h1,?_⟩)
    have := h2.length
    cases ds <;> cases vs <;> simp_all
  | lst ds =>
    obtain ⟨a,vs,rfl,h1,h2⟩ := h.rd
    cases e
    refine .inl ⟨vs,.inl h1,?_⟩
    have := h2.length
    cases ds <;> cases vs <;> simp_all
  | dic ks ds => cases e
def vTru (fa:En -> Res R) : En -> Res Bool := fun env => (fa env).bind fun ra => tru ra.d
theorem pt_tru {a:Expr} {fa:En -> Res R} (ha:PD X E a fa) (he:∀ whole,isTrue a X.env whole = (do let v <- whole; standAt a.pos; holding [v] (truthy v)) := by intro _; rfl) : PTD X E a (vTru fa) := by
  obtain ⟨ta,pa,sa⟩ := ha
  refine ⟨_,pt_truth pa he,fun g M ρ env σ H Q rep p => sa.oneT rep p fun r v M' H' e rep' i p' => ?_⟩
  cases q:tru r.d with
  | stuck => rw [q] at p'; exact p'.elim
  | exc c =>
    exfalso
    unfold tru at q
    cases z:r.d <;> simp only [z] at q <;> first | cases q | (split at q <;> cases q)
  | ok k =>
    rw [q] at p'
    exact ⟨k,i.tru q,p' M' H' (Ext.refl _ _) rep'⟩
def vB (fa:En -> Res R) : En -> Res Bool := fun env => (fa env).bind fun ra => match ra.d with
  | .bl b => .ok b
  | _ => .stuck
theorem pt_cmpD {a b:Expr} {fa fb:En -> Res R} {op:CmpOp} {k:R -> R -> Res R} {pos:Pos} (ho:OpD X E (compareOp op) k) (ha:PD X E a fa) (hb:PD X E b fb) (hm:behindInMarks op b = false) : PTD X E (.Compare a [op] [b] pos) (vB (v2 k fa fb)) := by
  obtain ⟨r,h1,h2⟩ := ho
  obtain ⟨ta,pa,sa⟩ := ha
  obtain ⟨tb,pb,sb⟩ := hb
  have S:Snd X.mg E (tOp r ta tb) (v2 k fa fb) := fun g M ρ env σ H Q rep p => sa.twoE sb rep p fun ra rb x y M' H' rep' i1 i2 p' => h2 g M' ρ env σ H' Q ra rb x y rep' i1 i2 p'
  refine ⟨_,pt_cmpR h1 pa pb hm,fun g M ρ env σ H Q rep p => S.oneT rep p fun r v M' H' e rep' i p' => ?_⟩
  cases q:r.d with
  | bl b =>
    rw [q] at i
    simp only [q] at p'
    cases i
    exact ⟨b,rfl,p' M' H' (Ext.refl _ _) rep'⟩
  | _ => simp only [q] at p'; exact p'.elim
def bNot (fa:En -> Res Bool) : En -> Res Bool := fun env => (fa env).bind fun b => .ok (!b)
def bAnd (fa fb:En -> Res Bool) : En -> Res Bool := fun env => (fa env).bind fun b => if b then fb env else .ok false
def bOr (fa fb:En -> Res Bool) : En -> Res Bool := fun env => (fa env).bind fun b => if b then .ok true else fb env
section
variable {mg:Str -> Option Value} {g:Gd} {M M':Addr -> Prop} {ρ:Pr} {env:En} {σ:St} {H H':Hp}
theorem SndT.oneT {t:TT} {f:En -> Res Bool} (h:SndT mg E t f) (rep:Rep g M ρ env σ H) {K:Bool -> Res Bool} {Q':Bool -> Hp -> Prop} {Q:Bool -> Hp -> Prop} (hp:PostT mg E g M ρ env σ H Q' ((f env).bind K))
    (k:∀ b M' H',Ext M H M' H' -> Rep g M' ρ env σ H' -> PostT mg E g M' ρ env σ H' Q' (K b) -> Q b H') : t σ H Q := by
  refine h g M ρ env σ H Q rep ?_
  cases e:f env with
  | stuck => rw [e] at hp; exact hp
  | exc c => rw [e] at hp; exact hp
  | ok b => rw [e] at hp; exact fun M1 H1 e1 rep1 => k b M1 H1 e1 rep1 (PostT.ext e1 hp)
theorem SndT.oneE {t:TT} {f:En -> Res Bool} (h:SndT mg E t f) (rep:Rep g M ρ env σ H) {K:Bool -> Res R} {Q':VK} {Q:Bool -> Hp -> Prop} (hp:PostE mg E g M ρ env σ H Q' ((f env).bind K))
    (k:∀ b M' H',Ext M H M' H' -> Rep g M' ρ env σ H' -> PostE mg E g M' ρ env σ H' Q' (K b) -> Q b H') : t σ H Q := by
  refine h g M ρ env σ H Q rep ?_
  cases e:f env with
  | stuck => rw [e] at hp; exact hp
  | exc c => rw [e] at hp; exact hp
  | ok b => rw [e] at hp; exact fun M1 H1 e1 rep1 => k b M1 H1 e1 rep1 (PostE.ext e1 hp)
end
theorem pt_notD {a:Expr} {fa:En -> Res Bool} {pos:Pos} (ha:PTD X E a fa) : PTD X E (.UnaryOp .Not a pos) (bNot fa) := by
  obtain ⟨ta,pa,sa⟩ := ha
  exact ⟨_,pt_not pa,fun g M ρ env σ H Q rep p => sa.oneT rep p fun b M' H' e rep' p' => p' M' H' (Ext.refl _ _) rep'⟩
theorem pw_and1D {a:Expr} {fa:En -> Res Bool} {pos:Pos} (ha:PTD X E a fa) : PWD X E (.BoolOp .And [a] pos) fa := let ⟨t,pa,sa⟩ := ha; ⟨t,pw_and1 pa,sa⟩
theorem pw_or1D {a:Expr} {fa:En -> Res Bool} {pos:Pos} (ha:PTD X E a fa) : PWD X E (.BoolOp .Or [a] pos) fa := let ⟨t,pa,sa⟩ := ha; ⟨t,pw_or1 pa,sa⟩
theorem pw_andD {a b:Expr} {rest:List Expr} {fa fb:En -> Res Bool} {pos:Pos} (ha:PTD X E a fa) (hb:PWD X E (.BoolOp .And (b :: rest) pos) fb) : PWD X E (.BoolOp .And (a :: b :: rest) pos) (bAnd fa fb) := by
  obtain ⟨ta,pa,sa⟩ := ha
  obtain ⟨tb,pb,sb⟩ := hb
  refine ⟨_,pw_and pa pb,fun g M ρ env σ H Q rep p => sa.oneT rep p fun b M' H' e rep' p' => ?_⟩
  cases b with
  | true => exact iteT (sb g M' ρ env σ H' Q rep' p')
  | false => exact iteF (p' M' H' (Ext.refl _ _) rep')
theorem pw_orD {a b:Expr} {rest:List Expr} {fa fb:En -> Res Bool} {pos:Pos} (ha:PTD X E a fa) (hb:PWD X E (.BoolOp .Or (b :: rest) pos) fb) : PWD X E (.BoolOp .Or (a :: b :: rest) pos) (bOr fa fb) := by
  obtain ⟨ta,pa,sa⟩ := ha
  obtain ⟨tb,pb,sb⟩ := hb
  refine ⟨_,pw_or pa pb,fun g M ρ env σ H Q rep p => sa.oneT rep p fun b M' H' e rep' p' => ?_⟩
  cases b with
  | true => exact iteT (p' M' H' (Ext.refl _ _) rep')
  | false => exact iteF (sb g M' ρ env σ H' Q rep' p')
def oIx (a b:R) : Res R := match a.d,b.d with
  | .lst xs,.int i => match atI xs i with
    | some d => .ok (mkV d a.fr a.al)
    | none => .stuck
  | .tup xs,.int i => match atI xs i with
    | some d => .ok (mkV d a.fr a.al)
    | none => .stuck
  | .str z,.int i => if z.length <= lim then (match atI z.cps.toList i with
    | some c => .ok (.val (.str ⟨#[c]⟩) true [])
    | none => .stuck) else .stuck
  | _,_ => .stuck
theorem IsAll.atI {H:Hp} {m:Addr -> Prop} {ds:List D} {vs:List V} {i:Int} {d:D} (h:IsAll H m ds vs) (e:L2.atI ds i = some d) : ∃ v,L2.atI vs i = some v /\ Is H m d v := by
  unfold L2.atI at e ⊢
  rw [h.length]
  cases q:ixN ds.length i with
  | none => rw [q] at e; cases e
  | some j =>
    rw [q] at e
    exact h.get e
theorem od_ix:∃ r:R2,IxR X r /\ ∀ g M ρ env σ H Q ra rb x y,Rep g M ρ env σ H -> Is H (vmsk g M ra.fr ρ ra.al) ra.d x -> Is H (vmsk g M rb.fr ρ rb.al) rb.d y -> PostE X.mg E g M ρ env σ H Q (oIx ra rb) -> r x y H Q := by
  refine ⟨_,ix_seq,fun g M ρ env σ H Q ra rb x y rep i1 i2 p => ?_⟩
  unfold oIx at p
  cases e1:ra.d with
  | lst xs =>
    rw [e1] at p i1
    cases e2:rb.d with
    | int i =>
      rw [e2] at p i2
      cases i2
      obtain ⟨a,vs,rfl,h1,h2⟩ := i1.rd
      cases q:atI xs i with
      | none => simp only [q] at p; exact p.elim
      | some d =>
        simp only [q] at p
        obtain ⟨v,ev,iv⟩ := h2.atI q
        exact .inl ⟨a,vs,i,v,rfl,rfl,.inl h1,ev,p.val rep iv⟩
    | _ => rw [e2] at p; exact p.elim
  | tup xs =>
    rw [e1] at p i1
    cases e2:rb.d with
    | int i =>
      rw [e2] at p i2
      cases i2
      obtain ⟨a,vs,rfl,h1,h2⟩ := i1
      cases q:atI xs i with
      | none => simp only [q] at p; exact p.elim
      | some d =>
        simp only [q] at p
        obtain ⟨v,ev,iv⟩ := h2.atI q
        exact .inr (.inl ⟨a,vs,i,v,rfl,rfl,SqT.of h1,ev,p.val rep iv⟩)
    | _ => rw [e2] at p; exact p.elim
  | str z =>
    rw [e1] at p i1
    cases e2:rb.d with
    | int i =>
      rw [e2] at p i2
      cases i1; cases i2
      by_cases hz:z.length <= lim
      · simp only [hz,if_true] at p
        cases q:atI z.cps.toList i with
        | none => simp only [q] at p; exact p.elim
        | some c =>
          simp only [q] at p
          exact .inr (.inr ⟨z,i,c,rfl,rfl,lim_le hz,q,p _ M H (Ext.refl _ _) rep rfl⟩)
      · simp only [hz,if_false] at p; exact p.elim
    | _ => rw [e2] at p; exact p.elim
  | _ => rw [e1] at p; exact p.elim
theorem pd_ix {a b:Expr} {fa fb:En -> Res R} {pos:Pos} (ha:PD X E a fa) (hb:PD X E b fb) (hs:PlainIx b) : PD X E (.Subscript a b pos) (v2 oIx fa fb) := by
  obtain ⟨r,h1,h2⟩ := od_ix (X := X) (E := E)
  obtain ⟨ta,pa,sa⟩ := ha
  obtain ⟨tb,pb,sb⟩ := hb
  exact ⟨_,pe_ix h1 pa pb hs,fun g M ρ env σ H Q rep p => sa.twoE sb rep p fun ra rb x y M' H' rep' i1 i2 p' => h2 g M' ρ env σ H' Q ra rb x y rep' i1 i2 p'⟩
def vIxV (i:Nat) (fb:En -> Res R) : En -> Res R := fun env => match env[i]? with
  | some (some (.own ds fr)) => (fb env).bind fun rb => match rb.d with
    | .int k => match atI ds k with
      | some d => .ok (mkV d fr [])
      | none => .stuck
    | _ => .stuck
  | _ => v2 oIx (vVar i) fb env
theorem pd_ixV {i:Nat} {a b:Expr} {fb:En -> Res R} {pos:Pos} (ha:PE X a (tVar i)) (hb:PD X E b fb) (hs:PlainIx b) : PD X E (.Subscript a b pos) (vIxV i fb) := by
  obtain ⟨r,h1,h2⟩ := od_ix (X := X) (E := E)
  obtain ⟨tb,pb,sb⟩ := hb
  refine ⟨_,pe_ix (ix_list.or h1) ha pb hs,fun g M ρ env σ H Q rep p => ?_⟩
  have gen:PostE X.mg E g M ρ env σ H Q (v2 oIx (vVar i) fb env) -> tOp (fun x y H Q => rIxL X.K x y H Q \/ r x y H Q) (tVar i) tb σ H Q := fun p =>
    Snd.twoE snd_var sb rep p fun ra rb x y M' H' rep' i1 i2 p' => .inr (h2 g M' ρ env σ H' Q ra rb x y rep' i1 i2 p')
  unfold vIxV at p
  cases e1:env[i]? with
  | none => rw [e1] at p; exact gen p
  | some o =>
    cases o with
    | none => rw [e1] at p; exact gen p
    | some sl =>
      cases sl with
      | val d fr => rw [e1] at p; exact gen p
      | tre d => rw [e1] at p; exact gen p
      | mes d => rw [e1] at p; exact gen p
      | pin d => rw [e1] at p; exact gen p
      | dis d => rw [e1] at p; exact gen p
      | own ds fr =>
        rw [e1] at p
        obtain ⟨v,ev,a,vs,rfl,k1,k2,k4⟩ := rep.slot i _ e1
        refine ⟨_,ev,sb.oneE rep p fun rb y M' H' e rep' i2 p' => ?_⟩
        cases q:rb.d with
        | int k =>
          rw [q] at i2
          simp only [q] at p'
          cases i2
          cases q2:atI ds k with
          | none => simp only [q2] at p'; exact p'.elim
          | some d =>
            simp only [q2] at p'
            have k5:IsAll H' (vmsk g M' fr ρ []) ds vs := (IsAll.weak (fun _ z => .inl z) k4:IsAll H (vmsk g M fr ρ []) ds vs).ext e
            obtain ⟨w,ew,iw⟩ := k5.atI q2
            exact .inl ⟨a,vs,k,w,rfl,rfl,.inl (.inl (e.h _ _ k1)),ew,p'.val rep' iw⟩
        | _ => simp only [q] at p'; exact p'.elim
end
end L3
namespace L3
open PySem PySem.Spec PyProof.Rows L2
section
variable {mg:Str -> Option Value} {E:XK} {g:Gd} {M M':Addr -> Prop} {ρ:Pr} {env:En} {σ:St} {H H':Hp}
theorem SndA.one {t:TA} {f:En -> Res (List R)} (h:SndA mg E t f) (rep:Rep g M ρ env σ H) {α:Type} {K:List R -> Res α} {P:(M:Addr -> Prop) -> (H:Hp) -> Res α -> Prop} {Q:List V -> Hp -> Prop}
    (hp:P M H ((f env).bind K)) (hs:∀ M H,P M H .stuck -> False) (hx:∀ M H c,P M H (.exc c) -> XOk mg E g c) (he:∀ M H M' H' r,Ext M H M' H' -> P M H r -> P M' H' r)
    (k:∀ rs vs M' H',Ext M H M' H' -> Rep g M' ρ env σ H' -> IsAll H' (vmsk g M' (rfrs rs) ρ (rals rs)) (rs.map R.d) vs -> P M' H' (K rs) -> Q vs H') : t σ H Q := by
  refine h g M ρ env σ H Q rep ?_
  cases e:f env with
  | stuck => rw [e] at hp; exact hs _ _ hp
  | exc c => rw [e] at hp; exact hx _ _ c hp
  | ok r =>
    rw [e] at hp
    exact fun vs M1 H1 e1 rep1 is => k r vs M1 H1 e1 rep1 is (he _ _ _ _ _ e1 hp)
theorem SndA.oneE {t:TA} {f:En -> Res (List R)} (h:SndA mg E t f) (rep:Rep g M ρ env σ H) {K:List R -> Res R} {Q':VK} {Q:List V -> Hp -> Prop} (hp:PostE mg E g M ρ env σ H Q' ((f env).bind K))
    (k:∀ rs vs M' H',Ext M H M' H' -> Rep g M' ρ env σ H' -> IsAll H' (vmsk g M' (rfrs rs) ρ (rals rs)) (rs.map R.d) vs -> PostE mg E g M' ρ env σ H' Q' (K rs) -> Q vs H') : t σ H Q :=
  h.one rep (P := fun M H r => PostE mg E g M ρ env σ H Q' r) hp (fun _ _ z => z) (fun _ _ _ z => z) (fun _ _ _ _ _ e p => p.ext e) k
theorem SndA.oneA {t:TA} {f:En -> Res (List R)} (h:SndA mg E t f) (rep:Rep g M ρ env σ H) {K:List R -> Res (List R)} {Q':List V -> Hp -> Prop} {Q:List V -> Hp -> Prop} (hp:PostA mg E g M ρ env σ H Q' ((f env).bind K))
    (k:∀ rs vs M' H',Ext M H M' H' -> Rep g M' ρ env σ H' -> IsAll H' (vmsk g M' (rfrs rs) ρ (rals rs)) (rs.map R.d) vs -> PostA mg E g M' ρ env σ H' Q' (K rs) -> Q vs H') : t σ H Q :=
  h.one rep (P := fun M H r => PostA mg E g M ρ env σ H Q' r) hp (fun _ _ z => z) (fun _ _ _ z => z) (fun _ _ _ _ _ e p => p.ext e) k
theorem IsAll.args {r:R} {rs:List R} {v:V} {vs:List V} (h1:Is H (vmsk g M r.fr ρ r.al) r.d v) (h2:IsAll H (vmsk g M (rfrs rs) ρ (rals rs)) (rs.map R.d) vs) :
    IsAll H (vmsk g M (rfrs (r :: rs)) ρ (rals (r :: rs))) ((r :: rs).map R.d) (v :: vs) := by
  refine ⟨v,vs,rfl,h1.weak fun a z => ?_,h2.weak fun a z => ?_⟩
  · exact (z.l:vmsk g M (r.fr && rfrs rs) ρ (r.al ++ rals rs) a)
  · exact (z.r:vmsk g M (r.fr && rfrs rs) ρ (r.al ++ rals rs) a)
end
section
variable {X:Cx} {E:XK}
def aNil:En -> Res (List R) := fun _ => .ok []
def aCons (f:En -> Res R) (fs:En -> Res (List R)) : En -> Res (List R) := fun env => (f env).bind fun r => (fs env).bind fun rs => .ok (r :: rs)
theorem pad_nil:PAD X E [] aNil := ⟨_,pa_nil,fun g M ρ env σ H Q rep p => p [] M H (Ext.refl _ _) rep rfl⟩
theorem pad_cons {e:Expr} {es:List Expr} {f:En -> Res R} {fs:En -> Res (List R)} (he:PD X E e f) (hr:PAD X E es fs) (hs:starEach (e :: es) X.env = (false,eval e X.env) :: starEach es X.env := by rfl) : PAD X E (e :: es) (aCons f fs) := by
  obtain ⟨t,p1,s1⟩ := he
  obtain ⟨u,p2,s2⟩ := hr
  refine ⟨_,pa_cons p1 p2 hs,fun g M ρ env σ H Q rep p => s1.oneA rep p fun r v M1 H1 e1 rep1 i1 q1 => s2.oneA rep1 q1 fun rs vs M2 H2 e2 rep2 i2 q2 => ?_⟩
  exact q2 (v :: vs) M2 H2 (Ext.refl _ _) rep2 (IsAll.args (i1.ext e2) i2)
def vTup (fs:En -> Res (List R)) : En -> Res R := fun env => (fs env).bind fun rs => if rs.length <= lim then .ok (mkV (.tup (rs.map R.d)) (rfrs rs) (rals rs)) else .stuck
theorem pd_tup {es:List Expr} {fs:En -> Res (List R)} {k:Nat} {pos:Pos} (h:PAD X E es fs) : PD X E (.Tuple es k pos) (vTup fs) := by
  obtain ⟨t,p1,s1⟩ := h
  refine ⟨_,pe_tup p1,fun g M ρ env σ H Q rep p => s1.oneE rep p fun rs vs M1 H1 e1 rep1 i1 q1 => ?_⟩
  by_cases hl:rs.length <= lim
  · rw [if_pos hl] at q1
    exact ⟨by rw [i1.length,List.length_map]; exact lim_le hl,fun a ha => q1.tup rep1 ha i1⟩
  · rw [if_neg hl] at q1; exact q1.elim
def vLst (fs:En -> Res (List R)) : En -> Res R := fun env => (fs env).bind fun rs => if rs.length <= lim then .ok (mkL (rs.map R.d) (rfrs rs) (rals rs)) else .stuck
theorem pd_lst {es:List Expr} {fs:En -> Res (List R)} {pos:Pos} (h:PAD X E es fs) : PD X E (.List es pos) (vLst fs) := by
  obtain ⟨t,p1,s1⟩ := h
  refine ⟨_,pe_lst p1,fun g M ρ env σ H Q rep p => s1.oneE rep p fun rs vs M1 H1 e1 rep1 i1 q1 => ?_⟩
  by_cases hl:rs.length <= lim
  · rw [if_pos hl] at q1
    exact ⟨by rw [i1.length,List.length_map]; exact lim_le hl,fun a ha => q1.lst rep1 ha i1⟩
  · rw [if_neg hl] at q1; exact q1.elim
end
def nl (H0 H':Hp) (a:Addr) : Prop := H0 a = none /\ Mu H' a
def RetOk (g:Gd) (H':Hp) (v:V) : R -> Prop
  | .val d fr _ => Is H' (fun a => nl g.H₀ H' a \/ (fr = false /\ g.Ma a)) d v
  | .new ds fr => ∃ a vs,v = .ref a /\ H' a = some (.lst vs) /\ g.H₀ a = none /\ IsAll H' (fun b => b ≠ a /\ (nl g.H₀ H' b \/ (fr = false /\ g.Ma b))) ds vs
  | .fre d => Is H' (nl g.H₀ H') d v
def PostF (mg:Str -> Option Value) (E:XK) (g:Gd) (Q:VK) : Res R -> Prop
  | .stuck => False
  | .exc c => XOk mg E g c
  | .ok r => ∀ v H',Same g.H₀ H' -> RetOk g H' v r -> Q v H'
def spD (mg:Str -> Option Value) (n:Nat) (F:List D -> Res R) : Sp := fun vs H Q E => vs.length = n /\ ∃ ds Ma,IsAll H Ma ds vs /\ PostF mg E (mkG H Ma) Q (F ds)
def mkC (d:D) (fr:Bool) (rs:List R) : R := if d.flat then .val d true [] else if fr then .fre d else .val d (rfrs rs) (rals rs)
def callR (rs:List R) : R -> R
  | .val d fr _ => mkC d fr rs
  | .new ds fr => if D.flats ds then .new ds true else if fr then .fre (.lst ds) else if (rals rs).isEmpty then .new ds (rfrs rs) else .val (.lst ds) (rfrs rs) (rals rs)
  | .fre d => mkC d true rs
section
variable {g:Gd} {M:Addr -> Prop} {ρ:Pr} {env:En} {σ:St} {H H':Hp}
theorem Rep.came (rep:Rep g M ρ env σ H) (s:Same H H') (p:Addr -> Prop) : Rep g (fun a => M a \/ (nl H H' a /\ p a)) ρ env σ H' :=
  (rep.grow s).moreT fun a z => ⟨z.1.2,rep.same.free z.1.1,(rep.free z.1.1).2.2⟩
theorem mkC_ok {d:D} {fr:Bool} {v:V} (rs:List R) (rep:Rep g M ρ env σ H) (s:Same H H') (h:Is H' (fun a => nl H H' a \/ (fr = false /\ vmsk g M (rfrs rs) ρ (rals rs) a)) d v) :
    ∃ M',Ext M H M' H' /\ Rep g M' ρ env σ H' /\ ROk g M' ρ H H' v (mkC d fr rs) := by
  unfold mkC
  by_cases hf:d.flat = true
  · rw [if_pos hf]
    exact ⟨M,⟨fun _ z => z,s,fun _ z => .inl z⟩,rep.grow s,Is.flat hf h⟩
  · rw [if_neg hf]
    cases fr with
    | true =>
      refine ⟨M,⟨fun _ z => z,s,fun _ z => .inl z⟩,rep.grow s,nl H H',fun a z => ?_,?_⟩
      · exact ⟨fun w => rep.froz a w z.1,z.1,z.2,(rep.free z.1).2.2⟩
      · exact Is.weak (fun a z => z.elim id fun w => by cases w.1) h
    | false =>
      refine ⟨_,⟨fun _ => .inl,s,fun _ z => z.imp id (·.1.1)⟩,rep.came s fun _ => True,?_⟩
      refine Is.weak (fun a z => ?_) h
      rcases z with z | ⟨_,z⟩
      · exact .inl ⟨.inr ⟨z,True.intro⟩,fun _ => rep.same.free z.1⟩
      · exact z.mono fun _ => .inl
theorem RetOk.caller {v:V} {r:R} (rs:List R) (rep:Rep g M ρ env σ H) (s:Same H H') (h:RetOk (mkG H (vmsk g M (rfrs rs) ρ (rals rs))) H' v r) :
    ∃ M',Ext M H M' H' /\ Rep g M' ρ env σ H' /\ ROk g M' ρ H H' v (callR rs r) := by
  cases r with
  | val d fr al => exact mkC_ok rs rep s h
  | fre d => exact mkC_ok rs rep s (Is.weak (fun a z => .inl z) h)
  | new ds fr =>
    obtain ⟨a,vs,rfl,h1,h2,h3⟩ := h
    have h2:H a = none := h2
    obtain ⟨f0,f1,f2⟩ := rep.free h2
    have R1:Rep g (fun b => M b \/ (nl H H' b /\ b ≠ a)) ρ env σ H' := rep.came s fun b => b ≠ a
    have nm:¬ (M a \/ (nl H H' a /\ a ≠ a)) := fun z => z.elim f1 fun z => z.2 rfl
    have X1:Ext M H (fun b => M b \/ (nl H H' b /\ b ≠ a)) H' := ⟨fun _ => .inl,s,fun _ z => z.imp id (·.1.1)⟩
    unfold callR
    dsimp only
    by_cases hfl:D.flats ds = true
    · rw [if_pos hfl]
      exact ⟨_,X1,R1,a,vs,rfl,h1,nm,h2,f2,IsAll.flat hfl h3⟩
    · rw [if_neg hfl]
      cases fr with
      | true =>
        refine ⟨M,⟨fun _ z => z,s,fun _ z => .inl z⟩,rep.grow s,nl H H',fun a z => ?_,?_⟩
        · exact ⟨fun w => rep.froz a w z.1,z.1,z.2,(rep.free z.1).2.2⟩
        · exact ⟨a,vs,rfl,.inl ⟨h1,h2,Mu.lst h1⟩,IsAll.weak (fun b z => z.2.elim id fun w => by cases w.1) h3⟩
      | false =>
        simp only [Bool.false_eq_true,if_false]
        by_cases hc:(rals rs).isEmpty = true
        · rw [if_pos hc]
          refine ⟨_,X1,R1,a,vs,rfl,h1,nm,h2,f2,?_⟩
          refine IsAll.weak (fun b z => ?_) h3
          rcases z with ⟨nb,z | ⟨hf,z⟩⟩
          · exact ⟨.inr ⟨z,nb⟩,fun _ => rep.same.free z.1⟩
          · have hl:rals rs = [] := by simpa using hc
            have z:vmsk g M (rfrs rs) ρ (rals rs) b := z
            rw [hl] at z
            exact ⟨.inl z.nil.1,z.nil.2⟩
        · rw [if_neg hc]
          refine ⟨fun b => (M b \/ (nl H H' b /\ b ≠ a)) \/ b = a,⟨fun _ z => .inl (.inl z),s,fun b z => z.elim (X1.n b) fun e => .inr (e ▸ h2)⟩,R1.more h1 f0 f2,a,vs,rfl,.inl ⟨h1,.inl ⟨.inr rfl,fun _ => f0⟩⟩,?_⟩
          refine IsAll.weak (fun b z => ?_) h3
          rcases z with ⟨nb,z | ⟨hf,z⟩⟩
          · exact .inl ⟨.inl (.inr ⟨z,nb⟩),fun _ => rep.same.free z.1⟩
          · exact vmsk.mono (fun _ w => .inl (.inl w)) z
end
section
variable {X:Cx} {E:XK} {CX:CXT} {k:Nat} {f:Addr} {fd:FuncData} {ps:List Str} {F:List D -> Res R} {x:Str} {p pos:Pos} {e:Expr} {es:List Expr} {fs:En -> Res (List R)}
def vCall (F:List D -> Res R) (fs:En -> Res (List R)) : En -> Res R := fun env => (fs env).bind fun rs => (F (rs.map R.d)).bind fun r => .ok (callR rs r)
theorem snd_call {t:TA} (hl:∀ env rs,fs env = .ok rs -> rs.length = ps.length) (s:SndA X.mg E t fs) : Snd X.mg E (tCall (spD X.mg ps.length F) [] E t) (vCall F fs) := by
  intro g M ρ env σ H Q rep p
  refine s g M ρ env σ H _ rep ?_
  unfold vCall at p
  cases e:fs env with
  | stuck => rw [e] at p; exact p
  | exc c => rw [e] at p; exact p
  | ok rs =>
    rw [e] at p
    intro vs M1 H1 e1 rep1 is
    have p1:PostE X.mg E g M1 ρ env σ H1 Q ((F (rs.map R.d)).bind fun r => .ok (callR rs r)) := PostE.ext e1 p
    rw [List.append_nil]
    refine ⟨by rw [is.length,List.length_map]; exact hl env rs e,rs.map R.d,_,is,?_⟩
    cases q:F (rs.map R.d) with
    | stuck => rw [q] at p1; exact p1
    | exc c => rw [q] at p1; exact fun cls dx H' h1 h2 => p1 cls dx H' h1 (rep1.same.trans h2)
    | ok r =>
      rw [q] at p1
      intro v H2 s2 ro
      obtain ⟨M3,e3,rep3,ro3⟩ := RetOk.caller rs rep1 s2 ro
      exact p1 v M3 H2 e3 rep3 ro3
theorem pd_call (G:FnOk X.prog X.w X.K X.mg X.base CX k f fd ps (spD X.mg ps.length F)) (hr:Room k X.A) (hg:Gl X x) (hm:X.mg x = some (.ref f)) (hk:PySem.W.keepIn X.K (.ref f) = true) (hb:Binds X.K fd ps []) (hx:Passes CX X E)
    (ha : PAD X E (e :: es) fs) (hl : ∀ env rs, fs env = .ok rs -> rs.length = ps.length) (hdb : (x == ("__debug__" : Str)) = false := by decide) (he : starEach (e :: es) X.env = (false, eval e X.env) :: starEach es X.env := by rfl) (hpl : (backTo pos (starEach es X.env)).any (·.1) = false := by rfl) :
    PD X E (.Call (.Name x p) (e :: es) [] pos) (vCall F fs) := by
  obtain ⟨t,p1,s1⟩ := ha
  exact ⟨_,pe_call G hr hg hm hk hb .nil hx p1 hdb he hpl,snd_call hl s1⟩
theorem aNil_len:∀ env rs,aNil env = .ok rs -> rs.length = 0 := fun _ _ e => by cases e; rfl
theorem aCons_len {f:En -> Res R} {fs:En -> Res (List R)} {n:Nat} (h:∀ env rs,fs env = .ok rs -> rs.length = n) : ∀ env rs,aCons f fs env = .ok rs -> rs.length = n + 1 := fun env rs e => by
  unfold aCons at e
  cases q:f env with
  | stuck => rw [q] at e; cases e
  | exc c => rw [q] at e; cases e
  | ok r =>
    rw [q] at e
    cases q2:fs env with
    | stuck => simp only [Res.bind_ok,q2] at e; cases e
    | exc c => simp only [Res.bind_ok,q2] at e; cases e
    | ok rs' =>
      simp only [Res.bind_ok,q2] at e
      cases e
      simp [h env rs' q2]
def CallD (X:Cx) (E:XK) (f:Value) (k:List R -> Res R) : Prop := ∃ r,CallR X f r /\
  ∀ g M ρ env σ H Q rs vs,Rep g M ρ env σ H -> IsAll H (vmsk g M (rfrs rs) ρ (rals rs)) (rs.map R.d) vs -> PostE X.mg E g M ρ env σ H Q (k rs) -> r vs H Q
def vB1 (k:List R -> Res R) (fs:En -> Res (List R)) : En -> Res R := fun env => (fs env).bind k
theorem pd_callB {id : String} {k : List R -> Res R} (hc : CallD X E (.builtin id) k) (hg : Gl X x) (hm : X.mg x = none) (hv : bootBuiltins x = some (.builtin id)) (ha : PAD X E (e :: es) fs) (hn : x ≠ "__name__" := by decide) (hdb : (x == ("__debug__" : Str)) = false := by decide)
    (he:starEach (e :: es) X.env = (false,eval e X.env) :: starEach es X.env := by rfl) (hpl:(backTo pos (starEach es X.env)).any (·.1) = false := by rfl) : PD X E (.Call (.Name x p) (e :: es) [] pos) (vB1 k fs) := by
  obtain ⟨r,h1,h2⟩ := hc
  obtain ⟨t,p1,s1⟩ := ha
  exact ⟨_,pe_callB h1 hg hm hv p1 hn hdb he hpl,fun g M ρ env σ H Q rep p => s1.oneE rep p fun rs vs M1 H1 e1 rep1 i1 q1 => h2 g M1 ρ env σ H1 Q rs vs rep1 i1 q1⟩
def kLen:List R -> Res R
  | [r] => match r.d with
    | .lst ds => .ok (.val (.int ds.length) true [])
    | .tup ds => .ok (.val (.int ds.length) true [])
    | .str z => if z.length <= lim then .ok (.val (.int z.length) true []) else .stuck
    | _ => .stuck
  | _ => .stuck
theorem cd_len : CallD X E (.builtin "len") kLen := by
  refine ⟨_,call_len_seq.or call_len_str,fun g M ρ env σ H Q rs vs rep i p => ?_⟩
  match rs,i,p with
  | [r],i,p =>
    obtain ⟨v,w,rfl,i1,i2⟩ := i
    cases i2
    have i1:Is H (vmsk g M (rfrs [r]) ρ (rals [r])) r.d v := i1
    unfold kLen at p
    dsimp only at p
    cases q:r.d with
    | lst ds =>
      rw [q] at p i1
      obtain ⟨a,ws,rfl,h1,h2⟩ := i1.rd
      exact .inl ⟨a,ws,rfl,.inl (.inl h1),by rw [h2.length]; exact p _ M H (Ext.refl _ _) rep rfl⟩
    | tup ds =>
      rw [q] at p i1
      obtain ⟨a,ws,rfl,h1,h2⟩ := i1
      exact .inl ⟨a,ws,rfl,.inr (SqT.of h1),by rw [h2.length]; exact p _ M H (Ext.refl _ _) rep rfl⟩
    | str z =>
      rw [q] at p i1
      cases i1
      by_cases hz:z.length <= lim
      · simp only [hz,if_true] at p
        exact .inr ⟨z,rfl,lim_le hz,p _ M H (Ext.refl _ _) rep rfl⟩
      · simp only [hz,if_false] at p; exact p.elim
    | _ => rw [q] at p; exact p.elim
  | [],_,p => exact p.elim
  | _ :: _ :: _,_,p => exact p.elim
theorem one_msk {g:Gd} {M:Addr -> Prop} {ρ:Pr} {r:R} {a:Addr} (h:vmsk g M (rfrs [r]) ρ (rals [r]) a) : vmsk g M r.fr ρ r.al a := by
  have e1:rfrs [r] = r.fr := by simp [rfrs]
  have e2:rals [r] = r.al := by simp [rals]
  rw [e1,e2] at h
  exact h
end
end L3
namespace L3
open PySem PySem.Spec PyProof.Rows L2
inductive Fl where
  | nx (env:En) | rt (r:R) | bk (env:En) | ct (env:En) | rm (r:R) (env:En)
structure Frz (M:Addr -> Prop) (H:Hp) (M':Addr -> Prop) (H':Hp) : Prop where
  m:∀ a,M a -> M' a
  h:∀ a o,H a = some o -> (M a \/ fixd o) -> H' a = some o
theorem Frz.refl (M:Addr -> Prop) (H:Hp) : Frz M H M H := ⟨fun _ z => z,fun _ _ e _ => e⟩
theorem Frz.trans {M M1 M2:Addr -> Prop} {H H1 H2:Hp} (a:Frz M H M1 H1) (b:Frz M1 H1 M2 H2) : Frz M H M2 H2 := ⟨fun x z => b.m x (a.m x z),fun x o e z => b.h x o (a.h x o e z) (z.imp (a.m x) id)⟩
theorem Ext.frz {M M':Addr -> Prop} {H H':Hp} (e:Ext M H M' H') : Frz M H M' H' := ⟨e.m,fun a o q _ => e.h a o q⟩
section
variable (mg:Str -> Option Value) (E:XK) (g:Gd) (M:Addr -> Prop) (H:Hp) (D:Ends)
def PostS:Res Fl -> Prop
  | .stuck => False
  | .exc c => XOk mg E g c
  | .ok (.nx env) => ∀ σ M' ρ H',Frz M H M' H' -> Rep g M' ρ env σ H' -> D.nx σ H'
  | .ok (.bk env) => ∀ σ M' ρ H',Frz M H M' H' -> Rep g M' ρ env σ H' -> D.bk σ H'
  | .ok (.ct env) => ∀ σ M' ρ H',Frz M H M' H' -> Rep g M' ρ env σ H' -> D.ct σ H'
  | .ok (.rt r) => ∀ v M' H',Frz M H M' H' -> Same g.H₀ H' -> ((∀ a,¬ g.Z a) -> RetOk g H' v r) -> (r.d.flat = true -> Is H' (fun _ => False) r.d v) -> D.rt v H'
  | .ok (.rm r env) => ∀ v σ M' ρ H0 H',Frz M H M' H' -> Rep g M' ρ env σ H' -> Same g.H₀ H0 -> (∀ a,g.Z a -> H0 a ≠ none) -> ROk g M' ρ H0 H' v r -> D.rt v H'
end
def SndS (mg:Str -> Option Value) (E:XK) (t:TS) (f:En -> Res Fl) : Prop := ∀ g M ρ env σ H D,Rep g M ρ env σ H -> PostS mg E g M H D (f env) -> t D σ H
def PSD (X:Cx) (E:XK) (st:Stmt) (f:En -> Res Fl) : Prop := ∃ t,PS X st t /\ SndS X.mg E t f
def PSsD (X:Cx) (E:XK) (st:List Stmt) (f:En -> Res Fl) : Prop := ∃ t,PSs X st t /\ SndS X.mg E t f
section
variable {mg:Str -> Option Value} {E:XK} {g:Gd} {M M':Addr -> Prop} {ρ:Pr} {env:En} {σ:St} {H H':Hp} {D:Ends}
theorem PostS.frz {r:Res Fl} (e:Frz M H M' H') (p:PostS mg E g M H D r) : PostS mg E g M' H' D r := by
  cases r with
  | stuck => exact p
  | exc c => exact p
  | ok r => cases r with
    | nx env => exact fun σ M2 ρ2 H2 e2 => p σ M2 ρ2 H2 (e.trans e2)
    | bk env => exact fun σ M2 ρ2 H2 e2 => p σ M2 ρ2 H2 (e.trans e2)
    | ct env => exact fun σ M2 ρ2 H2 e2 => p σ M2 ρ2 H2 (e.trans e2)
    | rt r => exact fun v M2 H2 e2 => p v M2 H2 (e.trans e2)
    | rm r env => exact fun v σ M2 ρ2 H0 H2 e2 => p v σ M2 ρ2 H0 H2 (e.trans e2)
theorem Snd.oneS {t:TE} {f:En -> Res R} (h:Snd mg E t f) (rep:Rep g M ρ env σ H) {K:R -> Res Fl} {Q:VK} (hp:PostS mg E g M H D ((f env).bind K))
    (k:∀ r v M' H',Ext M H M' H' -> Rep g M' ρ env σ H' -> ROk g M' ρ H H' v r -> PostS mg E g M' H' D (K r) -> Q v H') : t σ H Q := by
  refine h g M ρ env σ H Q rep ?_
  cases e:f env with
  | stuck => rw [e] at hp; exact hp
  | exc c => rw [e] at hp; exact hp
  | ok r => rw [e] at hp; exact fun v M1 H1 e1 rep1 ro => k r v M1 H1 e1 rep1 ro (PostS.frz e1.frz hp)
theorem SndT.oneS {t:TT} {f:En -> Res Bool} (h:SndT mg E t f) (rep:Rep g M ρ env σ H) {K:Bool -> Res Fl} {Q:Bool -> Hp -> Prop} (hp:PostS mg E g M H D ((f env).bind K))
    (k:∀ b M' H',Frz M H M' H' -> Rep g M' ρ env σ H' -> PostS mg E g M' H' D (K b) -> Q b H') : t σ H Q := by
  refine h g M ρ env σ H Q rep ?_
  cases e:f env with
  | stuck => rw [e] at hp; exact hp
  | exc c => rw [e] at hp; exact hp
  | ok r => rw [e] at hp; exact fun M1 H1 e1 rep1 => k r M1 H1 e1.frz rep1 (PostS.frz e1.frz hp)
def clr (ρ:Pr) (i:Nat) : Pr := fun j a => if j = i then False else ρ j a
theorem clr_ne {j i:Nat} (h:j ≠ i) : clr ρ i j = ρ j := by funext a; unfold clr; rw [if_neg h]
theorem clr_of {j i:Nat} {a:Addr} (h:clr ρ i j a) : j ≠ i /\ ρ j a := by
  unfold clr at h
  by_cases e:j = i
  · rw [if_pos e] at h; exact h.elim
  · rw [if_neg e] at h; exact ⟨e,h⟩
def setP (ρ:Pr) (i:Nat) (T:Addr -> Prop) : Pr := fun j a => if j = i then T a else ρ j a
theorem setP_ne {j i:Nat} {T:Addr -> Prop} (h:j ≠ i) : setP ρ i T j = ρ j := by funext a; unfold setP; rw [if_neg h]
theorem setP_eq {i:Nat} {T:Addr -> Prop} : setP ρ i T i = T := by funext a; unfold setP; rw [if_pos rfl]
def frz1 (env:En) (i:Nat) : En := match env[i]? with
  | some (some (.own ds fr)) => env.set i (some (.val (.lst ds) fr))
  | some (some (.tre d)) => env.set i (some (.val d true))
  | some (some (.mes _)) => env.set i none
  | some (some (.pin d)) => env.set i (some (.val d true))
  | some (some (.dis d)) => env.set i (some (.val d true))
  | _ => env
def frz (env:En) (al:List Nat) : En := al.foldl frz1 env
theorem frz1_ne {i j:Nat} (h:j ≠ i) : (frz1 env i)[j]? = env[j]? := by
  unfold frz1
  split <;> first | rfl | exact List.getElem?_set_ne (Ne.symm h)
theorem frz1_len (i:Nat) : (frz1 env i).length = env.length := by
  unfold frz1
  split <;> simp
theorem frz_ne:∀ (al:List Nat) {env:En} {j:Nat},¬ j ∈ al -> (frz env al)[j]? = env[j]?
  | [],_,_,_ => rfl
  | i :: al,env,j,h => by
    show (frz (frz1 env i) al)[j]? = _
    rw [frz_ne al fun z => h (by simp [z]),frz1_ne fun z => h (by simp [z])]
theorem frz_len:∀ (al:List Nat) (env:En),(frz env al).length = env.length
  | [],_ => rfl
  | i :: al,env => by
    show (frz (frz1 env i) al).length = _
    rw [frz_len al,frz1_len]
theorem Rep.frz1 (rep:Rep g M ρ env σ H) (i:Nat) : Rep g (fun a => M a \/ ρ i a) (clr ρ i) (frz1 env i) σ H where
  same := rep.same
  froz := fun b hb => hb.elim (rep.froz b) fun z => (rep.priv i b z).2.2.some
  inn := fun b hb => hb.elim (rep.inn b) fun z => .inl (rep.priv i b z).2.1
  fl := fun b hb h0 => hb.elim (fun z => rep.fl b z h0) fun z => .inl (rep.priv i b z).2.2
  slot := fun j sl ej => by
    by_cases hj:j = i
    · subst hj
      cases e:env[j]? with
      | none =>
        have:L3.frz1 env j = env := by unfold L3.frz1; rw [e]
        rw [this,e] at ej; cases ej
      | some o =>
        have hi:j < env.length := (List.getElem?_eq_some_iff.mp e).1
        cases o with
        | none =>
          have:L3.frz1 env j = env := by unfold L3.frz1; rw [e]
          rw [this,e] at ej; cases ej
        | some s0 =>
          obtain ⟨v,ev,k⟩ := rep.slot j s0 e
          cases s0 with
          | val d fr =>
            have:L3.frz1 env j = env := by unfold L3.frz1; rw [e]
            rw [this,e] at ej; cases ej
            exact ⟨v,ev,Is.weak (fun b z => msk.mono (fun _ => .inl) z) k⟩
          | own ds fr =>
            have:L3.frz1 env j = env.set j (some (.val (.lst ds) fr)) := by unfold L3.frz1; rw [e]
            rw [this,List.getElem?_set_self hi] at ej; cases ej
            obtain ⟨a,vs,rfl,h1,h2,h4⟩ := k
            have ha := (h2 a).mpr rfl
            exact ⟨_,ev,a,vs,rfl,.inl ⟨h1,.inr ha,fun _ => (rep.priv j a ha).2.1⟩,IsAll.weak (fun b z => msk.mono (fun _ => .inl) z) h4⟩
          | tre d =>
            have:L3.frz1 env j = env.set j (some (.val d true)) := by unfold L3.frz1; rw [e]
            rw [this,List.getElem?_set_self hi] at ej; cases ej
            exact ⟨v,ev,Is.weak (fun b z => ⟨.inr z,fun _ => (rep.priv j b z).2.1⟩) k⟩
          | mes d =>
            have:L3.frz1 env j = env.set j none := by unfold L3.frz1; rw [e]
            rw [this,List.getElem?_set_self hi] at ej; cases ej
          | pin d =>
            have:L3.frz1 env j = env.set j (some (.val d true)) := by unfold L3.frz1; rw [e]
            rw [this,List.getElem?_set_self hi] at ej; cases ej
            exact ⟨v,ev,Is.weak (fun b z => ⟨.inr z,fun _ => (rep.priv j b z).2.1⟩) k.1⟩
          | dis d =>
            have:L3.frz1 env j = env.set j (some (.val d true)) := by unfold L3.frz1; rw [e]
            rw [this,List.getElem?_set_self hi] at ej; cases ej
            exact ⟨v,ev,Is.weak (fun b z => ⟨.inr z,fun _ => (rep.priv j b z).2.1⟩) k.1⟩
    · rw [frz1_ne hj] at ej
      obtain ⟨v,ev,k⟩ := rep.slot j sl ej
      exact ⟨v,ev,by rw [clr_ne hj]; exact SlOk.weak (fun _ => .inl) k⟩
  priv := fun j a h => by
    obtain ⟨hj,h⟩ := clr_of h
    exact ⟨fun z => z.elim (rep.priv j a h).1 fun z => hj (rep.apart j i a h z),(rep.priv j a h).2⟩
  apart := fun j k a h1 h2 => rep.apart j k a (clr_of h1).2 (clr_of h2).2
  ow := fun j a h => by
    obtain ⟨hj,h⟩ := clr_of h
    have := rep.ow j a h
    unfold isOwn at this ⊢
    rw [frz1_ne hj]; exact this
  len := by rw [frz1_len]; exact rep.len
  zz := rep.zz
theorem Rep.frz:∀ (al:List Nat) {env:En} {M:Addr -> Prop} {ρ:Pr},Rep g M ρ env σ H -> ∃ (M':Addr -> Prop) (ρ':Pr),(∀ a,M a -> M' a) /\ Rep g M' ρ' (L3.frz env al) σ H /\ (∀ i,i ∈ al -> ∀ a,ρ i a -> M' a) /\ (∀ j a,ρ' j a -> ρ j a) /\ (∀ j,¬ j ∈ al -> ρ' j = ρ j)
  | [],env,M,ρ,rep => ⟨M,ρ,fun _ z => z,rep,fun _ z => absurd z (by simp),fun _ _ o => o,fun _ _ => rfl⟩
  | i :: al,env,M,ρ,rep => by
    obtain ⟨M2,ρ2,e2,rep2,o2,k2,l2⟩ := Rep.frz al (rep.frz1 i)
    refine ⟨M2,ρ2,fun a z => e2 a (.inl z),rep2,fun j hj a o => ?_,fun j a o => (clr_of (k2 j a o)).2,fun j hj => ?_⟩
    · by_cases hji:j = i
      · exact e2 a (.inr (hji ▸ o))
      · exact o2 j ((List.mem_cons.mp hj).resolve_left hji) a (by rw [clr_ne hji]; exact o)
    · rw [l2 j fun z => hj (by simp [z]),clr_ne fun z => hj (by simp [z])]
theorem Is.frozen {fr:Bool} {al:List Nat} {d:L3.D} {v:V} (rep:Rep g M ρ env σ H) (e:∀ a,M a -> M' a) (hm:∀ i,i ∈ al -> ∀ a,ρ i a -> M' a) (h:Is H (vmsk g M fr ρ al) d v) : Is H (msk g M' fr) d v :=
  h.weak fun a z => z.elim (msk.mono e) fun ⟨i,hi,o⟩ => ⟨hm i hi a o,fun _ => (rep.priv i a o).2.1⟩
theorem Rep.put {i:Nat} {sl:Sl} {v:V} {T:Addr -> Prop} (rep:Rep g M ρ env σ H) (hi:i < env.length) (ok:SlOk g M T H v sl) (ht:∀ a,T a -> ¬ M a /\ g.H₀ a = none /\ Mu H a /\ ∀ j,j ≠ i -> ¬ ρ j a) (hO:∀ a,T a -> sl.isO = true := by intro _ _; rfl) :
    Rep g M (setP ρ i T) (env.set i (some sl)) (σ.set i (some v)) H := by
  have hi2:i < σ.length := by rw [<- rep.len]; exact hi
  refine ⟨rep.same,rep.froz,rep.inn,rep.fl,fun j s ej => ?_,fun j a h => ?_,fun j k a h1 h2 => ?_,fun j a h => ?_,by rw [List.length_set,List.length_set]; exact rep.len,rep.zz⟩
  · by_cases hj : j = i
    · subst hj
      rw [List.getElem?_set_self hi] at ej
      cases ej
      exact ⟨v,List.getElem?_set_self hi2,by rw [setP_eq]; exact ok⟩
    · rw [List.getElem?_set_ne (Ne.symm hj)] at ej
      obtain ⟨w,ew,k⟩ := rep.slot j s ej
      exact ⟨w,by rw [List.getElem?_set_ne (Ne.symm hj)]; exact ew,by rw [setP_ne hj]; exact k⟩
  · by_cases hj : j = i
    · subst hj; rw [setP_eq] at h
      exact ⟨(ht a h).1,(ht a h).2.1,(ht a h).2.2.1⟩
    · rw [setP_ne hj] at h; exact rep.priv j a h
  · by_cases hj : j = i
    · by_cases hk : k = i
      · rw [hj,hk]
      · subst hj; rw [setP_eq] at h1; rw [setP_ne hk] at h2
        exact absurd h2 ((ht a h1).2.2.2 k hk)
    · by_cases hk : k = i
      · subst hk; rw [setP_eq] at h2; rw [setP_ne hj] at h1
        exact absurd h1 ((ht a h2).2.2.2 j hj)
      · rw [setP_ne hj] at h1; rw [setP_ne hk] at h2
        exact rep.apart j k a h1 h2
  · unfold isOwn
    by_cases hj:j = i
    · subst hj; rw [setP_eq] at h
      rw [List.getElem?_set_self hi]
      exact hO a h
    · rw [setP_ne hj] at h
      rw [List.getElem?_set_ne (Ne.symm hj)]
      exact rep.ow j a h
def put (env:En) (i:Nat) : R -> En
  | .new ds fr => env.set i (some (.own ds fr))
  | .val d fr al => (frz env al).set i (some (.val d fr))
  | .fre d => env.set i (some (.tre d))
theorem Rep.store {i:Nat} {r:R} {v:V} {H0:Hp} (rep:Rep g M ρ env σ H) (h0:Same g.H₀ H0) (hi:i < env.length) (h:ROk g M ρ H0 H v r) : ∃ M' ρ',Frz M H M' H /\ Rep g M' ρ' (L3.put env i r) (σ.set i (some v)) H := by
  cases r with
  | new ds fr =>
    obtain ⟨a,vs,rfl,h1,h2,h3,h4,h5⟩ := h
    exact ⟨M,_,Frz.refl _ _,rep.put (sl := .own ds fr) (T := fun b => b = a) hi ⟨a,vs,rfl,h1,fun _ => Iff.rfl,h5⟩ fun b e => by subst e; exact ⟨h2,h0.free h3,Mu.lst h1,fun j _ => h4 j⟩⟩
  | val d fr al =>
    obtain ⟨M1,ρ1,e1,rep1,o1,k1,_⟩ := Rep.frz al rep
    exact ⟨M1,_,⟨e1,fun _ _ e _ => e⟩,rep1.put (sl := .val d fr) (T := fun _ => False) (by rw [frz_len]; exact hi) (Is.frozen rep e1 o1 h) (fun _ z => z.elim) fun _ z => z.elim⟩
  | fre d =>
    obtain ⟨T,ht,is⟩ := h
    exact ⟨M,_,Frz.refl _ _,rep.put (sl := .tre d) (T := T) hi is fun b z => let ⟨a1,a2,a3,a4⟩ := ht b z; ⟨a1,h0.free a2,a3,fun j _ => a4 j⟩⟩
theorem Rep.writeO {i:Nat} {a:Addr} {sl:Sl} {v:V} {u':HO} (hu:mutO u') (rep:Rep g M ρ env σ H) (o:ρ i a) (hi:i < env.length) (ev:σ[i]? = some (some v)) (ok:SlOk g M (ρ i) (upd H a u') v sl) (hO:sl.isO = true := by rfl) :
    Frz M H M (upd H a u') /\ Rep g M ρ (env.set i (some sl)) σ (upd H a u') := by
  obtain ⟨nm,n0,uo,ha,hmu⟩ := rep.priv i a o
  have nfx:∀ u,H a = some u -> ¬ fixd u := fun u e z => by
    rw [ha] at e; cases e
    cases uo <;> first | exact z | exact hmu
  have kp:∀ b u,H b = some u -> (M b \/ fixd u) -> upd H a u' b = some u := fun b u q z => by
    rw [upd_ne]
    · exact q
    · rintro rfl
      rcases z with z | z
      · exact nm z
      · exact nfx u q z
  have km:∀ (fr:Bool) b u,H b = some u -> (msk g M fr b \/ fixd u) -> upd H a u' b = some u := fun fr b u q z => kp b u q (z.imp (·.1) id)
  refine ⟨⟨fun _ z => z,kp⟩,fun b u q => ?_,fun b hb => ?_,rep.inn,fun b hb h0 => ?_,fun j s ej => ?_,fun j b h => ?_,rep.apart,fun j b h => ?_,by rw [List.length_set]; exact rep.len,fun c z e => by
    by_cases hc:c = a
    · subst hc; rw [upd_same] at e; cases e
    · rw [upd_ne hc] at e; exact rep.zz c z e⟩
  · rw [upd_ne (fun z => by rw [z,n0] at q; cases q)]
    exact rep.same b u q
  · have nb:b ≠ a := fun z => nm (by rw [<- z]; exact hb)
    rw [upd_ne nb]; exact rep.froz b hb
  · have nb:b ≠ a := fun z => nm (by rw [<- z]; exact hb)
    exact (rep.fl b hb h0).same fun o e => by rw [upd_ne nb]; exact e
  · by_cases hj : j = i
    · subst hj
      rw [List.getElem?_set_self hi] at ej
      cases ej
      exact ⟨v,ev,ok⟩
    · rw [List.getElem?_set_ne (Ne.symm hj)] at ej
      obtain ⟨w,ew,k⟩ := rep.slot j s ej
      refine ⟨w,ew,?_⟩
      have nj:∀ b,ρ j b -> b ≠ a := fun b hb e => hj (rep.apart j i a (e ▸ hb) o)
      cases s with
      | val d fr => exact Is.mono (km fr) (fun _ _ _ z => z) k
      | own ds' fr' =>
        obtain ⟨b,ws,rfl,h1,h2,h4⟩ := k
        exact ⟨b,ws,rfl,by rw [upd_ne (nj b ((h2 b).mpr rfl))]; exact h1,h2,IsAll.mono (km fr') (fun _ _ _ z => z) h4⟩
      | tre d =>
        refine Is.mono (fun b u q z => ?_) (fun _ _ _ z => z) k
        rw [upd_ne]
        · exact q
        · rcases z with z | z
          · exact nj b z
          · intro e; rw [e] at q; exact nfx u q z
      | mes d =>
        refine IsSh.mono (fun b u q z => kp b u q (.inr z)) (fun b ws z q => ⟨ws,by rw [upd_ne (nj b z)]; exact q⟩) (fun _ z => z) k
      | pin d =>
        refine ⟨Is.mono (fun b u q z => ?_) (fun _ _ _ z => z) k.1,k.2⟩
        rw [upd_ne]
        · exact q
        · rcases z with z | z
          · exact nj b z
          · intro e; rw [e] at q; exact nfx u q z
      | dis d =>
        refine ⟨Is.mono (fun b u q z => ?_) (fun _ _ _ z => z) k.1,k.2.mono (fun b u z q => by rw [upd_ne (nj b z)]; exact q) fun _ z => z⟩
        rw [upd_ne]
        · exact q
        · rcases z with z | z
          · exact nj b z
          · intro e; rw [e] at q; exact nfx u q z
  · obtain ⟨b1,b2,b3⟩ := rep.priv j b h
    refine ⟨b1,b2,?_⟩
    by_cases e:b = a
    · exact ⟨u',by rw [e,upd_same],hu⟩
    · exact b3.same fun o z => by rw [upd_ne e]; exact z
  · unfold isOwn
    by_cases hj:j = i
    · subst hj; rw [List.getElem?_set_self hi]; exact hO
    · rw [List.getElem?_set_ne (Ne.symm hj)]; exact rep.ow j b h
theorem Rep.write {i:Nat} {a:Addr} {sl:Sl} {v:V} {vs':List V} (rep:Rep g M ρ env σ H) (o:ρ i a) (hi:i < env.length) (ev:σ[i]? = some (some v)) (ok:SlOk g M (ρ i) (upd H a (.lst vs')) v sl) (hO:sl.isO = true := by rfl) :
    Frz M H M (upd H a (.lst vs')) /\ Rep g M ρ (env.set i (some sl)) σ (upd H a (.lst vs')) := rep.writeO (u' := .lst vs') True.intro o hi ev ok hO
end
section
variable {X:Cx} {E:XK}
def fNil:En -> Res Fl := fun env => .ok (.nx env)
def fSeq (f k:En -> Res Fl) : En -> Res Fl := fun env => (f env).bind fun r => match r with
  | .nx env' => k env'
  | r => .ok r
theorem pssd_nil:PSsD X E [] fNil := ⟨_,pss_nil,fun g M ρ env σ H D rep p => p σ M ρ H (Frz.refl _ _) rep⟩
theorem pssd_one {st:Stmt} {f:En -> Res Fl} (h:PSD X E st f) : PSsD X E [st] f := let ⟨t,a,b⟩ := h; ⟨t,pss_one a,b⟩
theorem pssd_cons {st:Stmt} {rest:List Stmt} {f k:En -> Res Fl} (h1:PSD X E st f) (h2:PSsD X E rest k) : PSsD X E (st :: rest) (fSeq f k) := by
  obtain ⟨t,a,b⟩ := h1
  obtain ⟨u,c,d⟩ := h2
  refine ⟨_,pss_cons a c,fun g M ρ env σ H D rep p => b g M ρ env σ H _ rep ?_⟩
  unfold fSeq at p
  cases q:f env with
  | stuck => rw [q] at p; exact p
  | exc c => rw [q] at p; exact p
  | ok r =>
    rw [q] at p
    cases r with
    | nx env' => exact fun σ' M' ρ' H' e rep' => d g M' ρ' env' σ' H' D rep' (PostS.frz e p)
    | bk env' => exact p
    | ct env' => exact p
    | rt r => exact p
    | rm r env' => exact p
def fIf (c:En -> Res Bool) (a b:En -> Res Fl) : En -> Res Fl := fun env => (c env).bind fun k => if k then a env else b env
theorem psd_if {c:Expr} {a b:List Stmt} {fc:En -> Res Bool} {fa fb:En -> Res Fl} {pos:Pos} (hc:PTD X E c fc) (ha:PSsD X E a fa) (hb:PSsD X E b fb) : PSD X E (.If c a b pos) (fIf fc fa fb) := by
  obtain ⟨tc,p1,s1⟩ := hc
  obtain ⟨ta,p2,s2⟩ := ha
  obtain ⟨tb,p3,s3⟩ := hb
  refine ⟨_,ps_if p1 p2 p3,fun g M ρ env σ H D rep p => s1.oneS rep p fun b M' H' e rep' p' => ?_⟩
  cases b with
  | true => exact iteT (s2 g M' ρ env σ H' D rep' p')
  | false => exact iteF (s3 g M' ρ env σ H' D rep' p')
def fRet (f:En -> Res R) : En -> Res Fl := fun env => (f env).bind fun r => .ok (.rt r)
theorem ROk.ret {g:Gd} {M:Addr -> Prop} {ρ:Pr} {env:En} {σ:St} {H H0:Hp} {v:V} {r:R} (rep:Rep g M ρ env σ H) (h0:Same g.H₀ H0) (h:ROk g M ρ H0 H v r) (hz:∀ a,¬ g.Z a) : RetOk g H v r := by
  have mu:∀ a,M a -> g.H₀ a = none -> Mu H a := fun a h1 h2 => (rep.fl a h1 h2).elim id fun z => (hz a z.1).elim
  have key:∀ {fr:Bool} {a:Addr},msk g M fr a -> nl g.H₀ H a \/ (fr = false /\ g.Ma a) := fun {fr a} z => by
    cases fr with
    | true => exact .inl ⟨z.2 rfl,mu a z.1 (z.2 rfl)⟩
    | false => exact (rep.inn a z.1).imp (fun w => ⟨w,mu a z.1 w⟩) fun w => ⟨rfl,w⟩
  cases r with
  | val d fr al => exact Is.weak (fun a z => z.elim key fun ⟨i,_,o⟩ => .inl (rep.priv i a o).2) h
  | new ds fr =>
    obtain ⟨a,vs,rfl,h1,h2,h3,h4,h5⟩ := h
    exact ⟨a,vs,rfl,h1,h0.free h3,IsAll.weak (fun b z => ⟨fun e => h2 (e ▸ z.1),key z⟩) h5⟩
  | fre d =>
    obtain ⟨T,ht,is⟩ := h
    exact Is.weak (fun a z => let ⟨_,a2,a3,_⟩ := ht a z; ⟨h0.free a2,a3⟩) is
theorem ROk.flatIs {g:Gd} {M:Addr -> Prop} {ρ:Pr} {H H0:Hp} {v:V} {r:R} (h:ROk g M ρ H0 H v r) (hf:r.d.flat = true) : Is H (fun _ => False) r.d v := by
  cases r with
  | val d fr al => exact Is.flat hf h
  | new ds fr => simp [D.flat,R.d] at hf
  | fre d => obtain ⟨T,_,is⟩ := h; exact Is.flat hf is
theorem psd_ret {e:Expr} {f:En -> Res R} {pos:Pos} (h:PD X E e f) : PSD X E (.Return (some e) pos) (fRet f) := by
  obtain ⟨t,p1,s1⟩ := h
  exact ⟨_,ps_ret p1,fun g M ρ env σ H D rep p => s1.oneS rep p fun r v M' H' e rep' ro p' => p' v M' H' (Frz.refl _ _) rep'.same (fun hz => ro.ret rep' rep.same hz) fun hf => ro.flatIs hf⟩
def fSet (i:Nat) (f:En -> Res R) : En -> Res Fl := fun env => (f env).bind fun r => if i < env.length then .ok (.nx (put env i r)) else .stuck
theorem snd_set {mg:Str -> Option Value} {i:Nat} {t:TE} {f:En -> Res R} (s:Snd mg E t f) : SndS mg E (tAsg t (gName i)) (fSet i f) := by
  intro g M ρ env σ H D rep p
  refine s.oneS rep p fun r v M' H' e rep' ro p' => ?_
  by_cases hi:i < env.length
  · rw [if_pos hi] at p'
    obtain ⟨M2,ρ2,e2,rep2⟩ := rep'.store rep.same hi ro
    exact p' _ M2 ρ2 H' e2 rep2
  · rw [if_neg hi] at p'; exact p'.elim
theorem psd_set {i:Nat} {x:Str} {e:Expr} {f:En -> Res R} {pos pos':Pos} (hN:X.N.Nodup) (hi:X.N[i]? = some x) (hx:Loc X.env.scope x) (h:PD X E e f) (hs:swapsWith e (some (.Name x pos')) pos.line X.env = pure false := by rfl)
    (hf:X.fn x = true \/ X.env.scope.names.lookup x = some .local := by first | exact .inl rfl | exact .inr rfl | assumption) : PSD X E (.Assign [.Name x pos'] e pos) (fSet i f) := by
  obtain ⟨t,p1,s1⟩ := h
  exact ⟨_,ps_set hN hi hx p1 hs hf,snd_set s1⟩
def ownOf (env:En) (i:Nat) : Option (List D × Bool) := match env[i]? with
  | some (some (.own ds fr)) => some (ds,fr)
  | some (some (.tre (.lst ds))) => some (ds,true)
  | _ => none
mutual
def D.sz:D -> Nat
  | .tup ds => D.szs ds + 1
  | .lst ds => D.szs ds + 1
  | .dic _ ds => D.szs ds + 1
  | _ => 0
def D.szs:List D -> Nat
  | [] => 0
  | d :: ds => d.sz + D.szs ds + 1
end
section
variable {H:Hp} {m m':Addr -> Prop}
mutual
theorem Is.avoid {a:Addr} {e:D} (ha:Is H m' e (.ref a)) : ∀ {d:D} {v:V},d.sz < e.sz -> Is H m d v -> Is H (fun b => m b /\ b ≠ a) d v
  | .non,_,_,h => h
  | .bl _,_,_,h => h
  | .int _,_,_,h => h
  | .str _,_,_,h => h
  | .tup ds,_,hs,h => by
    obtain ⟨b,vs,rfl,h1,h2⟩ := h
    simp only [D.sz] at hs
    exact ⟨b,vs,rfl,h1,IsAll.avoid ha (by omega) h2⟩
  | .lst ds,_,hs,h => by
    have h' := h
    obtain ⟨b,vs,rfl,h1,h2⟩ := h
    have nb:b ≠ a := fun z => by
      subst z
      have q := Is.inj h' ha
      rw [q] at hs; omega
    simp only [D.sz] at hs
    refine ⟨b,vs,rfl,?_,IsAll.avoid ha (by omega) h2⟩
    rcases h1 with ⟨h1,h3⟩ | ⟨o,h1,h3⟩
    · exact .inl ⟨h1,h3,nb⟩
    · exact .inr ⟨o,h1,h3,nb⟩
  | .dic ks ds,_,hs,h => by
    have h' := h
    obtain ⟨b,kvs,rfl,h1,h2⟩ := h
    have nb:b ≠ a := fun z => by
      subst z
      have q := Is.inj h' ha
      rw [q] at hs; omega
    simp only [D.sz] at hs
    exact ⟨b,kvs,rfl,⟨h1.1,h1.2,nb⟩,IsAll.avoid ha (by omega) h2⟩
theorem IsAll.avoid {a:Addr} {e:D} (ha:Is H m' e (.ref a)) : ∀ {ds:List D} {vs:List V},D.szs ds < e.sz -> IsAll H m ds vs -> IsAll H (fun b => m b /\ b ≠ a) ds vs
  | [],_,_,h => h
  | d :: ds,_,hs,h => by
    obtain ⟨v,r,rfl,h1,h2⟩ := h
    simp only [D.szs] at hs
    exact ⟨v,r,rfl,Is.avoid ha (by omega) h1,IsAll.avoid ha (by omega) h2⟩
end
end
theorem Rep.toOwn {g:Gd} {M:Addr -> Prop} {ρ:Pr} {env:En} {σ:St} {H:Hp} {i:Nat} {ds:List D} {fr:Bool} (rep:Rep g M ρ env σ H) (e:ownOf env i = some (ds,fr)) :
    ∃ (M':Addr -> Prop) (ρ':Pr) (a:Addr) (vs:List V),(∀ b,M b -> M' b) /\ Rep g M' ρ' (env.set i (some (.own ds fr))) σ H /\ σ[i]? = some (some (.ref a)) /\ H a = some (.lst vs) /\ (∀ b,ρ' i b ↔ b = a) /\ IsAll H (msk g M' fr) ds vs /\ i < env.length /\ (∀ j b,ρ' j b -> ρ j b) /\ (∀ j,j ≠ i -> ρ' j = ρ j) := by
  unfold ownOf at e
  cases q:env[i]? with
  | none => rw [q] at e; cases e
  | some o =>
    have hi:i < env.length := (List.getElem?_eq_some_iff.mp q).1
    have hself:env.set i (env[i]) = env := List.set_getElem_self hi
    cases o with
    | none => rw [q] at e; cases e
    | some sl =>
      obtain ⟨v,ev,k⟩ := rep.slot i sl q
      rw [q] at e
      cases sl with
      | val d f => cases e
      | mes d => cases e
      | pin d => cases e
      | dis d => cases e
      | own ds' f' =>
        cases e
        obtain ⟨a,vs,rfl,h1,h2,h4⟩ := k
        have eq:env.set i (some (.own ds fr)) = env := by
          have:env[i] = some (.own ds fr) := by
            have := (List.getElem?_eq_some_iff.mp q).2; exact this
          rw [<- this]; exact hself
        rw [eq]
        exact ⟨M,ρ,a,vs,fun _ z => z,rep,ev,h1,h2,h4,hi,fun _ _ z => z,fun _ _ => rfl⟩
      | tre d =>
        cases d with
        | lst ds' =>
          cases e
          have k' := k
          obtain ⟨a,vs,rfl,h1,h2⟩ := k
          have pa:ρ i a := by rcases h1 with ⟨_,z⟩ | ⟨_,_,z⟩ <;> exact z
          obtain ⟨pm,p0,uo,pl,pmu⟩ := rep.priv i a pa
          have hl:H a = some (.lst vs) := by
            rcases h1 with ⟨h1,_⟩ | ⟨o,h1,_⟩
            · exact h1
            · rw [h1] at pl; cases pl; exact pmu.elim
          have inner:IsAll H (fun b => ρ i b /\ b ≠ a) ds vs := IsAll.avoid k' (by simp only [D.sz]; omega) h2
          let M':Addr -> Prop := fun b => M b \/ (ρ i b /\ b ≠ a)
          let ρ':Pr := setP ρ i fun b => b = a
          have rr:Rep g M' ρ' (env.set i (some (.own ds true))) (σ.set i (some (.ref a))) H := by
            have r1:Rep g M' (fun j b => if j = i then b = a else ρ j b) (env.set i (some (.own ds true))) σ H := by
              refine ⟨rep.same,fun b hb => hb.elim (rep.froz b) fun z => ?_,fun b hb => hb.elim (rep.inn b) fun z => .inl (rep.priv i b z.1).2.1,fun b hb h0 => hb.elim (fun z => rep.fl b z h0) fun z => .inl (rep.priv i b z.1).2.2,fun j s ej => ?_,fun j b h => ?_,fun j k b w1 w2 => ?_,fun j b h => ?_,by rw [List.length_set]; exact rep.len,rep.zz⟩
              · exact (rep.priv i b z.1).2.2.some
              · by_cases hj : j = i
                · subst hj
                  rw [List.getElem?_set_self hi] at ej; cases ej
                  exact ⟨_,ev,a,vs,rfl,hl,fun b => by simp,IsAll.weak (fun b z => ⟨.inr z,fun _ => (rep.priv j b z.1).2.1⟩) inner⟩
                · rw [List.getElem?_set_ne (Ne.symm hj)] at ej
                  obtain ⟨v',ev',k2⟩ := rep.slot j s ej
                  have eT:(fun b => if j = i then b = a else ρ j b) = ρ j := by funext b; rw [if_neg hj]
                  exact ⟨v',ev',by show SlOk g M' (fun b => if j = i then b = a else ρ j b) H v' s; rw [eT]; exact SlOk.weak (fun _ => .inl) k2⟩
              · by_cases hj : j = i
                · rw [if_pos hj] at h; subst h
                  exact ⟨fun z => z.elim pm fun z => z.2 rfl,p0,Mu.lst hl⟩
                · rw [if_neg hj] at h
                  exact ⟨fun z => z.elim (rep.priv j b h).1 fun z => hj (rep.apart j i b h z.1),(rep.priv j b h).2⟩
              · by_cases hj : j = i
                · by_cases hk : k = i
                  · rw [hj,hk]
                  · rw [if_pos hj] at w1; rw [if_neg hk] at w2; subst w1
                    exact absurd (rep.apart k i b w2 pa) hk
                · by_cases hk : k = i
                  · rw [if_pos hk] at w2; rw [if_neg hj] at w1; subst w2
                    exact absurd (rep.apart j i b w1 pa) hj
                  · rw [if_neg hj] at w1; rw [if_neg hk] at w2; exact rep.apart j k b w1 w2
              · unfold isOwn
                by_cases hj:j = i
                · subst hj; rw [List.getElem?_set_self hi]; rfl
                · rw [if_neg hj] at h
                  rw [List.getElem?_set_ne (Ne.symm hj)]; exact rep.ow j b h
            have hi2:i < σ.length := by rw [<- rep.len]; exact hi
            have es:σ.set i (some (.ref a)) = σ := by
              have:σ[i] = some (.ref a) := (List.getElem?_eq_some_iff.mp ev).2
              rw [<- this]; exact List.set_getElem_self hi2
            rw [es]; exact r1
          have hi2:i < σ.length := by rw [<- rep.len]; exact hi
          have es:σ.set i (some (.ref a)) = σ := by
            have:σ[i] = some (.ref a) := (List.getElem?_eq_some_iff.mp ev).2
            rw [<- this]; exact List.set_getElem_self hi2
          rw [es] at rr
          refine ⟨M',ρ',a,vs,fun _ => .inl,rr,ev,hl,fun b => by show setP ρ i (fun b => b = a) i b ↔ b = a; rw [setP_eq],IsAll.weak (fun b z => ⟨.inr z,fun _ => (rep.priv i b z.1).2.1⟩) inner,hi,fun j b z => ?_,fun j hj => setP_ne hj⟩
          by_cases hj:j = i
          · subst hj
            have z:setP ρ j (fun b => b = a) j b := z
            rw [setP_eq] at z; rw [z]; exact pa
          · have z:setP ρ i (fun b => b = a) j b := z
            rw [setP_ne hj] at z; exact z
        | _ => cases e
def fApp (i:Nat) (f:En -> Res R) : En -> Res Fl := fun env => match ownOf env i with
  | some (ds,fr) => (f env).bind fun r => if ds.length < lim /\ ¬ i ∈ r.al then .ok (.nx ((frz env r.al).set i (some (.own (ds ++ [r.d]) (fr && r.fr))))) else .stuck
  | none => .stuck
theorem psd_app {i:Nat} {a e:Expr} {f:En -> Res R} {apos cpos pos:Pos} (ha:PE X a (tVar i)) (h:PD X E e f)
    (hbase : attributeBase a "append" X.env (eval a X.env) = eval a X.env := by rfl)
    (hfew:((backTo cpos (starEach [e] X.env)).all (fun x => !x.1) && (backToKw cpos (keywordEach [] X.env)).all (fun x => x.1.isSome)
      && decide (([e] : List Expr).length + ([] : List Keyword).length + (if ([] : List Keyword).isEmpty then 0 else 1) < 30)) = true := by rfl)
    (hline:(apos.endLine == cpos.line) = true := by rfl) (hs:starEach [e] X.env = (false,eval e X.env) :: starEach [] X.env := by rfl) (hplain:(backTo cpos (starEach [] X.env)).any (·.1) = false := by rfl)
    (hsw : swapsWith (.Call (.Attribute a "append" apos) [e] [] cpos) none pos.line X.env = pure false := by rfl) :
    PSD X E (.Expr (.Call (.Attribute a "append" apos) [e] [] cpos) pos) (fApp i f) := by
  obtain ⟨t,p1,s1⟩ := h
  refine ⟨_,ps_expr (pe_bm PySem.F.plainAttrs_list PySem.F.slot_list_append PySem.F.type_list_append mt_append ha (pa_cons p1 pa_nil hs) hbase hfew hline hs hplain) hsw,fun g M ρ env σ H D rep p => ?_⟩
  unfold fApp at p
  cases e1:ownOf env i with
  | none => rw [e1] at p; exact p.elim
  | some o =>
    obtain ⟨ds,fr⟩ := o
    rw [e1] at p
    dsimp only at p
    obtain ⟨M0,ρ0,l,vs,m0,rep0,ev,k1,k2,k4,hi,_⟩ := rep.toOwn e1
    refine ⟨_,ev,.inl ⟨rfl,vs,SqL.of k1⟩,s1.oneS rep p fun r y M' H' e rep' ro p' => ?_⟩
    by_cases hc:ds.length < lim /\ ¬ i ∈ r.al
    · rw [if_pos hc] at p'
      obtain ⟨M1,x1,x1m,rep1,is1⟩ := ro.is rep' e rep.same
      obtain ⟨M2,ρ2,x2,rep2,o2,k5,k6⟩ := Rep.frz r.al rep1
      have is2:Is H' (msk g M2 r.fr) r.d y := Is.frozen rep1 x2 o2 is1
      have e2:ownOf (frz env r.al) i = some (ds,fr) := by
        unfold ownOf
        rw [frz_ne _ hc.2]
        exact e1
      obtain ⟨M3,ρ3,l3,vs3,m3,rep3,ev3,j1,j2,j4,hi3,_⟩ := rep2.toOwn e2
      rw [ev] at ev3; cases ev3
      have hl:H' l = some (.lst vs) := e.h _ _ k1
      rw [hl] at j1; cases j1
      have pl:ρ3 i l := (j2 l).mpr rfl
      obtain ⟨nl3,_⟩ := rep3.priv i l pl
      have is4:IsAll H' (msk g M3 (fr && r.fr)) (ds ++ [r.d]) (vs ++ [y]) := by
        refine IsAll.snoc (IsAll.weak (fun b z => ⟨z.1,fun q => z.2 (by cases fr <;> simp_all)⟩) j4) (Is.weak (fun b z => ⟨m3 b z.1,fun q => z.2 (by cases fr <;> simp_all)⟩) is2)
      have kp:∀ b u,H' b = some u -> (msk g M3 (fr && r.fr) b \/ fixd u) -> upd H' l (.lst (vs ++ [y])) b = some u := fun b u q z => by
        rw [upd_ne]
        · exact q
        · rintro rfl
          rcases z with z | z
          · exact nl3 z.1
          · rw [hl] at q; cases q; exact z
      obtain ⟨f1,rep4⟩ := rep3.write (sl := .own (ds ++ [r.d]) (fr && r.fr)) (vs' := vs ++ [y]) pl (by rw [List.length_set]; exact hi3) ev ⟨l,vs ++ [y],rfl,upd_same,j2,IsAll.mono kp (fun _ _ _ z => z) is4⟩
      rw [List.set_set] at rep4
      refine ⟨l,vs,y,rfl,rfl,hl,by rw [k4.length]; exact lim_lt hc.1,?_⟩
      exact p' σ M3 ρ3 _ (Frz.trans ⟨fun a z => m3 a (x2 a (x1m a z)),fun _ _ q _ => q⟩ f1) rep4
    · rw [if_neg hc] at p'; exact p'.elim
end
end L3
namespace L3
open PySem PySem.Spec PyProof.Rows L2
def SndG (ix:List Nat) (t:TG) (asg:D -> Bool -> En -> Option En) : Prop := ∀ (g:Gd) (M:Addr -> Prop) (ρ:Pr) (env env':En) (σ:St) (H:Hp) (d:D) (fr:Bool) (v:V) (Q:St -> Hp -> Prop),
  Rep g M ρ env σ H -> Is H (msk g M fr) d v -> asg d fr env = some env' -> (∀ (σ':St) (ρ':Pr),Rep g M ρ' env' σ' H -> (∀ j,¬ j ∈ ix -> σ'[j]? = σ[j]?) -> (∀ j a,ρ' j a -> ρ j a) -> Q σ' H) -> t v σ H Q
def SndGs (ix:List Nat) (t:TGs) (asg:List D -> Bool -> En -> Option En) : Prop := ∀ (g:Gd) (M:Addr -> Prop) (ρ:Pr) (env env':En) (σ:St) (H:Hp) (ds:List D) (fr:Bool) (vs:List V) (Q:St -> Hp -> Prop),
  Rep g M ρ env σ H -> IsAll H (msk g M fr) ds vs -> asg ds fr env = some env' -> (∀ (σ':St) (ρ':Pr),Rep g M ρ' env' σ' H -> (∀ j,¬ j ∈ ix -> σ'[j]? = σ[j]?) -> (∀ j a,ρ' j a -> ρ j a) -> Q σ' H) -> t vs σ H Q
def PGD (X:Cx) (ix:List Nat) (tg:Expr) (asg:D -> Bool -> En -> Option En) : Prop := ∃ t,PG X tg t /\ SndG ix t asg
def PGsD (X:Cx) (ix:List Nat) (ts:List Expr) (asg:List D -> Bool -> En -> Option En) : Prop := ∃ t,PGs X ts t /\ SndGs ix t asg
section
variable {X:Cx} {E:XK}
def gN (i:Nat) : D -> Bool -> En -> Option En := fun d fr env => if i < env.length then some (env.set i (some (.val d fr))) else none
theorem sndg_name {i:Nat} : SndG [i] (gName i) (gN i) := by
  intro g M ρ env env' σ H d fr v Q rep is e k
  unfold gN at e
  by_cases hi:i < env.length
  · rw [if_pos hi] at e
    cases e
    exact k _ _ (rep.put (sl := .val d fr) (T := fun _ => False) hi is (fun _ z => z.elim) fun _ z => z.elim) (fun j hj => List.getElem?_set_ne fun e => hj (by simp [e])) fun j a z => by
      by_cases hj:j = i
      · subst hj; rw [setP_eq] at z; exact z.elim
      · rw [setP_ne hj] at z; exact z
  · rw [if_neg hi] at e; cases e
theorem pgd_name {i:Nat} {x:Str} {pos:Pos} (hN:X.N.Nodup) (hi:X.N[i]? = some x) (hx:Loc X.env.scope x) (hf:X.fn x = true \/ X.env.scope.names.lookup x = some .local := by first | exact .inl rfl | exact .inr rfl | assumption) : PGD X [i] (.Name x pos) (gN i) :=
  ⟨_,pg_name hN hi hx hf,sndg_name⟩
def gsNil:List D -> Bool -> En -> Option En := fun ds _ env => match ds with
  | [] => some env
  | _ => none
def gsCons (f:D -> Bool -> En -> Option En) (fs:List D -> Bool -> En -> Option En) : List D -> Bool -> En -> Option En := fun ds fr env => match ds with
  | d :: r => (f d fr env).bind fun env' => fs r fr env'
  | [] => none
theorem pgsd_nil:PGsD X [] [] gsNil := ⟨_,pgs_nil,fun g M ρ env env' σ H ds fr vs Q rep is e k => by
  cases ds with
  | nil => cases e; cases is; exact ⟨rfl,k σ ρ rep (fun _ _ => rfl) fun _ _ z => z⟩
  | cons d ds => cases e⟩
theorem pgsd_cons {e:Expr} {es:List Expr} {f:D -> Bool -> En -> Option En} {fs:List D -> Bool -> En -> Option En} {ix jx:List Nat} (h1:PGD X ix e f) (h2:PGsD X jx es fs)
    (hs:∀ t,PG X e t -> ∀ u,PGs X es u -> PGs X (e :: es) (gCons t u)) : PGsD X (ix ++ jx) (e :: es) (gsCons f fs) := by
  obtain ⟨t,p1,s1⟩ := h1
  obtain ⟨u,p2,s2⟩ := h2
  refine ⟨_,hs t p1 u p2,fun g M ρ env env' σ H ds fr vs Q rep is e k => ?_⟩
  cases ds with
  | nil => cases e
  | cons d ds =>
    obtain ⟨v,r,rfl,i1,i2⟩ := is
    unfold gsCons at e
    dsimp only at e
    cases q:f d fr env with
    | none => rw [q] at e; cases e
    | some env1 =>
      rw [q] at e
      refine ⟨v,r,rfl,s1 g M ρ env env1 σ H d fr v _ rep i1 q fun σ1 ρ1 rep1 c1 d1 => ?_⟩
      exact s2 g M ρ1 env1 env' σ1 H ds fr r Q rep1 i2 e fun σ2 ρ2 rep2 c2 d2 => k σ2 ρ2 rep2 (fun j hj => (c2 j fun z => hj (by simp [z])).trans (c1 j fun z => hj (by simp [z]))) fun j a z => d1 j a (d2 j a z)
def gT (n:Nat) (fs:List D -> Bool -> En -> Option En) : D -> Bool -> En -> Option En := fun d fr env => match d with
  | .tup ds => if ds.length = n then fs ds fr env else none
  | _ => none
theorem pgd_tup {ix:List Nat} {es:List Expr} {k:Nat} {pos:Pos} {n:Nat} {fs:List D -> Bool -> En -> Option En} (hc:X.calm = true) (h:PGsD X ix es fs) (hn:(assignEach es X.env).length = n := by rfl) (hst:(assignEach es X.env).findIdx? (·.1) = none := by rfl) : PGD X ix (.Tuple es k pos) (gT n fs) := by
  obtain ⟨t,p1,s1⟩ := h
  refine ⟨_,pg_tup hc p1 hn hst,fun g M ρ env env' σ H d fr v Q rep is e kk => ?_⟩
  unfold gT at e
  cases d with
  | tup ds =>
    obtain ⟨a,vs,rfl,h1,h2⟩ := is
    dsimp only at e
    by_cases hl:ds.length = n
    · rw [if_pos hl] at e
      exact ⟨a,vs,rfl,SqT.of h1,h2.length.trans hl,s1 g M ρ env env' σ H ds fr vs Q rep h2 e kk⟩
    · rw [if_neg hl] at e; cases e
  | _ => cases e
end
structure Src where
  xs:List D
  fr:Bool
  al:List Nat
structure Walk (J:It) (m:Addr -> Prop) (H:Hp) (xs:List D) : Prop where
  go:∀ H' i d,(∀ a o,H a = some o -> (m a \/ fixd o) -> H' a = some o) -> xs[i]? = some d -> J.go i H' /\ ∀ x H'',J.yld i H' x H'' -> Same H' H'' /\ Is H'' m d x
  stop:∀ H',(∀ a o,H a = some o -> (m a \/ fixd o) -> H' a = some o) -> J.stop xs.length H'
theorem Walk.weak {J:It} {m m':Addr -> Prop} {H:Hp} {xs:List D} (w:Walk J m H xs) (h:∀ a,m a -> m' a) : Walk J m' H xs :=
  ⟨fun H' i d k e => let ⟨a,b⟩ := w.go H' i d (fun a o q z => k a o q (z.imp (h a) id)) e; ⟨a,fun x H'' y => let ⟨c,d⟩ := b x H'' y; ⟨c,d.weak h⟩⟩,fun H' k => w.stop H' fun a o q z => k a o q (z.imp (h a) id)⟩
def PostI (mg:Str -> Option Value) (E:XK) (g:Gd) (M:Addr -> Prop) (ρ:Pr) (env:En) (σ:St) (H:Hp) (R:It -> Hp -> Prop) : Res Src -> Prop
  | .stuck => False
  | .exc c => XOk mg E g c
  | .ok s => ∀ J M' H',Ext M H M' H' -> Rep g M' ρ env σ H' -> Walk J (vmsk g M' s.fr ρ s.al) H' s.xs -> R J H'
def SndI (mg:Str -> Option Value) (E:XK) (wi:TI) (f:En -> Res Src) : Prop := ∀ g M ρ env σ H R,Rep g M ρ env σ H -> PostI mg E g M ρ env σ H R (f env) -> wi σ H R
def PID (X:Cx) (E:XK) (tg iter:Expr) (f:En -> Res Src) : Prop := ∃ wi,PI X tg iter wi /\ SndI X.mg E wi f
section
variable {X:Cx} {E:XK} {tg:Expr}
def iSeq (K:PySem.W.Frag) (tl:TE) : TI := fun σ H R => tl σ H fun x H1 => ∃ a,x = .ref a /\ (((∃ xs,SqL K H1 a xs) /\ R (Itl K a) H1) \/ ((∃ xs,SqT K H1 a xs) /\ R (Itt K a) H1))
theorem pi_seq {l:Expr} {tl:TE} (hl:PE X l tl) : PI X tg l (iSeq X.K tl) := by
  intro pins s σ H R I h
  refine thn (hl pins s σ H _ I h) fun v s1 ⟨x,H1,I1,r1,q1⟩ => ?_
  obtain ⟨a,e,q⟩ := q1
  subst e
  cases r1
  rcases q with ⟨⟨xs,hq⟩,q⟩ | ⟨⟨xs,hq⟩,q⟩
  · obtain ⟨its,rv,p,hz⟩ := I1.list hq
    refine wpAny_pyIter_list p.isList ?_
    refine ⟨s1.heap.objs.size,[s1.heap.objs.size],_,_,H1,rfl,I1.kept (t' := s1.toks) fun b o e => Heap.get?_push_of_some _ e,turn_list a _,⟨_,Heap.get?_push_size _ rfl,rfl,rfl⟩,fun b hb => ?_,q⟩
    have e:b = s1.heap.objs.size := by simpa using hb
    subst e
    exact I1.fpOk (Nat.le_refl _) (I1.hok.fresh (Nat.le_refl _))
  · obtain ⟨its,rv,p,hz⟩ := I1.tuple hq
    refine wpAny_pyIter_tuple (show s1.heap.IsTuple a its.toArray from p) ?_
    refine ⟨s1.heap.objs.size,[s1.heap.objs.size],_,_,H1,rfl,I1.kept (t' := s1.toks) fun b o e => Heap.get?_push_of_some _ e,turn_tuple a _,⟨_,Heap.get?_push_size _ rfl,rfl,rfl⟩,fun b hb => ?_,q⟩
    have e:b = s1.heap.objs.size := by simpa using hb
    subst e
    exact I1.fpOk (Nat.le_refl _) (I1.hok.fresh (Nat.le_refl _))
theorem walk_list {K:PySem.W.Frag} {a:Addr} {m:Addr -> Prop} {H:Hp} {ds:List D} {vs:List V} (h:(H a = some (.lst vs) /\ m a) \/ ∃ o,H a = some (.frz o (.lst vs)) /\ m a) (is:IsAll H m ds vs) : Walk (Itl K a) m H ds := by
  have st:∀ H',(∀ a o,H a = some o -> (m a \/ fixd o) -> H' a = some o) -> SqL K H' a vs := fun H' k => by
    rcases h with ⟨h,hm⟩ | ⟨o,h,_⟩
    · exact .inl (.inl (k a _ h (.inl hm)))
    · exact .inl (.inr ⟨o,k a _ h (.inr True.intro)⟩)
  refine ⟨fun H' i d k e => ?_,fun H' k => ⟨vs,st H' k,by rw [is.length]; exact Nat.le_refl _⟩⟩
  obtain ⟨v,ev,iv⟩ := (is.mono k fun _ _ _ z => z:IsAll H' m ds vs).get e
  refine ⟨⟨vs,v,st H' k,ev⟩,fun x H'' y => ?_⟩
  obtain ⟨rfl,y⟩ := y
  have := y vs (st _ k)
  rw [ev] at this; cases this
  exact ⟨Same.refl _,iv⟩
theorem walk_tup {K:PySem.W.Frag} {a:Addr} {m:Addr -> Prop} {H:Hp} {ds:List D} {vs:List V} (h:H a = some (.tup vs)) (is:IsAll H m ds vs) : Walk (Itt K a) m H ds := by
  have st:∀ H',(∀ a o,H a = some o -> (m a \/ fixd o) -> H' a = some o) -> SqT K H' a vs := fun H' k => SqT.of (k a _ h (.inr True.intro))
  refine ⟨fun H' i d k e => ?_,fun H' k => ⟨vs,st H' k,by rw [is.length]; exact Nat.le_refl _⟩⟩
  obtain ⟨v,ev,iv⟩ := (is.mono k fun _ _ _ z => z:IsAll H' m ds vs).get e
  refine ⟨⟨vs,v,st H' k,ev⟩,fun x H'' y => ?_⟩
  obtain ⟨rfl,y⟩ := y
  have := y vs (st _ k)
  rw [ev] at this; cases this
  exact ⟨Same.refl _,iv⟩
def numsD (lo:Int) (n:Nat) : List D := (List.range n).map fun k => .int (lo + (k:Nat))
theorem walk_range {m:Addr -> Prop} {H:Hp} (lo:Int) (n:Nat) : Walk (Itr lo n) m H (numsD lo n) := by
  refine ⟨fun H' i d k e => ?_,fun H' k => by show n <= (numsD lo n).length; simp [numsD]⟩
  have hi:i < n := by have := (List.getElem?_eq_some_iff.mp e).1; simpa [numsD] using this
  refine ⟨hi,fun x H'' y => ?_⟩
  obtain ⟨rfl,rfl⟩ := y
  refine ⟨Same.refl _,?_⟩
  have:(numsD lo n)[i]? = some (.int (lo + (i:Nat))) := by simp [numsD,hi]
  rw [this] at e; cases e
  rfl
def sSeq (f:En -> Res R) : En -> Res Src := fun env => (f env).bind fun r => match r.d with
  | .lst ds => .ok ⟨ds,r.fr,r.al⟩
  | .tup ds => .ok ⟨ds,r.fr,r.al⟩
  | _ => .stuck
theorem pid_seq {l:Expr} {f:En -> Res R} (h:PD X E l f) : PID X E tg l (sSeq f) := by
  obtain ⟨t,p1,s1⟩ := h
  refine ⟨_,pi_seq p1,fun g M ρ env σ H R rep p => ?_⟩
  refine s1.one rep (P := fun M H r => PostI X.mg E g M ρ env σ H R r) p (fun _ _ z => z) (fun _ _ _ z => z) (fun M H M' H' r e p => ?_) fun r v M1 H1 e1 rep1 is q => ?_
  · cases r with
    | stuck => exact p
    | exc c => exact p
    | ok s => exact fun J M2 H2 e2 => p J M2 H2 (e.trans e2)
  · cases z:r.d with
    | lst ds =>
      rw [z] at is
      simp only [z] at q
      obtain ⟨a,vs,rfl,h1,h2⟩ := is
      exact ⟨a,rfl,.inl ⟨⟨vs,.inl (h1.imp (·.1) fun ⟨o,z,_⟩ => ⟨o,z⟩)⟩,q _ M1 H1 (Ext.refl _ _) rep1 (walk_list h1 h2)⟩⟩
    | tup ds =>
      rw [z] at is
      simp only [z] at q
      obtain ⟨a,vs,rfl,h1,h2⟩ := is
      exact ⟨a,rfl,.inr ⟨⟨vs,SqT.of h1⟩,q _ M1 H1 (Ext.refl _ _) rep1 (walk_tup h1 h2)⟩⟩
    | _ => simp only [z] at q; exact q.elim
def cR (i:Int) : Bool := decide (-(2 ^ 62) <= i) && decide (i < 2 ^ 62)
def sR1 (fs:En -> Res (List R)) : En -> Res Src := fun env => (fs env).bind fun rs => match rs.map R.d with
  | [.int j] => if cR j then .ok ⟨numsD 0 j.toNat,true,[]⟩ else .stuck
  | _ => .stuck
theorem PostI.ext {mg:Str -> Option Value} {g:Gd} {M M':Addr -> Prop} {ρ:Pr} {env:En} {σ:St} {H H':Hp} {R:It -> Hp -> Prop} {r:Res Src} (e:Ext M H M' H') (p:PostI mg E g M ρ env σ H R r) : PostI mg E g M' ρ env σ H' R r := by
  cases r with
  | stuck => exact p
  | exc c => exact p
  | ok s => exact fun J M2 H2 e2 => p J M2 H2 (e.trans e2)
theorem pid_range1 {a : Expr} {fs : En -> Res (List R)} {p pos : Pos} (hg : Gl X "range") (hm : X.mg "range" = none) (ha : PAD X E [a] fs) (hs : starEach [a] X.env = [(false, eval a X.env)] := by rfl) : PID X E tg (.Call (.Name "range" p) [a] [] pos) (sR1 fs) := by
  obtain ⟨t,p1,s1⟩ := ha
  refine ⟨_,pi_range1 hg hm p1 hs,fun g M ρ env σ H Rq rep p => s1.one rep (P := fun M H r => PostI X.mg E g M ρ env σ H Rq r) p (fun _ _ z => z) (fun _ _ _ z => z) (fun _ _ _ _ _ e p => p.ext e) fun rs vs M1 H1 e1 rep1 is q => ?_⟩
  generalize hd:rs.map R.d = ds at is q
  match ds,is,q with
  | [.int j],is,q =>
    obtain ⟨v,w,rfl,i1,i2⟩ := is
    cases i1; cases i2
    dsimp only at q
    by_cases hc:cR j = true
    · rw [if_pos hc] at q
      simp only [cR,Bool.and_eq_true,decide_eq_true_eq] at hc
      exact ⟨j,rfl,hc.1,hc.2,q _ M1 H1 (Ext.refl _ _) rep1 (walk_range 0 j.toNat)⟩
    · rw [if_neg hc] at q; exact q.elim
  | [],_,q => exact q.elim
  | [.non],_,q => exact q.elim
  | [.bl _],_,q => exact q.elim
  | [.str _],_,q => exact q.elim
  | [.tup _],_,q => exact q.elim
  | [.lst _],_,q => exact q.elim
  | [.dic _ _],_,q => exact q.elim
  | .int _ :: _ :: _,_,q => exact q.elim
  | .non :: _ :: _,_,q => exact q.elim
  | .bl _ :: _ :: _,_,q => exact q.elim
  | .str _ :: _ :: _,_,q => exact q.elim
  | .tup _ :: _ :: _,_,q => exact q.elim
  | .lst _ :: _ :: _,_,q => exact q.elim
  | .dic _ _ :: _ :: _,_,q => exact q.elim
def forD (asg:D -> Bool -> En -> Option En) (fr:Bool) (body:En -> Res Fl) : List D -> En -> Res Fl
  | [],env => .ok (.nx env)
  | x :: xs,env => match asg x fr env with
    | none => .stuck
    | some env1 => (body env1).bind fun r => match r with
      | .nx env' => forD asg fr body xs env'
      | .ct env' => forD asg fr body xs env'
      | .bk env' => .ok (.nx env')
      | .rt r => .ok (.rt r)
      | .rm r e => .ok (.rm r e)
def fFor (src:En -> Res Src) (asg:D -> Bool -> En -> Option En) (body:En -> Res Fl) : En -> Res Fl := fun env => (src env).bind fun s => forD asg s.fr body s.xs (frz env s.al)
def LoopG (J:It) (u:TG) (tb:TS) (D:Ends) (σ:St) (H1:Hp) : Prop := ∃ W:Nat -> Nat -> St -> Hp -> Prop,(∃ m,W 0 m σ H1) /\ ∀ i m σ H,W i m σ H -> (J.stop i H /\ D.nx σ H) \/ (J.go i H /\ ∃ N:St -> Hp -> Prop,(∀ σ' H',N σ' H' -> ∃ m',m' < m /\ W (i + 1) m' σ' H') /\ ∀ x H',J.yld i H x H' -> u x σ H' fun σ2 H2 => tb { D with nx := N,ct := N,bk := D.nx } σ2 H2)
theorem for_core {J:It} {u:TG} {tb:TS} {ix:List Nat} {asg:D -> Bool -> En -> Option En} {fb:En -> Res Fl} {fr:Bool} {xs:List D} {g:Gd} {M2:Addr -> Prop} {ρ2:Pr} {env2:En} {σ:St} {H1:Hp} {D:Ends} (s2:SndG ix u asg) (s3:SndS X.mg E tb fb) (rep2:Rep g M2 ρ2 env2 σ H1) (wk2:Walk J (msk g M2 fr) H1 xs) (p2':PostS X.mg E g M2 H1 D (forD asg fr fb xs env2)) : LoopG J u tb D σ H1 := by
  refine ⟨fun i m σ' H' => m = xs.length - i /\ i <= xs.length /\ ∃ M' ρ' env',Rep g M' ρ' env' σ' H' /\ Frz M2 H1 M' H' /\ PostS X.mg E g M' H' D (forD asg fr fb (xs.drop i) env'),⟨_,rfl,Nat.zero_le _,M2,ρ2,_,rep2,Frz.refl _ _,p2'⟩,?_⟩
  rintro i m σ' H' ⟨rfl,hle,M',ρ',env',rep',f',p'⟩
  have kp:∀ a o,H1 a = some o -> (msk g M2 fr a \/ fixd o) -> H' a = some o := fun a o e z => f'.h a o e (z.imp (·.1) id)
  by_cases hlt:i < xs.length
  · have ed:xs[i]? = some xs[i] := by simp [hlt]
    obtain ⟨go,yl⟩ := wk2.go H' i _ kp ed
    have edrop:xs.drop i = xs[i] :: xs.drop (i + 1) := List.drop_eq_getElem_cons hlt
    rw [edrop] at p'
    unfold forD at p'
    refine .inr ⟨go,fun σ'' H'' => ∃ M'' ρ'' env'',Rep g M'' ρ'' env'' σ'' H'' /\ Frz M2 H1 M'' H'' /\ PostS X.mg E g M'' H'' D (forD asg fr fb (xs.drop (i + 1)) env''),fun σ'' H'' z => ⟨xs.length - (i + 1),by omega,rfl,hlt,z⟩,fun x H'' y => ?_⟩
    obtain ⟨sm,is⟩ := yl x H'' y
    have rep'' := rep'.grow sm
    have fx:Frz M' H' M' H'' := ⟨fun _ z => z,fun a o e _ => sm a o e⟩
    have is':Is H'' (msk g M' fr) xs[i] x := is.weak fun a z => msk.mono f'.m z
    cases qa:asg xs[i] fr env' with
    | none => simp only [qa] at p'; exact p'.elim
    | some env1 =>
      simp only [qa] at p'
      refine s2 g M' ρ' env' env1 σ' H'' _ fr x _ rep'' is' qa fun σ1 ρ1 rep1' _ _ => ?_
      refine s3 g M' ρ1 env1 σ1 H'' _ rep1' ?_
      have p'' := PostS.frz fx p'
      cases qb:fb env1 with
      | stuck => rw [qb] at p''; exact p''
      | exc c => rw [qb] at p''; exact p''
      | ok r =>
        rw [qb] at p''
        cases r with
        | nx e3 => exact fun σ3 M3 ρ3 H3 f3 rep3 => ⟨M3,ρ3,e3,rep3,(f'.trans fx).trans f3,PostS.frz f3 p''⟩
        | ct e3 => exact fun σ3 M3 ρ3 H3 f3 rep3 => ⟨M3,ρ3,e3,rep3,(f'.trans fx).trans f3,PostS.frz f3 p''⟩
        | bk e3 => exact p''
        | rt r => exact p''
        | rm r e3 => exact p''
  · have e:i = xs.length := by omega
    subst e
    rw [List.drop_length] at p'
    exact .inl ⟨wk2.stop H' kp,p' σ' M' ρ' H' (Frz.refl _ _) rep'⟩
theorem psd_for {ix:List Nat} {iter:Expr} {body:List Stmt} {src:En -> Res Src} {asg:D -> Bool -> En -> Option En} {fb:En -> Res Fl} {pos:Pos} (hp:PassesOwn (model X.prog X.w) X.A X.env X.xe) (hc:X.calm = true)
    (hi:PID X E tg iter src) (hg:PGD X ix tg asg) (hb:PSsD X E body fb) (hs:∀ x,foldedSetIterable iter X.env x = pure x := by intro _; rfl) : PSD X E (.For tg iter body [] pos) (fFor src asg fb) := by
  obtain ⟨wi,p1,s1⟩ := hi
  obtain ⟨u,p2,s2⟩ := hg
  obtain ⟨tb,p3,s3⟩ := hb
  refine ⟨_,ps_for hp hc p1 p2 p3 hs,fun g M ρ env σ H D rep p => ?_⟩
  refine s1 g M ρ env σ H _ rep ?_
  unfold fFor at p
  cases q:src env with
  | stuck => rw [q] at p; exact p
  | exc c => rw [q] at p; exact p
  | ok s =>
    rw [q] at p
    intro J M1 H1 e1 rep1 wk
    obtain ⟨M2,ρ2,x2,rep2,o2,_,_⟩ := Rep.frz s.al rep1
    have wk2:Walk J (msk g M2 s.fr) H1 s.xs := wk.weak fun a z => z.elim (msk.mono x2) fun ⟨i,hi,o⟩ => ⟨o2 i hi a o,fun _ => (rep1.priv i a o).2.1⟩
    have p2':PostS X.mg E g M2 H1 D (forD asg s.fr fb s.xs (frz env s.al)) := PostS.frz (e1.frz.trans ⟨x2,fun _ _ q _ => q⟩) p
    exact for_core s2 s3 rep2 wk2 p2'
end
end L3
namespace L3
open PySem PySem.Spec PyProof.Rows L2
theorem closure_loop {env:Env} : ∀ (names:List (Str × NameKind)) (cs:List (Str × Addr)),(∀ x ∈ names,x.2 = .free -> ∃ c,env.cells.lookup x.1 = some c) -> (∀ y c,cs.lookup y = some c -> env.cells.lookup y = some c) ->
    ∃ cl,(forIn names cs fun (x:Str × NameKind) (r:List (Str × Addr)) => (do
      if (x.2 == .free) = true then
        let c <- cellOf env x.1
        pure (ForInStep.yield ((x.1,c) :: r))
      else pure (ForInStep.yield r) : Sem (ForInStep (List (Str × Addr))))) = pure cl /\ (∀ y c,cl.lookup y = some c -> env.cells.lookup y = some c) /\ (∀ x ∈ names,x.2 = .free -> ∃ c,cl.lookup x.1 = some c) /\ (∀ y c,cs.lookup y = some c -> ∃ c',cl.lookup y = some c')
  | [],cs,_,h => ⟨cs,by simp,h,fun _ z => absurd z (by simp),fun y c e => ⟨c,e⟩⟩
  | (n,k) :: r,cs,hf,h => by
    by_cases hk:k = .free
    · subst hk
      obtain ⟨c,hc⟩ := hf (n,.free) (by simp) rfl
      have hco:cellOf env n = pure c := by simp [cellOf,hc]
      have h':∀ y c',((n,c) :: cs).lookup y = some c' -> env.cells.lookup y = some c' := fun y c' e => by
        rw [List.lookup_cons] at e
        cases hy:y == n with
        | true => rw [hy] at e; cases e; rw [eq_of_beq hy]; exact hc
        | false => rw [hy] at e; exact h y c' e
      obtain ⟨cl,e1,e2,e3,e4⟩ := closure_loop r ((n,c) :: cs) (fun x hx => hf x (by simp [hx])) h'
      have self:∃ c',cl.lookup n = some c' := e4 n c (by simp [List.lookup_cons])
      refine ⟨cl,?_,e2,fun x hx hxf => ?_,fun y c' e => ?_⟩
      · rw [List.forIn_cons]
        simp only [beq_self_eq_true,if_true,hco,pure_bind]
        exact e1
      · rcases List.mem_cons.mp hx with rfl | hx
        · exact self
        · exact e3 x hx hxf
      · by_cases hy : y = n
        · rw [hy]; exact self
        · refine e4 y c' ?_
          have hb:(y == n) = false := by simpa using hy
          rw [List.lookup_cons,hb]
          exact e
    · obtain ⟨cl,e1,e2,e3,e4⟩ := closure_loop r cs (fun x hx => hf x (by simp [hx])) h
      refine ⟨cl,?_,e2,fun x hx hxf => ?_,e4⟩
      · rw [List.forIn_cons]
        have hkb:(k == NameKind.free) = false := by simpa using hk
        simp only [hkb,Bool.false_eq_true,if_false,pure_bind]
        exact e1
      · rcases List.mem_cons.mp hx with rfl | hx
        · exact absurd hxf hk
        · exact e3 x hx hxf
theorem closureFor_of {scope:Scope} {env:Env} (h:∀ x ∈ scope.names,x.2 = .free -> ∃ c,env.cells.lookup x.1 = some c) :
    ∃ cl,closureFor scope env = pure cl /\ (∀ y c,cl.lookup y = some c -> env.cells.lookup y = some c) /\ (∀ x ∈ scope.names,x.2 = .free -> ∃ c,cl.lookup x.1 = some c) := by
  obtain ⟨cl,e1,e2,e3,_⟩ := closure_loop scope.names [] h (fun _ _ e => by simp at e)
  refine ⟨cl,?_,e2,e3⟩
  unfold closureFor
  refine Eq.trans ?_ (show ((pure cl:Sem (List (Str × Addr))) >>= fun cs => pure cs) = pure cl by simp)
  rw [<- e1]
  all_goals first
    | rfl
    | (congr 1; congr 1; funext x r; obtain ⟨n,k⟩ := x; first | rfl | (dsimp only; split <;> simp_all))
theorem lookup_mapk {f:Str -> NameKind -> NameKind} : ∀ (names:List (Str × NameKind)) (y:Str),(names.map fun x => (x.1,f x.1 x.2)).lookup y = (names.lookup y).map (f y)
  | [],y => rfl
  | (n,k) :: r,y => by
    rw [List.map_cons,List.lookup_cons,List.lookup_cons]
    cases h:y == n with
    | true => rw [eq_of_beq h]; rfl
    | false => exact lookup_mapk r y
theorem relabel_lookup (scope:Scope) (env:Env) (y:Str) : (relabel scope env).names.lookup y = (scope.names.lookup y).map fun k => if (k == .free && env.scope.kind == .function && env.kindOf y == some .cell) = true then .cell else k := by
  have e:(relabel scope env).names = scope.names.map fun x => (x.1,(fun n k => if (k == NameKind.free && env.scope.kind == .function && env.kindOf n == some .cell) = true then NameKind.cell else k) x.1 x.2) := by
    unfold relabel
    refine List.map_congr_left fun x _ => ?_
    obtain ⟨n,k⟩ := x
    dsimp only
    split <;> rfl
  rw [e]
  exact lookup_mapk (f := fun n k => if (k == NameKind.free && env.scope.kind == .function && env.kindOf n == some .cell) = true then NameKind.cell else k) scope.names y
theorem relabel_free {scope:Scope} {env:Env} {y:Str} (h:scope.names.lookup y = some .free) : (relabel scope env).names.lookup y = some .cell \/ (relabel scope env).names.lookup y = some .free := by
  rw [relabel_lookup,h]
  simp only [Option.map_some]
  split
  · exact .inl rfl
  · exact .inr rfl
def compX (X:Cx) (scope:Scope) (N:List Str) (cl:List (Str × Addr)) (C:Addr) (s:Shared) (H:Hp) (ex:List Addr) : Cx :=
  { X with N := N,s₀ := s,H₀ := H,env := compEnvC scope cl C X.env,outer := X.stack,ex := ex,fn := fun _ => false,pn := [],xe := fun _ _ => False }
section
variable {X:Cx} {pins:List (Addr × Obj)} {σ:St} {H:Hp} {s:Shared} {scope:Scope} {N:List Str} {cl:List (Str × Addr)} {C:Addr} {ex:List Addr}
theorem comp_ok (I:L2.Inv X pins σ H s) (hkind:scope.kind = .function) (hcell:∀ y ∈ scope.names,y.2 ≠ .cell) (hcl:∀ y c,cl.lookup y = some c -> X.env.cells.lookup y = some c) (hhas:∀ x ∈ scope.names,x.2 = .free -> ∃ c,cl.lookup x.1 = some c)
    (hC:s.heap.objs.size <= C) (hex:∀ b ∈ ex,FpOk X pins H b /\ b < s.heap.objs.size) : (compX X scope N cl C s H ex).Ok where
  mod := I.ok.mod
  kind := hkind
  glob := I.ok.glob
  blt := I.ok.blt
  above := hC
  inj := fun x y c h1 h2 => I.ok.inj x y c (hcl x c h1) (hcl y c h2)
  has := fun y hy => by
    have key:∀ k,(relabel scope X.env).names.lookup y = some k -> (k = .cell \/ k = .free) -> ∃ c,cl.lookup y = some c := fun k e hk => by
      rw [relabel_lookup] at e
      cases q:scope.names.lookup y with
      | none => rw [q] at e; cases e
      | some k0 =>
        have hm := PySem.mem_of_lookup q
        have h0 := hcell _ hm
        have hf:k0 = .free := by
          rw [q] at e
          simp only [Option.map_some,Option.some.injEq] at e
          split at e
          · rename_i z
            simp only [Bool.and_eq_true,beq_iff_eq] at z
            exact z.1.1
          · rcases hk with hk | hk
            · exact absurd (e.trans hk) h0
            · exact e.trans hk
        exact hhas _ hm hf
    rcases hy with hy | hy
    · exact key _ hy (.inl rfl)
    · exact key _ hy (.inr rfl)
  cab := fun _ _ h => by cases h
  hd := I.ok.hd
  frames := I.ok.frames
  stk := .inl rfl
  exf := fun b hb => ⟨Nat.ne_of_lt (Nat.lt_of_lt_of_le (hex b hb).2 hC),fun x c e => (hex b hb).1.2.2.2.2.1 x c (hcl x c e)⟩
  bs := fun b o e => I.bs b o e
  bsz := Nat.le_trans I.ok.bsz I.sz
  noex := fun b o e hb => by
    rcases (hex b hb).1.2.2.2.1 with z | z
    · exact I.ok.noex b o e z
    · exact absurd (Nat.lt_of_lt_of_le (Heap.lt_size e) (Nat.le_trans I.ok.bsz z)) (Nat.lt_irrefl _)
  exfs := fun b hb hfs => by
    rcases List.mem_cons.mp (I.stkSub b hfs) with z | z
    · exact (hex b hb).1.2.1 z
    · exact (hex b hb).1.2.2.1 z
  funs := I.stack
  frf := I.stkFree
structure Caps (X:Cx) (scope:Scope) (capN:List Str) (caps:List Nat) : Prop where
  at':∀ (k:Nat) (y:Str),capN[k]? = some y -> ∃ j:Nat,caps[k]? = some j /\ X.N[j]? = some y
  out:∀ y ∈ capN,X.env.kindOf y = some .cell \/ X.env.kindOf y = some .free
  inn:∀ y ∈ capN,scope.names.lookup y = some .free
  len:caps.length = capN.length
def capS (σ:St) (caps:List Nat) : St := caps.map fun j => (σ[j]?).join
theorem comp_inv {tN:List Str} {capN:List Str} {caps:List Nat} {h4:Heap} {tk:Nat} {m4:Str -> Option Value} (I:L2.Inv X pins σ H s) (hkind:scope.kind = .function) (hcell:∀ y ∈ scope.names,y.2 ≠ .cell) (hcl:∀ y c,cl.lookup y = some c -> X.env.cells.lookup y = some c) (hhas:∀ x ∈ scope.names,x.2 = .free -> ∃ c,cl.lookup x.1 = some c)
    (hC:s.heap.objs.size <= C) (hex:∀ b ∈ ex,FpOk X pins H b /\ b < s.heap.objs.size) (hc:Caps X scope capN caps) (kp:∀ b o,s.heap.get? b = some o -> h4.get? b = some o) (ns:h4.Ns C m4) :
    L2.Inv (compX X scope (tN ++ capN) cl C s H ex) [] (List.replicate tN.length none ++ capS σ caps) H { s with heap := h4,toks := tk } where
  ok := comp_ok I hkind hcell hcl hhas hC hex
  os := rfl
  bare := I.bare
  base := Un.kept kp
  loc := by
    refine ⟨m4,ns,fun i y v e1 e2 e3 => ?_⟩
    by_cases hlt:i < tN.length
    · rw [List.getElem?_append_left (by simpa using hlt),List.getElem?_replicate] at e2
      rw [if_pos hlt] at e2; cases e2
    · obtain ⟨k,rfl⟩ : ∃ k,i = tN.length + k := ⟨i - tN.length,by omega⟩
      have e1:capN[k]? = some y := by
        have e1:(tN ++ capN)[tN.length + k]? = some y := e1
        rwa [List.getElem?_append_right (by omega),Nat.add_sub_cancel_left] at e1
      have e2:(capS σ caps)[k]? = some (some v) := by
        rwa [List.getElem?_append_right (by simp),List.length_replicate,Nat.add_sub_cancel_left] at e2
      obtain ⟨j,ej,eN⟩ := hc.at' k y e1
      have e4:σ[j]? = some (some v) := by
        unfold capS at e2
        rw [List.getElem?_map,ej] at e2
        have e2:(σ[j]?).join = some v := by simpa using e2
        cases q:σ[j]? with
        | none => rw [q] at e2; cases e2
        | some o => rw [q] at e2; cases o with
          | none => cases e2
          | some w => cases e2; rfl
      have hm := List.mem_of_getElem? e1
      obtain ⟨m,hn,hl⟩ := I.loc
      have hout := hc.out y hm
      obtain ⟨u,r,l⟩ := hl j y v eN e4 (.inr hout)
      refine ⟨u,r,.inr ⟨relabel_free (hc.inn y hm),?_⟩⟩
      obtain ⟨c,hcl2⟩ := hhas (y,.free) (PySem.mem_of_lookup (hc.inn y hm)) rfl
      refine ⟨c,hcl2,?_⟩
      rcases l with ⟨l,_⟩ | ⟨_,c',e5,z⟩
      · rcases hout with h | h <;> (rw [h] at l; cases l)
      · have := hcl y c hcl2
        rw [e5] at this; cases this
        obtain ⟨o,ho,hd⟩ := z
        exact ⟨o,kp _ o ho,hd⟩
  cell := fun y c e => by
    obtain ⟨v,o,ho,hd⟩ := I.cell y c (hcl y c e)
    exact ⟨v,o,kp _ o ho,hd⟩
  free := I.hok.fresh hC
  freeC := fun y c e => I.freeC y c (hcl y c e)
  pin := fun p hp => absurd (show p ∈ ([] : List (Addr × Obj)) from hp) (by simp)
  hok := I.hok.kept kp
  len := by simp [compX,capS,hc.len]
theorem comp_back {X':Cx} {pl:List (Addr × Obj)} {σ':St} {H':Hp} {s':Shared} (I:L2.Inv X pins σ H s) (hX:X' = compX X scope N cl C s H ex) (hC:s.heap.objs.size <= C) (hex:∀ b ∈ ex,FpOk X pins H b /\ b < s.heap.objs.size)
    (I':L2.Inv X' pl σ' H' s') : L2.Inv X pins σ H' s' /\ FpOk X pins H' C := by
  subst hX
  refine ⟨I.call' (ch := ex) I'.os I'.base I'.hok I'.bare fun b hb => ?_,I.fpOk hC I'.free⟩
  obtain ⟨_,h2,h3,h4,h5,h6⟩ := (hex b hb).1
  exact ⟨h4,h2,h5,h6⟩
theorem inv_but {H:Hp} {h':Heap} (I:L2.Inv X pins σ H s) (hf:FpOk X pins H C) (sb:Heap.SameBut C s.heap h') : L2.Inv X pins σ H { s with heap := h' } :=
  I.turned (t' := s.toks) (it := C) (fun b o hb e => (sb.2 b hb).trans e) hf.1 hf.2.1 hf.2.2.2.1 hf.2.2.2.2.1 hf.2.2.2.2.2
end
end L3
namespace L3
open PySem PySem.Spec PyProof.Rows L2
section
variable {X:Cx} {pins:List (Addr × Obj)} {σ:St} {H3:Hp} {s3:Shared} {scope:Scope} {tg:Expr} {tN:List Str} {capN:List Str} {cl:List (Str × Addr)} {C:Addr} {fp:List Addr} {elt iter:Expr} {pos:Pos} {ifs:List Expr}
def PTs (X:Cx) (ifs:List Expr) (tt:TT) : Prop := ∀ (pins:List (Addr × Obj)) (s:Shared) (σ:St) (H:Hp) (Q:Bool -> Hp -> Prop),L2.Inv X pins σ H s -> tt σ H Q ->
  wpAny (model X.prog X.w) X.A (forIn ifs true fun c r => if r = true then do let ok <- isTrue c X.env (eval c X.env); pure (ForInStep.yield ok) else pure (ForInStep.yield r)) (TP X pins σ Q) X.xe s
theorem pts_nil:PTs X [] (fun _ H Q => Q true H) := fun _ _ σ H Q I q => wpAny_tests_nil ⟨H,I,q⟩
theorem comp_loop {J:It} {it Dl:Addr} {tn:Nat -> Heap -> Prop} {X':Cx} (hX:X' = compX X scope (tN ++ capN) cl C s3 H3 fp) (T:Turn X.prog X.w X.K tg J fp it tn) (hcalm:X.calm = true)
    {σc:St} {s4:Shared} (I4:L2.Inv X' [] (List.replicate tN.length none ++ σc) H3 s4) (hlen:X'.N.length = tN.length + σc.length) (st4:tn 0 s4.heap) (hf:∀ b ∈ fp,FpOk X' [] H3 b)
    {tt:TT} {te:TE} {gt:TG} (hg:PG X' tg gt) (ht:PTs X' ifs tt) (he:PE X' elt te)
    (W:Nat -> Nat -> List V -> Hp -> Prop) (Fin:List V -> Hp -> Prop) (w0:∃ m,W 0 m [] H3)
    (turn:∀ i m acc H,W i m acc H -> H Dl = some (.lst acc) /\ ((J.stop i H /\ Fin acc H) \/ (J.go i H /\ ∀ xv H' o,J.yld i H xv H' -> o.length = tN.length -> gt xv (o ++ σc) H' fun σ2 H1 => (∀ j:Nat,tN.length <= j -> σ2[j]? = (o ++ σc)[j]?) /\ tt σ2 H1 fun b H2 => if b = true then
      te σ2 H2 fun y H5 => H5 Dl = some (.lst acc) /\ acc.length < sizeLine /\ ∃ m',m' < m /\ W (i + 1) m' (acc ++ [y]) (upd H5 Dl (.lst (acc ++ [y]))) else ∃ m',m' < m /\ W (i + 1) m' acc H2)))
    (R:Result -> Shared -> Prop) (hR:∀ σ' H' acc s',L2.Inv X' [] σ' H' s' -> H' Dl = some (.lst acc) -> Fin acc H' -> R (.ok .next) s') :
    codeAny (model X.prog X.w) X.A (.compLoop (.ListComp elt [⟨tg,iter,ifs,0⟩] scope pos) 0 (.ref it) (.ref Dl) (compEnvC scope cl C X.env)) R s4 := by
  obtain ⟨m0,w0⟩ := w0
  have eA:X'.A = X.A := by rw [hX]; rfl
  have eP:X'.prog = X.prog := by rw [hX]; rfl
  have eW:X'.w = X.w := by rw [hX]; rfl
  have eK:X'.K = X.K := by rw [hX]; rfl
  have eE:X'.env = compEnvC scope cl C X.env := by rw [hX]; rfl
  have eX:X'.xe = fun _ _ => False := by rw [hX]; rfl
  have eC:X'.calm = true := by rw [hX]; exact hcalm
  have stat:∀ {H':Hp},(∀ b ∈ fp,H' b = none) -> ∀ b ∈ fp,FpOk X' [] H' b := fun hn b hb => ⟨hn b hb,(hf b hb).2⟩
  refine codeAny_loop rfl (fun n s => ∃ i o acc H,L2.Inv X' [] (o ++ σc) H s /\ o.length = tN.length /\ tn i s.heap /\ (∀ b ∈ fp,H b = none) /\ W i n acc H) ?_ m0 ⟨0,List.replicate tN.length none,[],H3,I4,by simp,st4,fun b hb => (hf b hb).1,w0⟩
  rintro n s5 ⟨i,o,acc,H5,I5,lo,st5,fr5,w5⟩
  show wpAny _ X.A ((compTurn (.ListComp elt [⟨tg,iter,ifs,0⟩] scope pos) 0 (.ref it) (.ref Dl) (compEnvC scope cl C X.env)).onRaise (fun x => do noteFrame x (compEnvC scope cl C X.env); theTreesLotGoes x)) _ _ s5
  refine wpAny_noted ?_
  rw [compTurn_list]
  obtain ⟨hD,alt⟩ := turn i n acc H5 w5
  rcases alt with ⟨stop,fin⟩ | ⟨go,step⟩
  · refine wpAny_bind (wpAny_standAt (wpAny_bind (wpAny_mono (eA ▸ T.done X' eP eW eK eC i [] s5 _ H5 _ I5 (stat fr5) st5 stop) (fun r s6 ⟨hr,I6⟩ => ?_) fun _ _ z => z)))
    subst hr
    exact wpAny_pure (hR _ H5 acc s6 I6 hD fin)
  · refine wpAny_bind (wpAny_standAt (wpAny_bind (wpAny_mono (eA ▸ T.item X' eP eW eK eC i [] s5 _ H5 _ I5 (stat fr5) st5 go) (fun r s6 ⟨u,hr,h6⟩ => ?_) fun _ _ z => z)))
    subst hr
    refine wpAny_bind (wpAny_mono h6 (fun _ s7 ⟨xv,H7,I7,r7,y7,st7,fr7⟩ => ?_) fun _ _ z => z)
    have I7' := I7.pinned (stat fr7) (T.obj _ _ st7)
    have hg' := hg _ s7 _ H7 xv u _ I7' r7 (step xv H7 o y7 lo)
    rw [eP,eW,eA,eE,eX] at hg'
    refine wpAny_bind (wpAny_mono hg' (fun _ s8 ⟨σ8,H8,I8,shp,q8⟩ => ?_) fun _ _ z => z.elim)
    obtain ⟨o2,lo2,eσ⟩ : ∃ o2:St,o2.length = tN.length /\ σ8 = o2 ++ σc := by
      have l8:σ8.length = tN.length + σc.length := I8.len.trans hlen
      refine ⟨σ8.take tN.length,by rw [List.length_take]; omega,?_⟩
      have ed:σ8.drop tN.length = σc := by
        apply List.ext_getElem?
        intro j
        rw [List.getElem?_drop,shp (tN.length + j) (by omega),List.getElem?_append_right (by omega),lo,Nat.add_sub_cancel_left]
      rw [<- ed,List.take_append_drop]
    subst eσ
    have ht' := ht _ s8 _ H8 _ I8 q8
    rw [eP,eW,eA,eE,eX] at ht'
    refine wpAny_bind (wpAny_mono ht' (fun ok s9 ⟨H9,I9,q9⟩ => ?_) fun _ _ z => z.elim)
    have again:∀ {s':Shared} {H':Hp},L2.Inv X' ([] ++ pinsAt fp s7.heap) (o2 ++ σc) H' s' -> L2.Inv X' [] (o2 ++ σc) H' s' /\ tn (i + 1) s'.heap /\ ∀ b ∈ fp,H' b = none := fun {s' H'} J' => by
      refine ⟨J'.unpinned,T.keep _ _ _ st7 fun b hb ob e => (J'.pin (b,ob) (List.mem_append_right _ (List.mem_append_right _ (mem_pinsAt hb e)))).1,fun b hb => ?_⟩
      obtain ⟨ob,e,d⟩ := T.obj _ _ st7 b hb
      exact (J'.pin (b,ob) (List.mem_append_right _ (List.mem_append_right _ (mem_pinsAt hb e)))).2.1
    cases ok with
    | false =>
      obtain ⟨m',hm,w9⟩ := (show ∃ m',m' < n /\ W (i + 1) m' acc H9 from by simpa using q9)
      obtain ⟨a1,a2,a3⟩ := again I9
      exact wpAny_pure ⟨rfl,m',hm,i + 1,o2,acc,H9,a1,lo2,a2,a3,w9⟩
    | true =>
      have q9:te (o2 ++ σc) H9 fun y H5 => H5 Dl = some (.lst acc) /\ acc.length < sizeLine /\ ∃ m',m' < n /\ W (i + 1) m' (acc ++ [y]) (upd H5 Dl (.lst (acc ++ [y]))) := by simpa using q9
      have he' := he _ s9 _ H9 _ I9 q9
      rw [eP,eW,eA,eE,eX] at he'
      refine wpAny_bind (wpAny_bind (wpAny_mono he' (fun v s10 ⟨y,H10,I10,ry,eD,hl,m',hm,w10⟩ => ?_) fun _ _ z => z.elim))
      have hm' := mt_append (X := X') _ s10 _ H10 (.ref Dl) [y] (.ref Dl) [v] (fun w H' => w = .non /\ H' = upd H10 Dl (.lst (acc ++ [y]))) I10 rfl (.cons ry .nil) ⟨Dl,acc,y,rfl,rfl,eD,hl,rfl,rfl⟩
      rw [eP,eW,eA,eX] at hm'
      refine wpAny_bind (wpAny_mono hm' (fun _ s11 ⟨w,H11,I11,_,_,eH⟩ => ?_) fun _ _ z => z.elim)
      subst eH
      obtain ⟨a1,a2,a3⟩ := again I11
      exact wpAny_pure (wpAny_pure ⟨rfl,m',hm,i + 1,o2,acc ++ [y],_,a1,lo2,a2,a3,w10⟩)
end
end L3
namespace L3
open PySem PySem.Spec PyProof.Rows L2
structure CScope (X:Cx) (scope:Scope) (tN:List Str) (capN:List Str) (caps:List Nat) : Prop where
  kind:scope.kind = .function
  ncell:∀ y ∈ scope.names,y.2 ≠ .cell
  names:∀ y ∈ scope.names,y.2 = .local -> scope.names.lookup y.1 = some .local
  own:∀ x ∈ tN,scope.names.lookup x = some .local
  free:∀ y ∈ scope.names,y.2 = .free -> X.env.kindOf y.1 = some .cell \/ X.env.kindOf y.1 = some .free
  cap:Caps X scope capN caps
  nd:(tN ++ capN).Nodup
section
variable {X:Cx} {pins:List (Addr × Obj)} {σ:St} {H:Hp} {s:Shared} {scope:Scope} {tg:Expr} {tN:List Str} {capN:List Str} {caps:List Nat} {elt iter:Expr} {pos:Pos} {ifs:List Expr} {wi:TI}
def CompGoal (X:Cx) (scope:Scope) (tg:Expr) (tN:List Str) (capN:List Str) (caps:List Nat) (elt:Expr) (ifs:List Expr) (σ:St) (Fin:Addr -> List V -> Hp -> Prop) (J:It) (H2:Hp) : Prop :=
  ∀ (Dl:Addr),H2 Dl = none -> ∀ (cl:List (Str × Addr)) (C:Addr) (s3:Shared) (fp:List Addr),∃ (gt:TG) (tt:TT) (te:TE) (W:Nat -> Nat -> List V -> Hp -> Prop),
    PG (compX X scope (tN ++ capN) cl C s3 (upd H2 Dl (.lst [])) fp) tg gt /\ PTs (compX X scope (tN ++ capN) cl C s3 (upd H2 Dl (.lst [])) fp) ifs tt /\ PE (compX X scope (tN ++ capN) cl C s3 (upd H2 Dl (.lst [])) fp) elt te /\ (∃ m,W 0 m [] (upd H2 Dl (.lst []))) /\
    ∀ i m acc H,W i m acc H -> H Dl = some (.lst acc) /\ ((J.stop i H /\ Fin Dl acc H) \/ (J.go i H /\ ∀ xv H' (o:St),J.yld i H xv H' -> o.length = tN.length -> gt xv (o ++ capS σ caps) H' fun σ2 H1 => (∀ j:Nat,tN.length <= j -> σ2[j]? = (o ++ capS σ caps)[j]?) /\ tt σ2 H1 fun b H2 => if b = true then
      te σ2 H2 fun y H5 => H5 Dl = some (.lst acc) /\ acc.length < sizeLine /\ ∃ m',m' < m /\ W (i + 1) m' (acc ++ [y]) (upd H5 Dl (.lst (acc ++ [y]))) else ∃ m',m' < m /\ W (i + 1) m' acc H2))
theorem comp_core {use:Option (Value -> Sem Unit)} {Qv:Value -> Shared -> Prop} {Fin:Addr -> List V -> Hp -> Prop} (hc:X.calm = true) (S:CScope X scope tN capN caps) (I:L2.Inv X pins σ H s) (hi:PI X tg iter wi)
    (h:wi σ H (CompGoal X scope tg tN capN caps elt ifs σ Fin))
    (hu:∀ (Dl C:Addr) (acc:List V) (H':Hp) (s':Shared),L2.Inv X pins σ H' s' -> FpOk X pins H' C -> H' Dl = some (.lst acc) -> Fin Dl acc H' -> (∃ m,s'.heap.Ns C m) -> compPost (model X.prog X.w) X.A X.xe use Qv (.ref Dl) C (.ok .next) s')
    (hs:∀ x,foldedSetIterable iter X.env x = pure x := by intro _; rfl) :
    wpAny (model X.prog X.w) X.A (comprehension (.ListComp elt [⟨tg,iter,ifs,0⟩] scope pos) scope X.env (firstIterPos [⟨tg,iter,ifs,0⟩] pos) (newList []) false (eval iter X.env) use) Qv X.xe s := by
  obtain ⟨cl,ecl,hcl,hhas⟩ := closureFor_of (scope := scope) (env := X.env) fun y hy hf => I.ok.has y.1 (S.free y hy hf)
  refine wpAny_comprehension_free rfl hs ecl S.kind S.names (thn (hi pins s σ H _ I h) fun v s1 h1 => thn h1 fun itv s2 h2 => ?_)
  obtain ⟨it,fp,tn,J,H2,rfl,I2,T,st2,f2,goal⟩ := h2
  refine wpAny_newObj_type (wpAny_newFunctionEnv S.ncell (by intro y hy; simp at hy) (fun h₁ hns₁ hsb₁ => ?_) S.kind)
  dsimp only at hns₁ hsb₁ ⊢
  have hD:H2 s2.heap.objs.size = none := I2.hok.fresh (Nat.le_refl _)
  have I3 : L2.Inv X pins σ (upd H2 s2.heap.objs.size (.lst [])) { s2 with heap := s2.heap.push { cls := .type "list", dict := none, data := .seq ([] : List Value).toArray } } :=
    I2.laid (t' := s2.toks) (fun b u e => Heap.get?_push_of_some _ e) (Nat.le_refl _) ⟨Nat.zero_le _,[],0,.nil,Heap.get?_push_size _ rfl⟩
  generalize hs3 : ({ s2 with heap := s2.heap.push { cls := .type "list", dict := none, data := .seq ([] : List Value).toArray } } : Shared) = s3 at I3
  have e3 : s2.heap.push { cls := .type "list", dict := none, data := .seq ([] : List Value).toArray } = s3.heap := by rw [<- hs3]
  rw [e3] at hns₁ hsb₁ ⊢
  have kp:∀ b o,s3.heap.get? b = some o -> h₁.get? b = some o := fun b o e => hsb₁.extBut b o (Nat.ne_of_lt (Heap.lt_size e)) (Heap.get?_push_of_some _ e)
  have k23:∀ b o,s2.heap.get? b = some o -> s3.heap.get? b = some o := fun b o e => by rw [<- e3]; exact Heap.get?_push_of_some _ e
  have hex:∀ b ∈ fp,FpOk X pins (upd H2 s2.heap.objs.size (.lst [])) b /\ b < s3.heap.objs.size := fun b hb => by
    obtain ⟨o,ho,_⟩ := T.obj 0 _ st2 b hb
    have hlt:b < s2.heap.objs.size := Heap.lt_size ho
    refine ⟨⟨?_,(f2 b hb).2⟩,Heap.lt_size (k23 b o ho)⟩
    rw [upd_ne (Nat.ne_of_lt hlt)]
    exact (f2 b hb).1
  have es:({ s2 with heap := h₁,toks := s2.toks + ([] : List (Str × Value)).length } : Shared) = { s3 with heap := h₁,toks := s2.toks + ([] : List (Str × Value)).length } := by rw [<- hs3]
  have I4:L2.Inv (compX X scope (tN ++ capN) cl s3.heap.objs.size s3 (upd H2 s2.heap.objs.size (.lst [])) fp) [] (List.replicate tN.length none ++ capS σ caps) (upd H2 s2.heap.objs.size (.lst [])) { s3 with heap := h₁,toks := s2.toks + ([] : List (Str × Value)).length } :=
    comp_inv I3 S.kind S.ncell hcl hhas (Nat.le_refl _) hex S.cap kp hns₁
  obtain ⟨gt,tt,te,W,hg,ht,he,w0,turn⟩ := goal s2.heap.objs.size hD cl s3.heap.objs.size s3 fp
  have st4:tn 0 h₁ := T.keep 0 _ _ st2 fun b hb o e => kp b o (k23 b o e)
  have f4:∀ b ∈ fp,FpOk (compX X scope (tN ++ capN) cl s3.heap.objs.size s3 (upd H2 s2.heap.objs.size (.lst [])) fp) [] (upd H2 s2.heap.objs.size (.lst [])) b := fun b hb => by
    obtain ⟨f,hlt⟩ := hex b hb
    refine ⟨f.1,Nat.ne_of_lt hlt,fun hfs => ?_,.inl hb,fun y c e => f.2.2.2.2.1 y c (hcl y c e),fun p hp => absurd (show p ∈ ([] : List (Addr × Obj)) from hp) (by simp)⟩
    rcases List.mem_cons.mp (I3.stkSub b hfs) with z | z
    · exact f.2.1 z
    · exact f.2.2.1 z
  have loop:codeAny (model X.prog X.w) X.A (.compLoop (.ListComp elt [⟨tg,iter,ifs,0⟩] scope pos) 0 (.ref it) (.ref s2.heap.objs.size) (compEnvC scope cl s3.heap.objs.size X.env)) (compPost (model X.prog X.w) X.A X.xe use Qv (.ref s2.heap.objs.size) s3.heap.objs.size)
      { s3 with heap := h₁,toks := s2.toks + ([] : List (Str × Value)).length } := by
    refine comp_loop rfl T hc I4 (by show (tN ++ capN).length = _; simp [capS,S.cap.len]) st4 f4 hg ht he W (Fin s2.heap.objs.size) w0 turn _ fun σ' H' acc s' I' hD' fin => ?_
    obtain ⟨Io,fo⟩ := comp_back I3 rfl (Nat.le_refl _) hex I'
    obtain ⟨m',hn',_⟩ := I'.loc
    exact hu _ _ acc H' s' Io fo hD' fin ⟨m',hn'⟩
  rw [es]
  exact codeAny_compStart_list loop (T.self _ 0 _ _ _ st4 loop)
theorem pe_compS {Q:VK} (hc:X.calm = true) (S:CScope X scope tN capN caps) (I:L2.Inv X pins σ H s) (hi:PI X tg iter wi) (h:wi σ H (CompGoal X scope tg tN capN caps elt ifs σ fun Dl _ H' => Q (.ref Dl) H'))
    (hs:∀ x,foldedSetIterable iter X.env x = pure x := by intro _; rfl) : wpAny (model X.prog X.w) X.A (eval (.ListComp elt [⟨tg,iter,ifs,0⟩] scope pos) X.env) (EP X pins σ Q) X.xe s := by
  rw [eval_ListComp]
  refine comp_core (use := none) hc S I hi h (fun Dl C acc H' s' Io fo hD fin hn => ?_) hs
  obtain ⟨m,hn⟩ := hn
  exact ⟨m,hn,fun h' sb => ⟨.ref Dl,H',inv_but Io fo sb,rfl,fin⟩⟩
theorem ps_compS {D:Ends} {i:Nat} {y:Str} {py spos:Pos} (hc:X.calm = true) (S:CScope X scope tN capN caps) (hN:X.N.Nodup) (hi':X.N[i]? = some y) (hy:X.env.scope.names.lookup y = some .local)
    (hsw:swapsWith (.ListComp elt [⟨tg,iter,ifs,0⟩] scope pos) (some (.Name y py)) spos.line X.env = pure true) (I:L2.Inv X pins σ H s) (hi:PI X tg iter wi)
    (h:wi σ H (CompGoal X scope tg tN capN caps elt ifs σ fun Dl _ H' => D.nx (σ.set i (some (.ref Dl))) H')) (hs:∀ x,foldedSetIterable iter X.env x = pure x := by intro _; rfl) :
    wpAny (model X.prog X.w) X.A (exec (.Assign [.Name y py] (.ListComp elt [⟨tg,iter,ifs,0⟩] scope pos) spos) X.env) (SP X pins D) X.xe s := by
  rw [exec_Assign_Name_used _ _ _ _ hsw]
  refine wpAny_bind (wpAny_standAt (wpAny_bind ?_))
  show wpAny _ X.A (do let _ <- comprehension (.ListComp elt [⟨tg,iter,ifs,0⟩] scope pos) scope X.env _ (newList []) false (eval iter X.env) (some (assign (.Name y py) X.env))) _ _ s
  refine wpAny_bind (wpAny_mono (comp_core (use := some (assign (.Name y py) X.env)) (Qv := fun _ s' => SP X pins D .next s') hc S I hi h (fun Dl C acc H' s' Io fo hD fin hn => ?_) hs) (fun _ s' hq => wpAny_pure (wpAny_pure hq)) fun _ _ e => e)
  obtain ⟨m,hn⟩ := hn
  show wpAny _ X.A (assign (.Name y py) X.env (.ref Dl)) _ _ _
  refine wpAny_assign_Name (store_ok2 (v := .ref Dl) Io hN hi' (.inl hy) rfl (fun s'' I'' ⟨a,sb,ha⟩ => ?_) (.inr hy))
  have nca:C ≠ a := by
    rcases ha with z | z
    · rw [z]; exact fo.2.1
    · exact Ne.symm (fo.2.2.2.2.1 y a z)
  refine ⟨m,hn.sameBut sb nca,fun h' sb' => ?_⟩
  exact ⟨_,H',inv_but I'' fo sb',fin⟩
end
end L3
namespace L3
open PySem PySem.Spec PyProof.Rows L2
def Res.noX {α:Type} : Res α -> Res α
  | .exc _ => .stuck
  | r => r
def capE (env:En) (j:Nat) : Option Sl := match env[j]? with
  | some (some (.val d fr)) => some (.val d fr)
  | some (some (.own ds fr)) => some (.val (.lst ds) fr)
  | some (some (.tre d)) => some (.val d true)
  | some (some (.pin d)) => some (.val d true)
  | some (some (.dis d)) => some (.val d true)
  | _ => none
def envB (env:En) (n:Nat) (caps:List Nat) : En := List.replicate n none ++ caps.map (capE env)
def compD (mk:D -> Option En) (test:En -> Res Bool) (elt:En -> Res R) : List D -> Res (List R)
  | [] => .ok []
  | x :: xs => match mk x with
    | none => .stuck
    | some e => (test e).bind fun b => if b then (elt e).bind fun r => (compD mk test elt xs).bind fun rs => .ok (r :: rs) else compD mk test elt xs
def vComp (n:Nat) (caps:List Nat) (src:En -> Res Src) (asg:D -> Bool -> En -> Option En) (test:En -> Res Bool) (elt:En -> Res R) : En -> Res R := fun env => (src env).bind fun s => if s.xs.length <= lim then
  (compD (fun d => asg d s.fr (envB env n caps)) test elt s.xs).noX.bind fun rs => .ok (mkL (rs.map R.d) (rfrs rs) (s.al ++ caps.filter (isOwn env))) else .stuck
def PTsD (X:Cx) (E:XK) (ifs:List Expr) (f:En -> Res Bool) : Prop := ∃ t,PTs X ifs t /\ SndT X.mg E t f
section
variable {X:Cx} {E:XK}
theorem ptsd_nil:PTsD X E [] (fun _ => .ok true) := ⟨_,pts_nil,fun g M ρ env σ H Q rep p => p M H (Ext.refl _ _) rep⟩
end
section
variable {g:Gd} {M M1:Addr -> Prop} {ρ:Pr} {env:En} {σ:St} {H H1:Hp}
theorem rep_I {n:Nat} {caps:List Nat} {M':Addr -> Prop} {o:St} (rep:Rep g M1 ρ env σ H1) (s:Same H1 H) (ho:o.length = n) (hM:∀ a,(M1 a \/ ∃ i,i ∈ caps /\ ρ i a) -> M' a) (hf:∀ a,M' a -> H a ≠ none) (hi:∀ a,M' a -> g.H₀ a = none \/ g.Ma a) (hfl:∀ a,M' a -> g.H₀ a = none -> MuZ g H a) :
    Rep g M' (fun _ _ => False) (envB env n caps) (o ++ capS σ caps) H where
  same := rep.same.trans s
  froz := hf
  inn := hi
  fl := hfl
  slot := fun i sl e => by
    by_cases hlt:i < n
    · unfold envB at e
      rw [List.getElem?_append_left (by simpa using hlt),List.getElem?_replicate,if_pos hlt] at e
      cases e
    · obtain ⟨k, rfl⟩ : ∃ k, i = n + k := ⟨i - n, by omega⟩
      have e:(caps.map (capE env))[k]? = some (some sl) := by
        unfold envB at e
        rwa [List.getElem?_append_right (by simp),List.length_replicate,Nat.add_sub_cancel_left] at e
      rw [List.getElem?_map] at e
      cases q:caps[k]? with
      | none => rw [q] at e; cases e
      | some j =>
        rw [q] at e
        have e:capE env j = some sl := by simpa using e
        have hj:j ∈ caps := List.mem_of_getElem? q
        unfold capE at e
        cases q2:env[j]? with
        | none => rw [q2] at e; cases e
        | some o =>
          cases o with
          | none => rw [q2] at e; cases e
          | some sl0 =>
            obtain ⟨v,ev,k2⟩ := rep.slot j sl0 q2
            have el:(o ++ capS σ caps)[n + k]? = some (some v) := by
              rw [List.getElem?_append_right (by omega),ho,Nat.add_sub_cancel_left]
              unfold capS
              rw [List.getElem?_map,q]
              simp [ev]
            rw [q2] at e
            cases sl0 with
            | val d' fr' =>
              cases e
              exact ⟨v,el,Is.mono (fun a o q _ => s a o q) (fun a _ _ z => ⟨hM a (.inl z.1),z.2⟩) k2⟩
            | own ds' fr' =>
              cases e
              obtain ⟨a,vs,rfl,h1,h2,h4⟩ := k2
              have ha := (h2 a).mpr rfl
              exact ⟨_,el,a,vs,rfl,.inl ⟨s _ _ h1,hM a (.inr ⟨j,hj,ha⟩),fun _ => (rep.priv j a ha).2.1⟩,IsAll.mono (fun a o q _ => s a o q) (fun a _ _ z => ⟨hM a (.inl z.1),z.2⟩) h4⟩
            | tre d' =>
              cases e
              exact ⟨v,el,Is.mono (fun a o q _ => s a o q) (fun a _ _ z => ⟨hM a (.inr ⟨j,hj,z⟩),fun _ => (rep.priv j a z).2.1⟩) k2⟩
            | mes d' => cases e
            | pin d' =>
              cases e
              exact ⟨v,el,Is.mono (fun a o q _ => s a o q) (fun a _ _ z => ⟨hM a (.inr ⟨j,hj,z⟩),fun _ => (rep.priv j a z).2.1⟩) k2.1⟩
            | dis d' =>
              cases e
              exact ⟨v,el,Is.mono (fun a o q _ => s a o q) (fun a _ _ z => ⟨hM a (.inr ⟨j,hj,z⟩),fun _ => (rep.priv j a z).2.1⟩) k2.1⟩
  priv := fun _ _ z => z.elim
  apart := fun _ _ _ z => z.elim
  ow := fun _ _ z => z.elim
  len := by simp [envB,capS,ho]
  zz := fun a z e => rep.zz a z (s.free e)
end
def tComp (X:Cx) (scope:Scope) (tg:Expr) (tN:List Str) (capN:List Str) (caps:List Nat) (elt:Expr) (ifs:List Expr) (wi:TI) : TE := fun σ H Q => wi σ H (CompGoal X scope tg tN capN caps elt ifs σ fun Dl _ H' => Q (.ref Dl) H')
section
variable {X:Cx} {E:XK} {scope:Scope} {tg:Expr} {tN:List Str} {capN:List Str} {caps:List Nat} {ix:List Nat} {asg:D -> Bool -> En -> Option En} {elt iter:Expr} {pos:Pos} {ifs:List Expr} {wi:TI} {src:En -> Res Src} {ft:En -> Res Bool} {fe:En -> Res R}
theorem comp_goal {g:Gd} {M1:Addr -> Prop} {ρ:Pr} {env:En} {σ:St} {H1:Hp} {Q:VK} {J:It} {s:Src} {full:List R} (hix:∀ j ∈ ix,j < tN.length) (hg:∀ cl C s3 H3 fp,PGD (compX X scope (tN ++ capN) cl C s3 H3 fp) ix tg asg) (ht:∀ cl C s3 H3 fp,PTsD (compX X scope (tN ++ capN) cl C s3 H3 fp) E0 ifs ft) (he:∀ cl C s3 H3 fp,PD (compX X scope (tN ++ capN) cl C s3 H3 fp) E0 elt fe) (rep1:Rep g M1 ρ env σ H1) (wk:Walk J (vmsk g M1 s.fr ρ s.al) H1 s.xs) (hlim:s.xs.length <= lim) (qc:compD (fun d => asg d s.fr (envB env tN.length caps)) ft fe s.xs = .ok full)
    (p:PostE X.mg E g M1 ρ env σ H1 Q (.ok (mkL (full.map R.d) (rfrs full) (s.al ++ caps.filter (isOwn env))))) : CompGoal X scope tg tN capN caps elt ifs σ (fun Dl _ H' => Q (.ref Dl) H') J H1 := by
  intro Dl hDl cl C s3 fp
  obtain ⟨gt,pg,sg⟩ := hg cl C s3 (upd H1 Dl (.lst [])) fp
  obtain ⟨tt,pt,st⟩ := ht cl C s3 (upd H1 Dl (.lst [])) fp
  obtain ⟨te,pe,se⟩ := he cl C s3 (upd H1 Dl (.lst [])) fp
  obtain ⟨d0,dm,dow⟩ := rep1.free hDl
  refine ⟨gt,tt,te,fun i m acc H => m = s.xs.length - i /\ i <= s.xs.length /\ ∃ (M':Addr -> Prop) (rs rest:List R),Same H1 H /\ H Dl = some (.lst acc) /\ (∀ a,(M1 a \/ ∃ j,j ∈ s.al ++ caps /\ ρ j a) -> M' a) /\
    (∀ a,M' a -> (M1 a \/ ∃ j,j ∈ s.al ++ caps /\ ρ j a) \/ H1 a = none) /\ ¬ M' Dl /\ (∀ a,M' a -> H a ≠ none) /\ (∀ a,M' a -> g.H₀ a = none -> MuZ g H a) /\ rs.length <= i /\ IsAll H (msk g M' (rfrs rs)) (rs.map R.d) acc /\ compD (fun d => asg d s.fr (envB env tN.length caps)) ft fe (s.xs.drop i) = .ok rest /\ full = rs ++ rest,
    pg,pt,pe,⟨_,rfl,Nat.zero_le _,(fun a => M1 a \/ ∃ j,j ∈ s.al ++ caps /\ ρ j a),[],full,same_upd hDl,upd_same,fun _ z => z,fun _ z => .inl z,?_,?_,?_,Nat.le_refl _,rfl,qc,rfl⟩,?_⟩
  · rintro (z | ⟨j,_,z⟩)
    · exact dm z
    · exact dow j z
  · rintro a (z | ⟨j,_,z⟩) hn
    · exact rep1.froz a z ((same_upd hDl).free hn)
    · obtain ⟨_,_,uo,hz,_⟩ := rep1.priv j a z
      rw [(same_upd hDl) a _ hz] at hn; cases hn
  · rintro a (z | ⟨j,_,z⟩) h0
    · exact (rep1.fl a z h0).same fun o e => same_upd hDl _ _ e
    · exact .inl ((rep1.priv j a z).2.2.same fun o e => same_upd hDl _ _ e)
  · rintro i m acc H2 ⟨rfl,hle,M',rs,rest,sm,hD2,hMi,hMo,nD,frz2,fl2,hrs,isA,qr,efull⟩
    refine ⟨hD2,?_⟩
    have kp:∀ a o,H1 a = some o -> (vmsk g M1 s.fr ρ s.al a \/ fixd o) -> H2 a = some o := fun a o e _ => sm a o e
    have inn2:∀ {M'':Addr -> Prop} {a:Addr},(M1 a \/ ∃ j,j ∈ s.al ++ caps /\ ρ j a) \/ H1 a = none -> g.H₀ a = none \/ g.Ma a := fun {M'' a} z => by
      rcases z with (z | ⟨j,_,z⟩) | z
      · exact rep1.inn a z
      · exact .inl (rep1.priv j _ z).2.1
      · exact .inl (rep1.same.free z)
    by_cases hlt:i < s.xs.length
    · have ed:s.xs[i]? = some s.xs[i] := by simp [hlt]
      obtain ⟨go,yl⟩ := wk.go H2 i _ kp ed
      refine .inr ⟨go,fun xv H3 o y lo => ?_⟩
      obtain ⟨s23,isx⟩ := yl xv H3 y
      have edrop:s.xs.drop i = s.xs[i] :: s.xs.drop (i + 1) := List.drop_eq_getElem_cons hlt
      rw [edrop] at qr
      unfold compD at qr
      have isx':Is H3 (msk g M' s.fr) s.xs[i] xv := isx.weak fun a z => by
        rcases z with z | ⟨j,hj,z⟩
        · exact ⟨hMi a (.inl z.1),z.2⟩
        · exact ⟨hMi a (.inr ⟨j,by simp [hj],z⟩),fun _ => (rep1.priv j _ z).2.1⟩
      have repI:Rep g M' (fun _ _ => False) (envB env tN.length caps) (o ++ capS σ caps) H3 := rep_I rep1 (sm.trans s23) lo (fun a z => hMi a (z.imp id fun ⟨j,hj,w⟩ => ⟨j,by simp [hj],w⟩)) (fun a z hn => frz2 a z (s23.free hn)) (fun a z => inn2 (M'' := M') (hMo a z)) (fun a z h0 => (fl2 a z h0).same fun o e => s23 _ _ e)
      cases qa:asg s.xs[i] s.fr (envB env tN.length caps) with
      | none => simp only [qa] at qr; cases qr
      | some envT =>
      simp only [qa] at qr
      refine sg g M' _ _ envT _ H3 _ s.fr xv _ repI isx' qa fun σ2 ρ2 repT shp nρ => ⟨fun j hj => shp j fun z => absurd (hix j z) (by omega),?_⟩
      refine st g M' ρ2 _ _ H3 _ repT ?_
      cases qt:ft envT with
      | stuck => rw [qt] at qr; cases qr
      | exc c => rw [qt] at qr; cases qr
      | ok b =>
        rw [qt] at qr
        intro M4 H4 e4 rep4
        cases b with
        | false =>
          refine iteF ⟨s.xs.length - (i + 1),by omega,rfl,hlt,M',rs,rest,(sm.trans s23).trans e4.h,e4.h _ _ (s23 _ _ hD2),hMi,hMo,nD,fun a z hn => frz2 a z (s23.free (e4.h.free hn)),fun a z h0 => (fl2 a z h0).same fun o e => e4.h _ _ (s23 _ _ e),by omega,?_,by simpa using qr,efull⟩
          exact IsAll.same e4.h (IsAll.same s23 isA)
        | true =>
          refine iteT ?_
          simp only [Res.bind_ok,if_true] at qr
          refine se g M4 ρ2 _ _ H4 _ rep4 ?_
          cases qe:fe envT with
          | stuck => rw [qe] at qr; cases qr
          | exc c => rw [qe] at qr; cases qr
          | ok r =>
            rw [qe] at qr
            simp only [Res.bind_ok] at qr
            cases qd:compD (fun d => asg d s.fr (envB env tN.length caps)) ft fe (s.xs.drop (i + 1)) with
            | stuck => rw [qd] at qr; cases qr
            | exc c => rw [qd] at qr; cases qr
            | ok rest' =>
              rw [qd] at qr
              have qr:r :: rest' = rest := by simpa using qr
              intro yv M5 H5 e5 rep5 ro
              obtain ⟨M6,e6,m56,rep6,is6⟩ := ro.is rep5 e5 rep4.same
              have D3:H3 Dl = some (.lst acc) := s23 _ _ hD2
              have D4:H4 Dl = some (.lst acc) := e4.h _ _ D3
              have D5:H5 Dl = some (.lst acc) := e5.h _ _ D4
              have nD4:¬ M4 Dl := fun z => (e4.n Dl z).elim nD fun w => by rw [D3] at w; cases w
              have nD6:¬ M6 Dl := fun z => (e6.n Dl z).elim nD4 fun w => by rw [D4] at w; cases w
              have M46:∀ a,M4 a -> M6 a := e6.m
              have up:∀ a o,H5 a = some o -> a ≠ Dl -> upd H5 Dl (.lst (acc ++ [yv])) a = some o := fun a o e n => by rw [upd_ne n]; exact e
              have kp5:∀ (fr:Bool) a o,H5 a = some o -> (msk g M6 fr a \/ fixd o) -> upd H5 Dl (.lst (acc ++ [yv])) a = some o := fun fr a o e z => up a o e fun w => by
                subst w
                rcases z with z | z
                · exact nD6 z.1
                · rw [D5] at e; cases e; exact z
              refine ⟨D5,?_,s.xs.length - (i + 1),by omega,rfl,hlt,M6,rs ++ [r],rest',?_,upd_same,fun a z => M46 a (e4.m a (hMi a z)),fun a z => ?_,nD6,fun a z => ?_,fun a z h0 => ?_,by simp; omega,?_,qd,by rw [efull,<- qr]; simp⟩
              · have:acc.length = rs.length := by rw [isA.length,List.length_map]
                exact lim_lt (by omega)
              · intro b o e
                exact up b o (e5.h _ _ (e4.h _ _ (s23 _ _ (sm _ _ e)))) (ne_of_none e hDl)
              · rcases e6.n a z with z | z
                · rcases e4.n a z with z | z
                  · exact hMo a z
                  · exact .inr (sm.free (s23.free z))
                · exact .inr (sm.free (s23.free (e4.h.free z)))
              · by_cases hw:a = Dl
                · rw [hw,upd_same]; simp
                · rw [upd_ne hw]; exact rep6.froz a z
              · have hw:a ≠ Dl := fun e => nD6 (e ▸ z)
                exact (rep6.fl a z h0).same fun o e => by rw [upd_ne hw]; exact e
              · rw [List.map_append]
                refine IsAll.append ?_ ⟨yv,[],rfl,?_,rfl⟩
                · have i5:IsAll H5 (msk g M' (rfrs rs)) (rs.map R.d) acc := ((isA.same s23).same e4.h).same e5.h
                  refine (i5.weak fun a z => (⟨M46 a (e4.m a z.1),fun e => z.2 (by simp [rfrs] at e ⊢; exact e.1)⟩ : msk g M6 (rfrs (rs ++ [r])) a)).mono (kp5 _) fun _ _ _ z => z
                · refine (is6.weak fun a z => ?_:Is H5 (msk g M6 (rfrs (rs ++ [r]))) r.d yv).mono (kp5 _) fun _ _ _ z => z
                  rcases z with z | ⟨j,_,z⟩
                  · exact ⟨z.1,fun e => z.2 (by simp [rfrs] at e; exact e.2)⟩
                  · exact (nρ _ _ z).elim
    · have ei:i = s.xs.length := by omega
      subst ei
      refine .inl ⟨wk.stop H2 kp,?_⟩
      rw [List.drop_length] at qr
      unfold compD at qr
      cases qr
      rw [List.append_nil] at efull
      subst efull
      have RM:Rep g (fun a => M1 a \/ (nl H1 H2 a /\ M' a)) ρ env σ H2 := rep1.came sm M'
      have XM:Ext M1 H1 (fun a => M1 a \/ (nl H1 H2 a /\ M' a)) H2 := ⟨fun _ => .inl,sm,fun _ z => z.imp id (·.1.1)⟩
      have nDl:¬ (M1 Dl \/ (nl H1 H2 Dl /\ M' Dl)) := fun z => z.elim dm fun z => nD z.2
      have nwD:∀ b,V.ref Dl = .ref b -> H1 b = none := fun b e => by cases e; exact hDl
      unfold mkL at p
      by_cases hfl:D.flats (full.map R.d) = true
      · rw [if_pos hfl] at p
        exact p _ _ H2 XM RM ⟨Dl,acc,rfl,hD2,nDl,hDl,dow,IsAll.flat hfl isA⟩
      · rw [if_neg hfl] at p
        by_cases hal:(s.al ++ caps.filter (isOwn env)).isEmpty = true
        · rw [if_pos hal] at p
          refine p _ _ H2 XM RM ⟨Dl,acc,rfl,hD2,nDl,hDl,dow,isA.weak fun a z => ⟨?_,z.2⟩⟩
          rcases hMo a z.1 with (w | ⟨j,hj,w⟩) | w
          · exact .inl w
          · exfalso
            have he:s.al ++ caps.filter (isOwn env) = [] := by simpa using hal
            rcases List.mem_append.mp hj with hj | hj
            · have:j ∈ s.al ++ caps.filter (isOwn env) := List.mem_append_left _ hj
              rw [he] at this; simp at this
            · have:j ∈ s.al ++ caps.filter (isOwn env) := List.mem_append_right _ (List.mem_filter.mpr ⟨hj,rep1.ow j a w⟩)
              rw [he] at this; simp at this
          · exact .inr ⟨⟨w,(fl2 a z.1 (rep1.same.free w)).elim id fun q => (rep1.zz a q.1 w).elim⟩,z.1⟩
        · rw [if_neg hal] at p
          refine p _ (fun a => (M1 a \/ (nl H1 H2 a /\ M' a)) \/ a = Dl) H2 ⟨fun _ z => .inl (.inl z),sm,fun a z => z.elim (XM.n a) fun e => .inr (e ▸ hDl)⟩ (RM.more hD2 d0 dow) ⟨Dl,acc,rfl,.inl ⟨hD2,.inl ⟨.inr rfl,fun _ => d0⟩⟩,isA.weak fun a z => ?_⟩
          rcases hMo a z.1 with (w | ⟨j,hj,w⟩) | w
          · exact .inl ⟨.inl (.inl w),z.2⟩
          · refine .inr ⟨j,?_,w⟩
            rcases List.mem_append.mp hj with hj | hj
            · exact List.mem_append_left _ hj
            · exact List.mem_append_right _ (List.mem_filter.mpr ⟨hj,rep1.ow j a w⟩)
          · exact .inl ⟨.inl (.inr ⟨⟨w,(fl2 a z.1 (rep1.same.free w)).elim id fun q => (rep1.zz a q.1 w).elim⟩,z.1⟩),z.2⟩
theorem snd_comp (si:SndI X.mg E wi src) (hix:∀ j ∈ ix,j < tN.length) (hg:∀ cl C s3 H3 fp,PGD (compX X scope (tN ++ capN) cl C s3 H3 fp) ix tg asg) (ht:∀ cl C s3 H3 fp,PTsD (compX X scope (tN ++ capN) cl C s3 H3 fp) E0 ifs ft) (he:∀ cl C s3 H3 fp,PD (compX X scope (tN ++ capN) cl C s3 H3 fp) E0 elt fe) :
    Snd X.mg E (tComp X scope tg tN capN caps elt ifs wi) (vComp tN.length caps src asg ft fe) := by
  intro g M ρ env σ H Q rep p
  refine si g M ρ env σ H _ rep ?_
  unfold vComp at p
  cases q:src env with
  | stuck => rw [q] at p; exact p
  | exc c => rw [q] at p; exact p
  | ok s =>
    rw [q] at p
    simp only [Res.bind_ok] at p
    intro J M1 H1 e1 rep1 wk Dl hDl cl C s3 fp
    by_cases hlim:s.xs.length <= lim
    · rw [if_pos hlim] at p
      cases qc:compD (fun d => asg d s.fr (envB env tN.length caps)) ft fe s.xs with
      | stuck => rw [qc] at p; exact p.elim
      | exc c => rw [qc] at p; exact p.elim
      | ok full =>
        rw [qc] at p
        have p:PostE X.mg E g M1 ρ env σ H1 Q (.ok (mkL (full.map R.d) (rfrs full) (s.al ++ caps.filter (isOwn env)))) := PostE.ext e1 p
        exact comp_goal hix hg ht he rep1 wk hlim qc p Dl hDl cl C s3 fp
    · rw [if_neg hlim] at p; exact p.elim
theorem pd_comp (hc:X.calm = true) (S:CScope X scope tN capN caps) (hi:PID X E tg iter src) (hix:∀ j ∈ ix,j < tN.length) (hg:∀ cl C s3 H3 fp,PGD (compX X scope (tN ++ capN) cl C s3 H3 fp) ix tg asg) (ht:∀ cl C s3 H3 fp,PTsD (compX X scope (tN ++ capN) cl C s3 H3 fp) E0 ifs ft) (he:∀ cl C s3 H3 fp,PD (compX X scope (tN ++ capN) cl C s3 H3 fp) E0 elt fe)
    (hs:∀ x,foldedSetIterable iter X.env x = pure x := by intro _; rfl) : PD X E (.ListComp elt [⟨tg,iter,ifs,0⟩] scope pos) (vComp tN.length caps src asg ft fe) := by
  obtain ⟨wi,p1,s1⟩ := hi
  exact ⟨tComp X scope tg tN capN caps elt ifs wi,fun pins s σ H Q I h => pe_compS hc S I p1 h hs,snd_comp s1 hix hg ht he⟩
theorem psd_comp {i:Nat} {y:Str} {py spos:Pos} (hc:X.calm = true) (S:CScope X scope tN capN caps) (hN:X.N.Nodup) (hi':X.N[i]? = some y) (hy:X.env.scope.names.lookup y = some .local)
    (hi:PID X E tg iter src) (hix:∀ j ∈ ix,j < tN.length) (hg:∀ cl C s3 H3 fp,PGD (compX X scope (tN ++ capN) cl C s3 H3 fp) ix tg asg) (ht:∀ cl C s3 H3 fp,PTsD (compX X scope (tN ++ capN) cl C s3 H3 fp) E0 ifs ft) (he:∀ cl C s3 H3 fp,PD (compX X scope (tN ++ capN) cl C s3 H3 fp) E0 elt fe)
    (hsw:swapsWith (.ListComp elt [⟨tg,iter,ifs,0⟩] scope pos) (some (.Name y py)) spos.line X.env = pure true := by rfl) (hs:∀ x,foldedSetIterable iter X.env x = pure x := by intro _; rfl) :
    PSD X E (.Assign [.Name y py] (.ListComp elt [⟨tg,iter,ifs,0⟩] scope pos) spos) (fSet i (vComp tN.length caps src asg ft fe)) := by
  obtain ⟨wi,p1,s1⟩ := hi
  exact ⟨tAsg (tComp X scope tg tN capN caps elt ifs wi) (gName i),fun pins s σ H D I h => ps_compS hc S hN hi' hy hsw I p1 h hs,snd_set (snd_comp s1 hix hg ht he)⟩
end
end L3
namespace L3
open PySem PySem.Spec PyProof.Rows L2
def startE (N:List Str) (ds:List D) : En := ds.map (fun d => some (.val d false)) ++ List.replicate (N.length - ds.length) none
def retOf:Res Fl -> Res R
  | .ok (.nx _) => .ok (.val .non true [])
  | .ok (.rt r) => .ok r
  | .ok _ => .stuck
  | .exc c => .exc c
  | .stuck => .stuck
def runF (N:List Str) (FB:En -> Res Fl) (ds:List D) : Res R := retOf (FB (startE N ds))
theorem rep_start {H:Hp} {Ma:Addr -> Prop} {ds:List D} {vs:List V} {N:List Str} (is:IsAll H Ma ds vs) : Rep (mkG H Ma) (fun a => Ma a /\ H a ≠ none) (fun _ _ => False) (startE N ds) (L2.start N vs) H where
  same := Same.refl H
  froz := fun a z => z.2
  inn := fun a z => .inr z.1
  fl := fun a z h => absurd h z.2
  slot := fun i sl e => by
    have hl := is.length
    unfold startE at e
    by_cases hi:i < ds.length
    · rw [List.getElem?_append_left (by simpa using hi),List.getElem?_map] at e
      obtain ⟨v,ev,iv⟩ := is.get (i := i) (d := ds[i]) (by simp [hi])
      have e1:ds[i]? = some ds[i] := by simp [hi]
      rw [e1] at e
      cases e
      refine ⟨v,?_,Is.mono (fun _ _ q _ => q) (fun a o q z => ⟨⟨z,by rw [q]; simp⟩,fun z => by cases z⟩) iv⟩
      unfold L2.start
      rw [List.getElem?_append_left (by simp; omega),List.getElem?_map,ev]; rfl
    · rw [List.getElem?_append_right (by simpa using hi),List.getElem?_replicate] at e
      split at e <;> cases e
  priv := fun _ _ z => z.elim
  apart := fun _ _ _ z => z.elim
  ow := fun _ _ z => z.elim
  len := by
    have hl := is.length
    unfold startE L2.start
    simp [hl]
  zz := fun _ z => z.elim
section
variable {P:Program} {w:World} {K:PySem.W.Frag} {mg:Str -> Option Value} {base:Heap}
theorem FnOk.func {CX:CXT} {k:Nat} {f:Addr} {fd:FuncData} {ps:List Str} {n:Nat} {F G:List D -> Res R} (h:FnOk P w K mg base CX k f fd ps (spD mg n F)) (e:∀ ds,ds.length = n -> G ds ≠ .stuck -> F ds = G ds) : FnOk P w K mg base CX k f fd ps (spD mg n G) :=
  h.imp fun vs H Q E ⟨hl,ds,Ma,is,post⟩ => ⟨hl,ds,Ma,is,by
    rw [e ds (by rw [<- is.length]; exact hl) (fun z => by rw [z] at post; exact post)]
    exact post⟩
end
section
variable {X:Cx} {E:XK}
theorem sl_tupW:SlR X (fun x lo hi H Q => ∃ a xs,x = .ref a /\ SqT X.K H a xs /\ (HT.sIx xs.length 0 lo = 0 /\ HT.sIx xs.length xs.length hi = xs.length) /\ Q x H) := by
  intro pins s σ H x v vl vu lo hi sl Q I rx hs pl pu h
  obtain ⟨a,xs,rfl,hx,hw,q⟩ := h
  cases rx
  obtain ⟨its,r,ht,hz⟩ := I.tuple hx
  have hlen:its.toArray.size = xs.length := by rw [List.size_toArray]; exact r.length.symm
  refine ⟨"tuple", _, PyProof.Rows.slot_tuple_getitem.lookup, ht.typeIs, ?_⟩
  obtain ⟨os,hos,hcs,hds⟩ := id hs
  have hTs : s.TypeIs (.ref sl) "slice" := ⟨os, hos, hcs⟩
  unfold getItem
  try with_reducible refine wpAny_holding ?_
  first | refine wpAny_bind (wpAny_pure ?_) | skip
  refine wpAny_bind (wpAny_sequenceKey ht.typeIs (by decide) ?_)
  refine wpAny_bind (wpAny_callSpecial?_slot (name := Str.ofString "__getitem__") ht.typeIs PyProof.Rows.slot_tuple_getitem
    (wpAny_call_entry PyProof.Rows.slot_tuple_getitem ht.typeIs entry_tuple_getitem ?_ (args_tuple_getitem _ _)))
  show wpAny _ _ (Builtin.Tuple.tupleItemsOf (.ref a) >>= _) _ _ s
  refine wpAny_bind (tupleItemsOf_ ht ?_)
  refine wpAny_bind (wpAny_typeOf hTs ?_)
  rw [if_pos (by decide)]
  refine wpAny_bind (HT.sliceApplied_gen hs pl pu ?_)
  have hyes:((((HT.sIx its.toArray.size 0 lo:Nat) : Int) == 0 && (1:Int) == 1 && (HT.sIx its.toArray.size its.toArray.size hi - HT.sIx its.toArray.size 0 lo) == its.toArray.size) = true) := by
    rw [hlen,hw.1,hw.2]; simp
  show wpAny _ _ (if (((HT.sIx its.toArray.size 0 lo:Nat) : Int) == 0 && (1:Int) == 1 && (HT.sIx its.toArray.size its.toArray.size hi - HT.sIx its.toArray.size 0 lo) == its.toArray.size) = true then _ else _) _ _ s
  rw [if_pos hyes]
  have fin:EP X pins σ Q (.ref a) s := ⟨.ref a,H,I,rfl,q⟩
  refine wpAny_bind (m := Builtin.Tuple.tupleIsExact (.ref a)) ?_
  unfold Builtin.Tuple.tupleIsExact
  refine wpAny_bind (wpAny_typeOf ht.typeIs ?_)
  refine wpAny_pure ?_
  rw [if_pos (by decide)]
  exact wpAny_bind (wpAny_rule (wpAny_pure ⟨_,rfl,wpAny_pure fin⟩))
end
end L3
namespace L3
open PySem PySem.Spec PyProof.Rows L2
section
variable {X:Cx} {E:XK}
def cutA {α:Type} (xs:List α) (lo hi:Option Int) : List α := (xs.drop (HT.sIx xs.length 0 lo)).take (HT.sIx xs.length xs.length hi - HT.sIx xs.length 0 lo)
theorem IsAll.cut {H:Hp} {m:Addr -> Prop} {ds:List D} {vs:List V} (h:IsAll H m ds vs) (lo hi:Option Int) : IsAll H m (cutA ds lo hi) (cutV vs lo hi) := by
  unfold cutA cutV
  rw [h.length]
  exact (h.drop _).take _
def PostO (mg:Str -> Option Value) (E:XK) (g:Gd) (M:Addr -> Prop) (ρ:Pr) (env:En) (σ:St) (H:Hp) (Q:Option Int -> Hp -> Prop) : Res (Option Int) -> Prop
  | .stuck => False
  | .exc c => XOk mg E g c
  | .ok o => ∀ M' H',Ext M H M' H' -> Rep g M' ρ env σ H' -> Q o H'
def POD (X:Cx) (E:XK) (e:Option Expr) (f:En -> Res (Option Int)) : Prop := ∃ t,PO X e t /\ ∀ g M ρ env σ H Q,Rep g M ρ env σ H -> PostO X.mg E g M ρ env σ H Q (f env) -> t σ H Q
def oNone:En -> Res (Option Int) := fun _ => .ok none
def oSome (f:En -> Res R) : En -> Res (Option Int) := fun env => (f env).bind fun r => match r.d with
  | .int i => .ok (some i)
  | _ => .stuck
theorem pod_none:POD X E none oNone := ⟨_,po_none,fun g M ρ env σ H Q rep p => p M H (Ext.refl _ _) rep⟩
theorem pod_some {e:Expr} {f:En -> Res R} (h:PD X E e f) : POD X E (some e) (oSome f) := by
  obtain ⟨t,p1,s1⟩ := h
  refine ⟨_,po_some p1,fun g M ρ env σ H Q rep p => s1.one rep (P := fun M H r => PostO X.mg E g M ρ env σ H Q r) p (fun _ _ z => z) (fun _ _ _ z => z) (fun M H M' H' r e p => ?_) fun r v M1 H1 e1 rep1 is q => ?_⟩
  · cases r with
    | stuck => exact p
    | exc c => exact p
    | ok o => exact fun M2 H2 e2 => p M2 H2 (e.trans e2)
  · cases z:r.d with
    | int i =>
      rw [z] at is; simp only [z] at q
      cases is
      exact ⟨i,rfl,q M1 H1 (Ext.refl _ _) rep1⟩
    | _ => simp only [z] at q; exact q.elim
def D.ty:D -> String
  | .non => "NoneType" | .bl _ => "bool" | .int _ => "int" | .str _ => "str" | .tup _ => "tuple" | .lst _ => "list" | .dic _ _ => "dict"
def TyX (K : PySem.W.Frag) (H : Hp) (x : V) (t : Value) : Prop := TyOf K H x t \/ (t = .type "dict" /\ ∃ a, x = .ref a /\ IsD H a)
theorem Is.ty {H:Hp} {m:Addr -> Prop} {d:D} {v:V} {K:PySem.W.Frag} (h:Is H m d v) : TyX K H v (.type d.ty) := by
  cases d with
  | non => cases h; exact .inl .non
  | bl b => cases h; exact .inl (.bl b)
  | int b => cases h; exact .inl (.int b)
  | str b => cases h; exact .inl (.str b)
  | tup ds => obtain ⟨a,vs,rfl,h1,_⟩ := h; exact .inl (.tup h1)
  | lst ds =>
    obtain ⟨a,vs,rfl,h1,_⟩ := h
    rcases h1 with ⟨h1,_⟩ | ⟨o,h1,_⟩
    · exact .inl (.lst h1)
    · exact .inl (.frz h1)
  | dic ks ds =>
    obtain ⟨a,kvs,rfl,h1,_⟩ := h
    exact .inr ⟨rfl,a,rfl,h1.1.imp (fun ⟨kvs,e,_⟩ => ⟨kvs,e⟩) fun ⟨kvs,e,_⟩ => ⟨kvs,e⟩⟩
def isT (T:String) (d:D) : Bool := match d with
  | .non => T == "NoneType"
  | .bl _ => T == "bool" || T == "int"
  | .int _ => T == "int"
  | .str _ => T == "str"
  | .tup _ => T == "tuple"
  | .lst _ => T == "list"
  | .dic _ _ => T == "dict"
def Kind (T:String) : Prop := ∀ (K:PySem.W.Frag) (d:D),PySem.W.kitOne K (.type d.ty) (.type T) = some (isT T d)
theorem kind_int : Kind "int" := fun K d => by cases d <;> kernel_rfl
theorem kind_bool : Kind "bool" := fun K d => by cases d <;> kernel_rfl
theorem kind_list : Kind "list" := fun K d => by cases d <;> kernel_rfl
theorem kind_tuple : Kind "tuple" := fun K d => by cases d <;> kernel_rfl
theorem kind_str : Kind "str" := fun K d => by cases d <;> kernel_rfl
def vIsi (T:String) (fa:En -> Res R) : En -> Res R := fun env => (fa env).bind fun r => .ok (.val (.bl (isT T r.d)) true [])
theorem call_isi : CallR X (.builtin "isinstance") (fun xs H Q => ∃ x T t b, xs = [x, .ty T] /\ TyX X.K H x t /\ PySem.W.kitOne X.K t (.type T) = some b /\ Q (.bl b) H) := by
  intro pins s σ H xs us Q I r h
  obtain ⟨x,T,t,b,rfl,ty,e,q⟩ := h
  obtain ⟨u,c,rfl,ru,rc⟩ := vals2 r
  obtain rfl:c = Value.type T := rc
  rcases ty with ty | ⟨rfl,a,rfl,hd⟩
  · exact isinst_ok I ru ty e fun tk => ⟨.bl b,H,I.tok tk,rfl,q⟩
  · obtain rfl:u = Value.ref a := ru
    obtain ⟨t1,_⟩ := isD_at I hd
    exact PySem.W.kia_one PySem.W.kitx_dict I.kIn t1 e (fun z => nomatch z) fun tk => ⟨.bl b,H,I.tok tk,rfl,q⟩
theorem pd_isi {T : Str} {T' : String} {e : Expr} {fa : En -> Res R} {p q pos : Pos} (hK : Kind T') (hg : Gl X "isinstance") (hm : X.mg "isinstance" = none) (hgT : Gl X T) (hmT : X.mg T = none) (hvT : bootBuiltins T = some (.type T')) (ha : PD X E e fa)
    (hnT : T ≠ "__name__" := by decide) (hdT : (T == ("__debug__" : Str)) = false := by decide)
    (he:starEach [e,.Name T q] X.env = (false,eval e X.env) :: starEach [.Name T q] X.env := by rfl) (he2:starEach [.Name T q] X.env = (false,eval (.Name T q) X.env) :: starEach [] X.env := by rfl) (hpl:(backTo pos (starEach [.Name T q] X.env)).any (·.1) = false := by rfl) :
    PD X E (.Call (.Name "isinstance" p) [e, .Name T q] [] pos) (vIsi T' fa) := by
  obtain ⟨ta,p1,s1⟩ := ha
  refine ⟨_,pe_callB call_isi hg hm (by decide +kernel) (pa_cons p1 (pa_cons (pe_bltn hgT hmT hvT (v := .ty T') rfl hnT hdT) pa_nil he2) he) (by decide) (by decide) he hpl,fun g M ρ env σ H Q rep p => s1.oneE rep p fun r v M1 H1 e1 rep1 is q => ?_⟩
  exact ⟨v,T',_,_,rfl,is.ty,hK X.K r.d,q _ M1 H1 (Ext.refl _ _) rep1 rfl⟩
end
end L3
namespace L3
open PySem PySem.Spec PyProof.Rows L2
section
variable {X:Cx} {E:XK}
def bools:List D -> Option (List Bool)
  | [] => some []
  | .bl b :: r => (bools r).map fun bs => b :: bs
  | _ :: _ => none
def kAll:List R -> Res R
  | [r] => match r.d with
    | .lst ds => match bools ds with
      | some bs => .ok (.val (.bl (bs.all id)) true [])
      | none => .stuck
    | _ => .stuck
  | _ => .stuck
theorem bools_get:∀ {ds:List D} {bs:List Bool} {i:Nat} {d:D},bools ds = some bs -> ds[i]? = some d -> ∃ b,d = .bl b /\ bs[i]? = some b
  | [],_,_,_,_,e => by simp at e
  | .bl b :: r,bs,0,d,h,e => by
    simp at e; subst e
    unfold bools at h
    cases q:bools r with
    | none => rw [q] at h; cases h
    | some bs' => rw [q] at h; cases h; exact ⟨b,rfl,rfl⟩
  | .bl b :: r,bs,i + 1,d,h,e => by
    unfold bools at h
    cases q:bools r with
    | none => rw [q] at h; cases h
    | some bs' =>
      rw [q] at h; cases h
      obtain ⟨b',e1,e2⟩ := bools_get (i := i) q (by simpa using e)
      exact ⟨b',e1,by simpa using e2⟩
  | .non :: _,_,_,_,h,_ => by cases h
  | .int _ :: _,_,_,_,h,_ => by cases h
  | .str _ :: _,_,_,_,h,_ => by cases h
  | .tup _ :: _,_,_,_,h,_ => by cases h
  | .lst _ :: _,_,_,_,h,_ => by cases h
theorem bools_len:∀ {ds:List D} {bs:List Bool},bools ds = some bs -> bs.length = ds.length
  | [],_,h => by cases h; rfl
  | .bl b :: r,bs,h => by
    unfold bools at h
    cases q:bools r with
    | none => rw [q] at h; cases h
    | some bs' => rw [q] at h; cases h; simp [bools_len q]
  | .non :: _,_,h => by cases h
  | .int _ :: _,_,h => by cases h
  | .str _ :: _,_,h => by cases h
  | .tup _ :: _,_,h => by cases h
  | .lst _ :: _,_,h => by cases h
theorem call_allB (hc : X.calm = true) : CallR X (.builtin "all") (fun xs H Q => ∃ (p : Addr) (vs : List V) (bs : List Bool), xs = [.ref p] /\ SqL X.K H p vs /\ vs = bs.map V.bl /\ Q (.bl (bs.all id)) H) := by
  intro pins s σ H xs us Q I r h
  obtain ⟨p,vs,bs,rfl,hq,rfl,q⟩ := h
  obtain ⟨u,rfl,rx⟩ := vals1 r
  cases rx
  obtain ⟨its,rv,pl,hz⟩ := I.list hq
  have hh:X.A.in1.handled = none := I.ok.hd hc
  obtain ⟨o,ho,_⟩ := pl.isList
  have hlt:p < s.heap.objs.size := Heap.lt_size ho
  refine call_all_walk (wpAny_pyIter_list pl.isList ?_)
  refine ⟨s.heap.objs.size,_,_,_,_,_,fun i => (bs[i]?).getD true,rfl,Walks.list hh s.heap.objs.size p (Nat.ne_of_lt hlt) its.toArray,⟨⟨_,Heap.get?_push_size _ rfl,rfl,rfl⟩,?_⟩,?_,fun h' tk hk => ?_⟩
  · exact pl.isList.at fun o e => Heap.get?_push_of_some _ e
  · intro i v s' Q' E' hv hQ'
    have hv:its[i]? = some v := by simpa using hv
    have hi:i < its.length := (List.getElem?_eq_some_iff.mp hv).1
    have hl := rv.length
    have hb:i < bs.length := by simpa using (by rw [List.length_map] at hl; omega:i < bs.length)
    obtain ⟨u',hu,ru⟩ := rv.get (i := i) (x := .bl bs[i]) (by simp [hb])
    rw [hv] at hu; cases hu
    cases ru
    have eb:bs[i]? = some bs[i] := by simp [hb]
    dsimp only at hQ'
    rw [eb] at hQ'
    exact wpAny_truthy_bool hQ'
  · have hl := rv.length
    rw [List.length_map] at hl
    have e:((List.range its.toArray.size).all fun i => (bs[i]?).getD true) = bs.all id := by
      rw [List.size_toArray,<- hl]
      rw [Bool.eq_iff_iff,List.all_eq_true,List.all_eq_true]
      constructor
      · intro h b hb
        obtain ⟨i,hi⟩ := List.mem_iff_getElem?.mp hb
        have := h i (by simp; exact (List.getElem?_eq_some_iff.mp hi).1)
        rw [hi] at this; exact this
      · intro h i hi
        have hi:i < bs.length := by simpa using hi
        have eb:bs[i]? = some bs[i] := by simp [hi]
        rw [eb]
        exact h _ (List.getElem_mem hi)
    rw [e]
    refine ⟨.bl _,H,?_,rfl,q⟩
    have I1 : L2.Inv X pins σ H { s with heap := s.heap.push { cls := .type "list_iterator", data := .fields #[.ref p, .int 0 0] } } := I.kept (t' := s.toks) fun b o e => Heap.get?_push_of_some _ e
    have fo := I.fpOk (H' := H) (Nat.le_refl s.heap.objs.size) (I.hok.fresh (Nat.le_refl _))
    exact I1.turned (t' := tk) (it := s.heap.objs.size) (fun b o hb e => hk b o (by simpa using hb) e) fo.1 fo.2.1 fo.2.2.2.1 fo.2.2.2.2.1 fo.2.2.2.2.2
theorem cd_all (hc : X.calm = true) : CallD X E (.builtin "all") kAll := by
  refine ⟨_,call_allB hc,fun g M ρ env σ H Q rs vs rep i p => ?_⟩
  match rs,i,p with
  | [r],i,p =>
    obtain ⟨v,w,rfl,i1,i2⟩ := i
    cases i2
    have i1:Is H (vmsk g M (rfrs [r]) ρ (rals [r])) r.d v := i1
    unfold kAll at p
    dsimp only at p
    cases q:r.d with
    | lst ds =>
      rw [q] at p i1
      obtain ⟨a,ws,rfl,h1,h2⟩ := i1.rd
      dsimp only at p
      cases qb:bools ds with
      | none => rw [qb] at p; exact p.elim
      | some bs =>
        rw [qb] at p
        refine ⟨a,ws,bs,rfl,.inl h1,?_,p _ M H (Ext.refl _ _) rep rfl⟩
        apply List.ext_getElem?
        intro j
        by_cases hj:j < ds.length
        · obtain ⟨b,e1,e2⟩ := bools_get (i := j) (d := ds[j]) qb (by simp [hj])
          obtain ⟨v',ev,iv⟩ := h2.get (i := j) (d := ds[j]) (by simp [hj])
          rw [e1] at iv
          cases iv
          rw [ev,List.getElem?_map,e2]; rfl
        · have l1 := h2.length
          have l2 := bools_len qb
          rw [List.getElem?_eq_none (by omega),List.getElem?_eq_none (by simp; omega)]
    | _ => rw [q] at p; exact p.elim
  | [],_,p => exact p.elim
  | _ :: _ :: _,_,p => exact p.elim
theorem IsShs.get {H:Hp} {m:Addr -> Prop} : ∀ {ds:List D} {vs:List V} {j:Nat} {d:D},IsShs H m ds vs -> ds[j]? = some d -> ∃ v,vs[j]? = some v /\ IsSh H m d v
  | [],_,_,_,_,e => by simp at e
  | d :: ds,_,0,_,h,e => by
    obtain ⟨v,r,rfl,h1,h2⟩ := h
    simp at e; subst e
    exact ⟨v,rfl,h1⟩
  | d :: ds,_,j + 1,_,h,e => by
    obtain ⟨v,r,rfl,h1,h2⟩ := h
    obtain ⟨w,a,b⟩ := IsShs.get (j := j) h2 (by simpa using e)
    exact ⟨w,by simpa using a,b⟩
def partL (d:D) (j:Nat) : Bool := match d with
  | .tup ds => match ds[j]? with
    | some (.lst _) => true
    | _ => false
  | _ => false
theorem part_at {H:Hp} {m:Addr -> Prop} {d:D} {v:V} {j:Nat} (h:IsSh H m d v) (e:partL d j = true) : ∃ a vs l ws,v = .ref a /\ H a = some (.tup vs) /\ vs[j]? = some (.ref l) /\ H l = some (.lst ws) /\ m l := by
  unfold partL at e
  cases d with
  | tup ds =>
    obtain ⟨a,vs,rfl,h1,h2⟩ := h
    dsimp only at e
    cases q:ds[j]? with
    | none => rw [q] at e; cases e
    | some d' =>
      obtain ⟨w,ew,iw⟩ := h2.get q
      rw [q] at e
      cases d' with
      | lst es =>
        obtain ⟨l,ws,rfl,h3,h4⟩ := iw
        exact ⟨a,vs,l,ws,rfl,h1,ew,h3,h4⟩
      | _ => cases e
  | _ => cases e
end
end L3
namespace L3
open PySem PySem.Spec PyProof.Rows L2
def Ite (K:PySem.W.Frag) (a:Addr) : It :=
  ⟨fun i H => ∃ xs x,SqL K H a xs /\ xs[i]? = some x,fun i H y H' => ∃ p x,H p = none /\ y = .ref p /\ H' = upd H p (.tup [.int (i:Nat),x]) /\ ∀ xs,SqL K H a xs -> xs[i]? = some x,fun i H => ∃ xs,SqL K H a xs /\ xs.length <= i⟩
theorem turn_enum {P:Program} {w:World} {K:PySem.W.Frag} {es:List Expr} {k:Nat} {pos:Pos} (a it e:Addr) (hei:e ≠ it) : Turn P w K (.Tuple es k pos) (Ite K a) [e,it] e (fun i h => (∃ old,IsEnum h e it i old) /\ h.IsListIter it a i) where
  mem := by simp
  obj := fun i h st b hb => by
    obtain ⟨⟨old,he⟩,o,ho,c,d⟩ := st
    rcases List.mem_cons.mp hb with rfl | hb
    · exact ⟨_,he,fun v z => by cases z⟩
    · have:b = it := by simpa using hb
      subst this
      exact ⟨o,ho,fun v z => by rw [d] at z; cases z⟩
  keep := fun i h h' st kk => by
    obtain ⟨⟨old,he⟩,hl⟩ := st
    exact ⟨⟨old,kk e (by simp) _ he⟩,hl.at fun o q => kk it (by simp) o q⟩
  item := by
    intro X hP hw hK hc i pins s σ H E I hf st hg
    subst hP hw hK
    obtain ⟨xs,x,hq,hx⟩ := hg
    obtain ⟨⟨old,he⟩,hl⟩ := st
    obtain ⟨its,rv,p,hz⟩ := I.list hq
    obtain ⟨u,hu,ru⟩ := rv.get hx
    have fe := hf e (by simp)
    have fi := hf it (by simp)
    have hai:a ≠ it := by
      intro z
      obtain ⟨o1,e1,c1,_⟩ := p.isList
      obtain ⟨o2,e2,c2,_⟩ := hl
      rw [z,e2] at e1; cases e1
      rw [c2] at c1; injection c1 with z; exact absurd z (by decide)
    have hae:a ≠ e := by
      intro z
      obtain ⟨o1,e1,c1,_⟩ := p.isList
      rw [z,he] at e1; cases e1; injection c1 with z; exact absurd z (by decide)
    have hh:X.A.in1.handled = none := I.ok.hd hc
    have hil:i < its.length := (List.getElem?_eq_some_iff.mp hu).1
    refine wpAny_pyNext_enum_itemD (Draws.list hh it a hai its.toArray) he ⟨hl,p.isList⟩ (by simpa using hil) hei (by simp; exact ⟨hei,Ne.symm hae⟩) fun x' h' tk hx' ho hs' hT hsz hk => ?_
    have ex:x' = u := by
      have:its[i]? = some x' := by simpa using hx'
      rw [hu] at this; exact (Option.some.inj this).symm
    subst ex
    refine ⟨_,rfl,wpAny_letOwnedTupleGo_enum ho fun h'' he'' hs'' => ?_⟩
    have keep2:∀ b o,b ≠ e -> b ≠ it -> s.heap.get? b = some o -> h''.get? b = some o := fun b o n1 n2 q => (hs''.2 b n1).trans (hk b o n1 n2 q)
    have hTe:s.heap.objs.size ≠ e := Nat.ne_of_gt (Heap.lt_size he)
    have hT'' : h''.get? s.heap.objs.size = some { cls := .type "tuple", data := .seq #[.int i tk, x'] } := (hs''.2 _ hTe).trans hT
    have I1:L2.Inv X pins σ (upd H s.heap.objs.size (.tup [.int (i:Nat),x])) { s with heap := h'',toks := tk + 1 } := by
      refine I.step (g' := s.gens) (d' := s.drawn) (ch := [e,it]) (fun b hb => ?_) (fun b o _ _ hn q _ => keep2 b o (fun z => hn (by simp [z])) (fun z => hn (by simp [z])) q)
        (fun b o _ _ hn q _ => ⟨o.slots,keep2 b o (fun z => hn (by simp [z])) (fun z => hn (by simp [z])) q⟩) (fun b o _ q hH => by rw [upd_ne (Nat.ne_of_lt (Heap.lt_size q))]; exact hH)
        (fun b o hn q => ⟨o,keep2 b o (fun z => hn (by simp [z])) (fun z => hn (by simp [z])) q⟩) (fun b ys q => by rw [upd_ne (ne_of_none q (I.hok.fresh (Nat.le_refl _)))]; exact q)
        (fun b o' u' q => by rw [upd_ne (ne_of_none q (I.hok.fresh (Nat.le_refl _)))]; exact q) (fun b ps q => ⟨#[],by rw [upd_ne (ne_of_none q (I.hok.fresh (Nat.le_refl _)))]; simp [q]⟩) (fun m hm => ?_) (fun b u' q => ?_) I.bare
      · rcases List.mem_cons.mp hb with rfl | hb
        · exact ⟨fe.2.2.2.1,fe.2.1,fe.2.2.2.2.1,fe.2.2.2.2.2⟩
        · have:b = it := by simpa using hb
          subst this
          exact ⟨fi.2.2.2.1,fi.2.1,fi.2.2.2.2.1,fi.2.2.2.2.2⟩
      · obtain ⟨o,es',ep,ho',r⟩ := hm
        exact ⟨o,es',ep,keep2 _ o (Ne.symm fe.2.1) (Ne.symm fi.2.1) ho',r⟩
      · by_cases hb : b = s.heap.objs.size
        · subst hb
          rw [upd_same] at q; cases q
          refine ⟨by show 2 <= sizeLine; decide,[.int i tk,x'],.cons ⟨tk,rfl⟩ (.cons ru .nil),⟨_,hT'',rfl,0,rfl⟩⟩
        · rw [upd_ne hb] at q
          refine (I.hok b u' q).stay (fun c v hc' q' => keep2 c v ?_ ?_ q') (fun c r => by rw [upd_ne (ne_of_none r (I.hok.fresh (Nat.le_refl _)))]; exact r) fun c ys r => by rw [upd_ne (ne_of_none r (I.hok.fresh (Nat.le_refl _)))]; exact r
          · rcases hc' with z | z
            · rw [z]; exact ne_of_none q fe.1
            · exact ne_of_none z fe.1
          · rcases hc' with z | z
            · rw [z]; exact ne_of_none q fi.1
            · exact ne_of_none z fi.1
    refine ⟨.ref s.heap.objs.size,_,I1,rfl,⟨_,x,I.hok.fresh (Nat.le_refl _),rfl,rfl,fun ys hy => by rw [I.list_inj hy hq]; exact hx⟩,⟨⟨_,by simpa using he''⟩,?_⟩,fun b hb => ?_⟩
    · obtain ⟨o,q,r⟩ := hs'.1
      exact ⟨o,(hs''.2 it (Ne.symm hei)).trans q,r⟩
    · rcases List.mem_cons.mp hb with rfl | hb
      · rw [upd_ne (Nat.ne_of_lt (Heap.lt_size he))]; exact fe.1
      · have:b = it := by simpa using hb
        subst this
        obtain ⟨o,q,_⟩ := hl
        rw [upd_ne (Nat.ne_of_lt (Heap.lt_size q))]; exact fi.1
  done := by
    intro X hP hw hK hc i pins s σ H E I hf st hg
    subst hP hw hK
    obtain ⟨xs,hq,hx⟩ := hg
    obtain ⟨⟨old,he⟩,hl⟩ := st
    obtain ⟨its,rv,p,hz⟩ := I.list hq
    have fi := hf it (by simp)
    have hai:a ≠ it := by
      intro z
      obtain ⟨o1,e1,c1,_⟩ := p.isList
      obtain ⟨o2,e2,c2,_⟩ := hl
      rw [z,e2] at e1; cases e1
      rw [c2] at c1; injection c1 with z; exact absurd z (by decide)
    have hh:X.A.in1.handled = none := I.ok.hd hc
    have hln := rv.length
    have Dr:Draws X.prog X.w X.A.in1 it [it,a] 0 (fun _ _ => True) (fun _ h => h.IsListIter it a i /\ h.IsList a its.toArray) :=
      { live := fun _ _ st => let ⟨o,ho,_⟩ := st.1; ⟨o,ho⟩
        frame := fun _ _ _ st hk => ⟨st.1.at fun o e => hk it (by simp) o e,st.2.at fun o e => hk a (by simp) o e⟩
        item := fun i s Q E hi => absurd hi (by omega)
        done := fun s Q E st hE => wpAny_nextOf_list_end hh st.1 st.2 (by simp; omega) hE }
    exact wpAny_pyNext_enum_endD Dr he ⟨hl,p.isList⟩ fun h' eb => ⟨rfl,I.turned (t' := s.toks) (fun b o hb e => eb b o hb e) fi.1 fi.2.1 fi.2.2.2.1 fi.2.2.2.2.1 fi.2.2.2.2.2⟩
  self := fun A i s Q E st h => by
    obtain ⟨⟨old,he⟩,_⟩ := st
    exact wpAny_pyIter_enum he h
section
variable {X:Cx} {E:XK} {es:List Expr} {k:Nat} {tpos:Pos}
def iEnum (K:PySem.W.Frag) (ta:TA) : TI := fun σ H R => ta σ H fun vs H1 => ∃ a xs,vs = [.ref a] /\ SqL K H1 a xs /\ R (Ite K a) H1
theorem pi_enum {l : Expr} {ta : TA} {p pos : Pos} (hg : Gl X "enumerate") (hm : X.mg "enumerate" = none) (ha : PA X [l] ta) (hs : starEach [l] X.env = [(false, eval l X.env)] := by rfl) : PI X (.Tuple es k tpos) (.Call (.Name "enumerate" p) [l] [] pos) (iEnum X.K ta) := by
  intro pins s σ H R I h
  refine Call_ (ld_blt I hg hm (by decide +kernel : bootBuiltins "enumerate" = some (.type "enumerate")) (PyProof.Rows.callWith_type1 (thn (ha pos pins s σ H _ I h) fun us s1 ⟨vs, H1, I1, r1, q1⟩ => ?_) hs rfl))
  obtain ⟨a,xs,e,hq,q⟩ := q1
  subst e
  cases r1 with
  | cons r rr =>
    cases rr
    cases r
    obtain ⟨its,rv,pl,hz⟩ := I1.list hq
    refine call_enumerate_list pl.isList fun h' he hl hsz kp => ?_
    have I2:L2.Inv X pins σ H1 { s1 with heap := h' } := I1.kept (t' := s1.toks) kp
    refine wpAny_pyIter_enum he ?_
    refine ⟨s1.heap.objs.size + 1,[s1.heap.objs.size + 1,s1.heap.objs.size],_,_,H1,rfl,I2,turn_enum a s1.heap.objs.size (s1.heap.objs.size + 1) (Nat.succ_ne_self _),⟨⟨_,by simpa using he⟩,hl⟩,fun b hb => ?_,q⟩
    rcases List.mem_cons.mp hb with rfl | hb
    · exact I1.fpOk (Nat.le_succ _) (I1.hok.fresh (Nat.le_succ _))
    · have e:b = s1.heap.objs.size := by simpa using hb
      subst e
      exact I1.fpOk (Nat.le_refl _) (I1.hok.fresh (Nat.le_refl _))
def enumD:Nat -> List D -> List D
  | _,[] => []
  | n,d :: ds => .tup [.int (n:Nat),d] :: enumD (n + 1) ds
theorem enumD_get:∀ (ds:List D) (n i:Nat),(enumD n ds)[i]? = (ds[i]?).map fun d => .tup [.int ((n + i:Nat) : Int),d]
  | [],_,_ => by simp [enumD]
  | d :: ds,n,0 => by simp [enumD]
  | d :: ds,n,i + 1 => by
    have := enumD_get ds (n + 1) i
    simp only [enumD,List.getElem?_cons_succ,this]
    congr 1
    funext d
    have e:n + 1 + i = n + (i + 1) := by omega
    rw [e]
theorem enumD_len:∀ (ds:List D) (n:Nat),(enumD n ds).length = ds.length
  | [],_ => rfl
  | d :: ds,n => by simp [enumD,enumD_len ds]
theorem walk_enum {K:PySem.W.Frag} {a:Addr} {m:Addr -> Prop} {H:Hp} {ds:List D} {vs:List V} (h:(H a = some (.lst vs) /\ m a) \/ ∃ o,H a = some (.frz o (.lst vs)) /\ m a) (is:IsAll H m ds vs) : Walk (Ite K a) m H (enumD 0 ds) := by
  have st:∀ H',(∀ a o,H a = some o -> (m a \/ fixd o) -> H' a = some o) -> SqL K H' a vs := fun H' k => by
    rcases h with ⟨h,hm⟩ | ⟨o,h,_⟩
    · exact .inl (.inl (k a _ h (.inl hm)))
    · exact .inl (.inr ⟨o,k a _ h (.inr True.intro)⟩)
  refine ⟨fun H' i d k e => ?_,fun H' k => ⟨vs,st H' k,by rw [is.length,enumD_len]; exact Nat.le_refl _⟩⟩
  rw [enumD_get] at e
  cases q:ds[i]? with
  | none => rw [q] at e; cases e
  | some d0 =>
    rw [q] at e
    have e:D.tup [.int ((0 + i:Nat) : Int),d0] = d := by simpa using e
    obtain ⟨v,ev,iv⟩ := (is.mono k fun _ _ _ z => z:IsAll H' m ds vs).get q
    refine ⟨⟨vs,v,st H' k,ev⟩,fun x H'' y => ?_⟩
    obtain ⟨p,x',hp,rfl,rfl,y⟩ := y
    have := y vs (st _ k)
    rw [ev] at this; cases this
    have sm:Same H' (upd H' p (.tup [.int (i:Nat),v])) := same_upd hp
    refine ⟨sm,?_⟩
    rw [<- e,Nat.zero_add]
    exact ⟨p,_,rfl,upd_same,.int (i:Nat),[v],rfl,rfl,v,[],rfl,Is.same sm iv,rfl⟩
def sEnum (fs:En -> Res (List R)) : En -> Res Src := fun env => (fs env).bind fun rs => match rs with
  | [r] => match r.d with
    | .lst ds => .ok ⟨enumD 0 ds,r.fr,r.al⟩
    | _ => .stuck
  | _ => .stuck
theorem pid_enum {l : Expr} {fs : En -> Res (List R)} {p pos : Pos} (hg : Gl X "enumerate") (hm : X.mg "enumerate" = none) (ha : PAD X E [l] fs) (hs : starEach [l] X.env = [(false, eval l X.env)] := by rfl) : PID X E (.Tuple es k tpos) (.Call (.Name "enumerate" p) [l] [] pos) (sEnum fs) := by
  obtain ⟨t,p1,s1⟩ := ha
  refine ⟨_,pi_enum hg hm p1 hs,fun g M ρ env σ H Rq rep p => s1.one rep (P := fun M H r => PostI X.mg E g M ρ env σ H Rq r) p (fun _ _ z => z) (fun _ _ _ z => z) (fun _ _ _ _ _ e p => p.ext e) fun rs vs M1 H1 e1 rep1 is q => ?_⟩
  match rs,is,q with
  | [r],is,q =>
    obtain ⟨v,w,rfl,i1,i2⟩ := is
    cases i2
    have i1:Is H1 (vmsk g M1 (rfrs [r]) ρ (rals [r])) r.d v := i1
    replace i1 := i1.weak fun _ z => one_msk z
    dsimp only at q
    cases z:r.d with
    | lst ds =>
      rw [z] at i1; rw [z] at q
      dsimp only at q
      obtain ⟨a,ws,rfl,h1,h2⟩ := i1
      exact ⟨a,ws,rfl,.inl (h1.imp (·.1) fun ⟨o,z,_⟩ => ⟨o,z⟩),q _ M1 H1 (Ext.refl _ _) rep1 (walk_enum h1 h2)⟩
    | _ => rw [z] at q; exact q.elim
  | [],_,q => exact q.elim
  | _ :: _ :: _,_,q => exact q.elim
end
end L3
namespace L3
open PySem PySem.Spec PyProof.Rows L2
def cOk (osc:Scope) (N:List Str) (scope:Scope) (tN capN:List Str) (caps:List Nat) : Bool :=
  (scope.kind == .function) && scope.names.all (fun y => y.2 != .cell) && scope.names.all (fun y => y.2 != .local || scope.names.lookup y.1 == some .local) && tN.all (fun x => scope.names.lookup x == some .local) &&
  scope.names.all (fun y => y.2 != .free || (osc.names.lookup y.1 == some .cell || osc.names.lookup y.1 == some .free)) && (capN.zip caps).all (fun p => N[p.2]? == some p.1) && (caps.length == capN.length) &&
  capN.all (fun y => osc.names.lookup y == some .cell || osc.names.lookup y == some .free) && capN.all (fun y => scope.names.lookup y == some .free) && decide (tN ++ capN).Nodup
theorem CScope.of {X:Cx} {osc:Scope} {N:List Str} {scope:Scope} {tN capN:List Str} {caps:List Nat} (h1:X.env.scope = osc) (h2:X.N = N) (h3:cOk osc N scope tN capN caps = true) : CScope X scope tN capN caps := by
  unfold cOk at h3
  simp only [Bool.and_eq_true,List.all_eq_true,Bool.or_eq_true,beq_iff_eq,bne_iff_ne,decide_eq_true_eq,ne_eq] at h3
  obtain ⟨⟨⟨⟨⟨⟨⟨⟨⟨a1,a2⟩,a3⟩,a4⟩,a5⟩,a6⟩,a7⟩,a8⟩,a9⟩,a10⟩ := h3
  subst h1 h2
  refine ⟨a1,a2,fun y hy hl => (a3 y hy).resolve_left fun z => z hl,a4,fun y hy hf => (a5 y hy).resolve_left fun z => z hf,⟨fun k y e => ?_,a8,a9,a7⟩,a10⟩
  have hk:k < capN.length := (List.getElem?_eq_some_iff.mp e).1
  have hk2:k < caps.length := by omega
  refine ⟨caps[k],by simp [hk2],?_⟩
  have hm:(y,caps[k]) ∈ capN.zip caps := by
    have:(capN.zip caps)[k]? = some (y,caps[k]) := by
      rw [List.getElem?_zip_eq_some]
      exact ⟨e,by simp [hk2]⟩
    exact List.mem_of_getElem? this
  exact a6 _ hm
structure Fn (K:PySem.W.Frag) (mg:Str -> Option Value) (x:Str) (st:Stmt) (ps:List Str) (f:Addr) (fd:FuncData) : Prop where
  fu:Fun K x x st f fd
  bi:Binds K fd ps []
  gl:mg x = some (.ref f)
end L3
namespace L3
open PySem PySem.Spec PyProof.Rows L2
section
variable {X:Cx} {E:XK}
end
end L3
namespace L3
open PySem PySem.Spec PyProof.Rows L2
def spT (F:List D -> Res R) : Sp := fun vs H Q _ => vs.length = 1 /\ ∃ ds Ma r,IsAll H Ma ds vs /\ F ds = .ok r /\ ∀ v H',Same H H' -> RetOk (mkG H Ma) H' v r -> Q v H'
def isListV:Value -> Bool
  | .type n => n == "list"
  | _ => false
def noL (K:PySem.W.Frag) : Bool := K.all fun p => !isListV p.2.cls
theorem noL_at {a : Addr} {o : Obj} : ∀ {K : PySem.W.Frag}, noL K = true -> K.lookup a = some o -> o.cls = .type "list" -> False
  | [],_,e,_ => by cases e
  | (b,x) :: r,h,e,c => by
    unfold noL at h
    rw [List.all_cons,Bool.and_eq_true] at h
    rw [List.lookup_cons] at e
    split at e
    · cases e
      rw [c] at h
      have h1 := h.1
      simp [isListV] at h1
    · exact noL_at (K := r) h.2 e c
theorem isAll_ints {H:Hp} {m:Addr -> Prop} : ∀ ns:List Int,IsAll H m (ns.map D.int) (ns.map V.int)
  | [] => rfl
  | n :: r => ⟨.int n,r.map V.int,rfl,rfl,isAll_ints r⟩
theorem spT_of {K:PySem.W.Frag} {F:List D -> Res R} (hF:∀ ns:List Int,ns.length <= 63 -> ∃ f al,F [.lst (ns.map .int)] = .ok (.val (.bl true) f al)) (hK:noL K = true) (H:Hp) (a:Addr) (ns:List Int) (hl:ns.length <= 63) (hO:Only H) (hS:SqL K H a (ns.map V.int)) :
    spT F [.ref a] H (fun v _ => v = .bl true) fun _ _ _ => False := by
  obtain ⟨f,al,e⟩ := hF ns hl
  refine ⟨rfl,[.lst (ns.map .int)],fun b => b = a,_,⟨_,[],rfl,⟨a,ns.map V.int,rfl,?_,isAll_ints ns⟩,rfl⟩,e,fun v H' _ h => h⟩
  rcases hS with h | ⟨o,its,n,h1,h2,_⟩
  · rcases h with h | ⟨o,h⟩
    · exact .inl ⟨h,rfl⟩
    · exact .inr ⟨o,h,rfl⟩
  · exact (noL_at hK h1 h2).elim
section
variable {P:Program} {w:World} {K:PySem.W.Frag} {mg:Str -> Option Value} {base:Heap}
theorem FnOk.top {CX:CXT} {k:Nat} {f:Addr} {fd:FuncData} {ps:List Str} {F:List D -> Res R} (h:FnOk P w K mg base CX k f fd ps (spD mg 1 F)) : FnOk P w K mg base CX k f fd ps (spT F) :=
  h.imp fun vs H Q E ⟨hl,ds,Ma,r,is,e,q⟩ => ⟨hl,ds,Ma,is,by rw [e]; exact q⟩
end
end L3
namespace L3
open PySem PySem.Spec PyProof.Rows L2
section
variable {P:Program} {w:World} {K:PySem.W.Frag} {mg:Str -> Option Value} {base:Heap}
theorem fn_D1 {x qual:Str} {st:Stmt} {f:Addr} {fd:FuncData} {N ps:List Str} {k:Nat} {FB:En -> Res Fl} (F:Fun K x qual st f fd) (S:FnScope N ps (defScope st))
    (body:∀ (cdv:Value) (A:Around) (outer:List Env) (s:Shared) (H:Hp) (E:XK),Room k (A.deeper (envOfC qual (defScope st) s.heap.objs.size f cdv)) -> PSsD (cx1 P w K mg base N qual (defScope st) f cdv A outer s H E) E (defBody st) FB) :
    FnOk P w K mg base (CX1 P w) (k + 1) f fd ps (spD mg ps.length (runF N FB)) := by
  obtain ⟨oc,od,kV,doc,pm,an,cdv,ct,osl,rfl,lk,hcd⟩ := F.ex
  refine fn_of lk hcd S (fun vs H Q E h => h.1) fun A outer s H vs Q E hr hsp => ?_
  obtain ⟨hl,ds,Ma,is,post⟩ := hsp
  obtain ⟨t,p1,s1⟩ := body cdv A outer s H E hr
  refine ⟨t,p1,s1 (mkG H Ma) _ _ (startE N ds) (L2.start N vs) H _ (rep_start is) ?_⟩
  unfold runF at post
  cases q:FB (startE N ds) with
  | stuck => rw [q] at post; exact post
  | exc c => rw [q] at post; exact post
  | ok r =>
    rw [q] at post
    cases r with
    | nx env => exact fun σ M' ρ' H' _ rep => post .non H' rep.same rfl
    | rt r => exact fun v M' H' _ s ro _ => post v H' s (ro fun _ z => z)
    | rm r env => exact post.elim
    | bk env => exact post.elim
    | ct env => exact post.elim
theorem passX {X:Cx} : Passes (CX1 P w) X E0 := fun _ _ _ _ _ _ _ h => by
  obtain ⟨_,_,_,_,_,_,_,_,_,_,_,_,_,_,_,z⟩ := h
  exact z.elim
end
theorem cx1_no {P:Program} {w:World} {l:List Env} {H:Hp} {s s':Shared} {e:Value} (h:CX1 P w l H s (fun _ _ _ => False) e s') : False := by
  obtain ⟨_,_,_,_,_,_,_,_,_,_,_,_,_,_,_,z⟩ := h
  exact z
section
variable {P:Program} {w:World} {K:PySem.W.Frag} {mg:Str -> Option Value} {base:Heap} {N:List Str} {qual:Str} {scope:Scope} {f:Addr} {cd:Value} {A:Around} {outer:List Env} {s₀:Shared} {H₀:Hp} {E:XK}
def fRaise (c:Str) (fs:En -> Res (List R)) : En -> Res Fl := fun env => (fs env).bind fun rs => if rs.length <= lim then .exc c else .stuck
theorem psd_raise {c:Str} {C:Addr} {np cpos pos:Pos} {e₀:Expr} {rest:List Expr} {fs:En -> Res (List R)} (hc:XC K mg c C) (hg:Gl (cx1 P w K mg base N qual scope f cd A outer s₀ H₀ E) c) (ha:PAD (cx1 P w K mg base N qual scope f cd A outer s₀ H₀ E) E (e₀ :: rest) fs)
    (he:starEach (e₀ :: rest) (cx1 P w K mg base N qual scope f cd A outer s₀ H₀ E).env = (false,eval e₀ (cx1 P w K mg base N qual scope f cd A outer s₀ H₀ E).env) :: starEach rest (cx1 P w K mg base N qual scope f cd A outer s₀ H₀ E).env := by rfl)
    (hpl : (backTo cpos (starEach rest (cx1 P w K mg base N qual scope f cd A outer s₀ H₀ E).env)).any (·.1) = false := by rfl) (hd : (c == ("__debug__" : Str)) = false := by decide) :
    PSD (cx1 P w K mg base N qual scope f cd A outer s₀ H₀ E) E (.Raise (some (.Call (.Name c np) (e₀ :: rest) [] cpos)) none pos) (fRaise c fs) := by
  obtain ⟨t,p1,s1⟩ := ha
  refine ⟨_,ps_raise (EW := fun H => E (.ref C) none H) hc hg rfl p1 (fun pins σ H s h' x args I hm hE => leaves1 I hm hE) he hpl hd,fun g M ρ env σ H D rep p => ?_⟩
  refine s1 g M ρ env σ H _ rep ?_
  unfold fRaise at p
  cases q:fs env with
  | stuck => rw [q] at p; exact p
  | exc c' => rw [q] at p; exact p
  | ok rs =>
    rw [q] at p
    simp only [Res.bind_ok] at p
    intro vs M1 H1 e1 rep1 is
    by_cases hl:rs.length <= lim
    · rw [if_pos hl] at p
      refine ⟨by rw [is.length,List.length_map]; exact lim_le hl,?_⟩
      exact p (.ref C) none H1 hc.gl rep1.same
    · rw [if_neg hl] at p; exact p.elim
end
def Takes (K:PySem.W.Frag) (mg:Str -> Option Value) (Ch:Addr) (cs:List Str) : Prop := ∀ c ∈ cs,∃ C,XC K mg c C /\ (mroK K C).contains (.ref Ch) = true
def Res.quiet {α:Type} : Res α -> Res α
  | .exc _ => .stuck
  | r => r
section
variable {X:Cx} {E:XK} {hc:Str} {Ch:Addr} {cs:List Str} {np hpos pos epos p cpos:Pos} {b₀:Stmt} {suite:List Stmt} {fsu:En -> Res Fl} {k:Nat} {f:Addr} {fd:FuncData} {ps:List Str} {F:List D -> Res R} {x:Str} {e:Expr} {es:List Expr} {fs:En -> Res (List R)}
theorem PostS.quiet {mg:Str -> Option Value} {g:Gd} {M:Addr -> Prop} {H:Hp} {D:Ends} {r:Res Fl} (p:PostS mg E g M H D r.quiet) : PostS mg E0 g M H D r := by
  cases r with
  | stuck => exact p
  | exc c => exact (show False from p).elim
  | ok r => cases r <;> exact p
end
end L3
namespace L3
open PySem PySem.Spec PyProof.Rows L2
def Itz (K:PySem.W.Frag) (a b:Addr) : It :=
  ⟨fun i H => ∃ xs ys x y,SqL K H a xs /\ SqL K H b ys /\ xs[i]? = some x /\ ys[i]? = some y,fun i H v H' => ∃ p x y,H p = none /\ v = .ref p /\ H' = upd H p (.tup [x,y]) /\ (∀ xs,SqL K H a xs -> xs[i]? = some x) /\ ∀ ys,SqL K H b ys -> ys[i]? = some y,
    fun i H => ∃ xs ys,SqL K H a xs /\ SqL K H b ys /\ (xs.length <= i \/ ys.length <= i)⟩
structure ZipSt (h:Heap) (z TI TO i1 i2 a b:Addr) (i:Nat) : Prop where
  zip:IsZip h z TI TO .none
  ti:IsPair h TI (.ref i1) (.ref i2)
  to:∃ u v,IsPair h TO u v
  l:h.IsListIter i1 a i
  r:h.IsListIter i2 b i
structure ZipNe (z TI TO i1 i2:Addr) : Prop where
  TIz:TI ≠ z
  TOz:TO ≠ z
  i1z:i1 ≠ z
  i2z:i2 ≠ z
  TITO:TI ≠ TO
  TIi1:TI ≠ i1
  TIi2:TI ≠ i2
  TOi1:TO ≠ i1
  TOi2:TO ≠ i2
  i12:i1 ≠ i2
section
variable {h:Heap} {z TI TO i1 i2 a b:Addr} {i:Nat} {its its2:Array Value}
theorem cls_ne {p q:Addr} {o1 o2:Obj} (e1:h.get? p = some o1) (e2:h.get? q = some o2) (n:o1.cls ≠ o2.cls) : p ≠ q := fun e => by
  subst e; rw [e1] at e2; cases e2; exact n rfl
theorem zip_apart (N:ZipNe z TI TO i1 i2) (S:ZipSt h z TI TO i1 i2 a b i) (ha:h.IsList a its) (hb:h.IsList b its2) : ZipApart z TI TO i1 i2 a b := by
  obtain ⟨oa,ea,ca,_⟩ := ha
  obtain ⟨ob,eb,cb,_⟩ := hb
  obtain ⟨u,v,hto⟩ := S.to
  obtain ⟨o1,e1,c1,_⟩ := S.l
  obtain ⟨o2,e2,c2,_⟩ := S.r
  have t1 : oa.cls ≠ Value.type "zip" := by rw [ca]; intro q; injection q with q; exact absurd q (by decide)
  have t2 : oa.cls ≠ Value.type "tuple" := by rw [ca]; intro q; injection q with q; exact absurd q (by decide)
  have t3 : oa.cls ≠ Value.type "list_iterator" := by rw [ca]; intro q; injection q with q; exact absurd q (by decide)
  have s1 : ob.cls ≠ Value.type "zip" := by rw [cb]; intro q; injection q with q; exact absurd q (by decide)
  have s2 : ob.cls ≠ Value.type "tuple" := by rw [cb]; intro q; injection q with q; exact absurd q (by decide)
  have s3 : ob.cls ≠ Value.type "list_iterator" := by rw [cb]; intro q; injection q with q; exact absurd q (by decide)
  exact ⟨N.TIz,N.TOz,N.i1z,N.i2z,N.TITO,N.TIi1,N.TIi2,N.TOi1,N.TOi2,N.i12,cls_ne ea S.zip t1,cls_ne ea hto t2,cls_ne ea e1 (by rw [c1]; exact t3),cls_ne ea e2 (by rw [c2]; exact t3),
    cls_ne eb S.zip s1,cls_ne eb hto s2,cls_ne eb e1 (by rw [c1]; exact s3),cls_ne eb e2 (by rw [c2]; exact s3)⟩
end
theorem turn_zip {P:Program} {w:World} {K:PySem.W.Frag} {es:List Expr} {k:Nat} {pos:Pos} (a b z TI TO i1 i2:Addr) (N:ZipNe z TI TO i1 i2) : Turn P w K (.Tuple es k pos) (Itz K a b) [z,TI,TO,i1,i2] z (fun i h => ZipSt h z TI TO i1 i2 a b i) where
  mem := by simp
  obj := fun i h st c hc => by
    obtain ⟨u,v,hto⟩ := st.to
    obtain ⟨o1,e1,c1,d1⟩ := st.l
    obtain ⟨o2,e2,c2,d2⟩ := st.r
    simp only [List.mem_cons,List.not_mem_nil,or_false] at hc
    rcases hc with rfl | rfl | rfl | rfl | rfl
    · exact ⟨_,st.zip,fun v z => by cases z⟩
    · exact ⟨_,st.ti,fun v z => by cases z⟩
    · exact ⟨_,hto,fun v z => by cases z⟩
    · exact ⟨o1,e1,fun v z => by rw [d1] at z; cases z⟩
    · exact ⟨o2,e2,fun v z => by rw [d2] at z; cases z⟩
  keep := fun i h h' st kk => by
    obtain ⟨u,v,hto⟩ := st.to
    exact ⟨kk z (by simp) _ st.zip,kk TI (by simp) _ st.ti,⟨u,v,kk TO (by simp) _ hto⟩,st.l.at fun o q => kk i1 (by simp) o q,st.r.at fun o q => kk i2 (by simp) o q⟩
  item := by
    intro X hP hw hK hc i pins s σ H E I hf st hg
    subst hP hw hK
    obtain ⟨xs,ys,x,y,hq,hq2,hx,hy⟩ := hg
    obtain ⟨its,rv,p,hz⟩ := I.list hq
    obtain ⟨its2,rv2,p2,hz2⟩ := I.list hq2
    obtain ⟨u,hu,ru⟩ := rv.get hx
    obtain ⟨u2,hu2,ru2⟩ := rv2.get hy
    obtain ⟨o1,o2,hto⟩ := st.to
    have A := zip_apart N st p.isList p2.isList
    have fz := hf z (by simp)
    have fI := hf TI (by simp)
    have fO := hf TO (by simp)
    have f1 := hf i1 (by simp)
    have f2 := hf i2 (by simp)
    refine wpAny_pyNext_zip_item A st.zip st.ti hto st.l st.r p.isList p2.isList (x := u) (y := u2) (by simpa using hu) (by simpa using hu2) fun h' hz' hto' h1' h2' hp hsz hk => ?_
    refine ⟨_,rfl,wpAny_letOwnedTupleGo_zip hz' fun h'' hz'' hs'' => ?_⟩
    have zlt:z < s.heap.objs.size := Heap.lt_size st.zip
    have keep2:∀ c o,c ≠ z -> c ≠ TO -> c ≠ i1 -> c ≠ i2 -> s.heap.get? c = some o -> h''.get? c = some o := fun c o n1 n2 n3 n4 q => (hs''.2 c n1).trans (hk c o n1 n2 n3 n4 q)
    have hT'' : h''.get? s.heap.objs.size = some { cls := .type "tuple", data := .seq #[u, u2] } := (hs''.2 _ (Nat.ne_of_gt zlt)).trans hp
    have fresh := I.hok.fresh (Nat.le_refl s.heap.objs.size)
    have nin:∀ {c:Addr},c ∉ [z,TO,i1,i2] -> c ≠ z /\ c ≠ TO /\ c ≠ i1 /\ c ≠ i2 := fun hn => ⟨fun z => hn (by simp [z]),fun z => hn (by simp [z]),fun z => hn (by simp [z]),fun z => hn (by simp [z])⟩
    have I1:L2.Inv X pins σ (upd H s.heap.objs.size (.tup [x,y])) { s with heap := h'' } := by
      refine I.step (t' := s.toks) (g' := s.gens) (d' := s.drawn) (ch := [z,TO,i1,i2]) (fun c hb => ?_) (fun c o _ _ hn q _ => let ⟨n1,n2,n3,n4⟩ := nin hn; keep2 c o n1 n2 n3 n4 q)
        (fun c o _ _ hn q _ => let ⟨n1,n2,n3,n4⟩ := nin hn; ⟨o.slots,keep2 c o n1 n2 n3 n4 q⟩) (fun c o _ q hH => by rw [upd_ne (Nat.ne_of_lt (Heap.lt_size q))]; exact hH)
        (fun c o hn q => let ⟨n1,n2,n3,n4⟩ := nin hn; ⟨o,keep2 c o n1 n2 n3 n4 q⟩) (fun c zs q => by rw [upd_ne (ne_of_none q fresh)]; exact q)
        (fun c o' u' q => by rw [upd_ne (ne_of_none q fresh)]; exact q) (fun c ps q => ⟨#[],by rw [upd_ne (ne_of_none q fresh)]; simp [q]⟩) (fun m hm => ?_) (fun c u' q => ?_) I.bare
      · simp only [List.mem_cons,List.not_mem_nil,or_false] at hb
        rcases hb with rfl | rfl | rfl | rfl
        · exact ⟨fz.2.2.2.1,fz.2.1,fz.2.2.2.2.1,fz.2.2.2.2.2⟩
        · exact ⟨fO.2.2.2.1,fO.2.1,fO.2.2.2.2.1,fO.2.2.2.2.2⟩
        · exact ⟨f1.2.2.2.1,f1.2.1,f1.2.2.2.2.1,f1.2.2.2.2.2⟩
        · exact ⟨f2.2.2.2.1,f2.2.1,f2.2.2.2.2.1,f2.2.2.2.2.2⟩
      · obtain ⟨o,es',ep,ho',r⟩ := hm
        exact ⟨o,es',ep,keep2 _ o (Ne.symm fz.2.1) (Ne.symm fO.2.1) (Ne.symm f1.2.1) (Ne.symm f2.2.1) ho',r⟩
      · by_cases hb : c = s.heap.objs.size
        · subst hb
          rw [upd_same] at q; cases q
          refine ⟨by show 2 <= sizeLine; decide,[u,u2],.cons ru (.cons ru2 .nil),⟨_,hT'',rfl,0,rfl⟩⟩
        · rw [upd_ne hb] at q
          refine (I.hok c u' q).stay (fun d v hc' q' => ?_) (fun d r => by rw [upd_ne (ne_of_none r fresh)]; exact r) fun d zs r => by rw [upd_ne (ne_of_none r fresh)]; exact r
          have tr:∃ w,H d = some w := hc'.elim (fun z => ⟨u',by rw [z]; exact q⟩) fun z => ⟨_,z⟩
          obtain ⟨w',hw'⟩ := tr
          exact keep2 d v (ne_of_none hw' fz.1) (ne_of_none hw' fO.1) (ne_of_none hw' f1.1) (ne_of_none hw' f2.1) q'
    refine ⟨.ref s.heap.objs.size,_,I1,rfl,⟨_,x,y,fresh,rfl,rfl,fun zs hz' => by rw [I.list_inj hz' hq]; exact hx,fun zs hz' => by rw [I.list_inj hz' hq2]; exact hy⟩,?_,fun c hb => ?_⟩
    · have mv:∀ c o,c ≠ z -> h'.get? c = some o -> h''.get? c = some o := fun c o n q => (hs''.2 c n).trans q
      exact ⟨hz'',keep2 TI _ N.TIz N.TITO N.TIi1 N.TIi2 st.ti,⟨_,_,mv TO _ N.TOz hto'⟩,h1'.at fun o q => mv i1 o N.i1z q,h2'.at fun o q => mv i2 o N.i2z q⟩
    · have lt:∀ {c:Addr} {o:Obj},s.heap.get? c = some o -> H c = none -> (upd H s.heap.objs.size (.tup [x,y])) c = none := fun q n => by rw [upd_ne (Nat.ne_of_lt (Heap.lt_size q))]; exact n
      obtain ⟨oo1,q1,_⟩ := st.l
      obtain ⟨oo2,q2,_⟩ := st.r
      simp only [List.mem_cons,List.not_mem_nil,or_false] at hb
      rcases hb with rfl | rfl | rfl | rfl | rfl
      · exact lt st.zip fz.1
      · exact lt st.ti fI.1
      · exact lt hto fO.1
      · exact lt q1 f1.1
      · exact lt q2 f2.1
  done := by
    intro X hP hw hK hc i pins s σ H E I hf st hg
    subst hP hw hK
    obtain ⟨xs,ys,hq,hq2,hx⟩ := hg
    obtain ⟨its,rv,p,hz⟩ := I.list hq
    obtain ⟨its2,rv2,p2,hz2⟩ := I.list hq2
    obtain ⟨o1,o2,hto⟩ := st.to
    have A := zip_apart N st p.isList p2.isList
    have fz := hf z (by simp)
    have fO := hf TO (by simp)
    have f1 := hf i1 (by simp)
    have f2 := hf i2 (by simp)
    have l1 := rv.length
    have l2 := rv2.length
    refine wpAny_pyNext_zip_end (I.ok.hd hc) A st.zip st.ti hto st.l st.r p.isList p2.isList (hx.imp (fun z => by simp; omega) fun z => by simp; omega) fun h' hk => ⟨rfl,?_⟩
    have nin:∀ {c:Addr},c ∉ [z,TO,i1,i2] -> c ≠ z /\ c ≠ TO /\ c ≠ i1 /\ c ≠ i2 := fun hn => ⟨fun z => hn (by simp [z]),fun z => hn (by simp [z]),fun z => hn (by simp [z]),fun z => hn (by simp [z])⟩
    refine I.step (t' := s.toks) (g' := s.gens) (d' := s.drawn) (ch := [z,TO,i1,i2]) (fun c hb => ?_) (fun c o _ _ hn q _ => let ⟨n1,n2,n3,n4⟩ := nin hn; hk c o n1 n2 n3 n4 q)
      (fun c o _ _ hn q _ => let ⟨n1,n2,n3,n4⟩ := nin hn; ⟨o.slots,hk c o n1 n2 n3 n4 q⟩) (fun c o _ q hH => hH)
      (fun c o hn q => let ⟨n1,n2,n3,n4⟩ := nin hn; ⟨o,hk c o n1 n2 n3 n4 q⟩) (fun c zs q => q)
      (fun c o' u' q => q) (fun c ps q => ⟨#[],by simp [q]⟩) (fun m hm => ?_) (fun c u' q => ?_) I.bare
    · simp only [List.mem_cons,List.not_mem_nil,or_false] at hb
      rcases hb with rfl | rfl | rfl | rfl
      · exact ⟨fz.2.2.2.1,fz.2.1,fz.2.2.2.2.1,fz.2.2.2.2.2⟩
      · exact ⟨fO.2.2.2.1,fO.2.1,fO.2.2.2.2.1,fO.2.2.2.2.2⟩
      · exact ⟨f1.2.2.2.1,f1.2.1,f1.2.2.2.2.1,f1.2.2.2.2.2⟩
      · exact ⟨f2.2.2.2.1,f2.2.1,f2.2.2.2.2.1,f2.2.2.2.2.2⟩
    · obtain ⟨o,es',ep,ho',r⟩ := hm
      exact ⟨o,es',ep,hk _ o (Ne.symm fz.2.1) (Ne.symm fO.2.1) (Ne.symm f1.2.1) (Ne.symm f2.2.1) ho',r⟩
    · refine (I.hok c u' q).stay (fun d v hc' q' => ?_) (fun d r => r) fun d zs r => r
      have tr:∃ w,H d = some w := hc'.elim (fun z => ⟨u',by rw [z]; exact q⟩) fun z => ⟨_,z⟩
      obtain ⟨w',hw'⟩ := tr
      exact hk d v (ne_of_none hw' fz.1) (ne_of_none hw' fO.1) (ne_of_none hw' f1.1) (ne_of_none hw' f2.1) q'
  self := fun A i s Q E st h => wpAny_pyIter_zip st.zip h
theorem zip_ne (n:Nat) : ZipNe (n + 4) (n + 2) (n + 3) n (n + 1) :=
  ⟨(show (n + 2:Nat) ≠ n + 4 by omega),(show (n + 3:Nat) ≠ n + 4 by omega),(show (n:Nat) ≠ n + 4 by omega),(show (n + 1:Nat) ≠ n + 4 by omega),(show (n + 2:Nat) ≠ n + 3 by omega),(show (n + 2:Nat) ≠ n by omega),(show (n + 2:Nat) ≠ n + 1 by omega),
    (show (n + 3:Nat) ≠ n by omega),(show (n + 3:Nat) ≠ n + 1 by omega),(show (n:Nat) ≠ n + 1 by omega)⟩
section
variable {X:Cx} {E:XK} {es:List Expr} {k:Nat} {tpos:Pos}
def zipD:List D -> List D -> List D
  | d :: ds,e :: es => .tup [d,e] :: zipD ds es
  | _,_ => []
theorem zipD_get:∀ (ds es:List D) (i:Nat),(zipD ds es)[i]? = (match ds[i]?,es[i]? with | some d,some e => some (.tup [d,e]) | _,_ => none)
  | [],_,_ => by simp [zipD]
  | d :: ds,[],i => by
    simp only [zipD,List.getElem?_nil]
    cases (d :: ds)[i]? <;> rfl
  | d :: ds,e :: es,0 => by simp [zipD]
  | d :: ds,e :: es,i + 1 => by simp only [zipD,List.getElem?_cons_succ]; exact zipD_get ds es i
theorem zipD_len:∀ (ds es:List D),(zipD ds es).length = min ds.length es.length
  | [],_ => by simp [zipD]
  | d :: ds,[] => by simp [zipD]
  | d :: ds,e :: es => by simp only [zipD,List.length_cons,zipD_len ds es]; omega
theorem walk_zip {K:PySem.W.Frag} {a b:Addr} {m:Addr -> Prop} {H:Hp} {ds es:List D} {vs ws:List V} (h:(H a = some (.lst vs) /\ m a) \/ ∃ o,H a = some (.frz o (.lst vs)) /\ m a) (h2:(H b = some (.lst ws) /\ m b) \/ ∃ o,H b = some (.frz o (.lst ws)) /\ m b)
    (is:IsAll H m ds vs) (is2:IsAll H m es ws) : Walk (Itz K a b) m H (zipD ds es) := by
  have st:∀ {c:Addr} {us:List V},((H c = some (.lst us) /\ m c) \/ ∃ o,H c = some (.frz o (.lst us)) /\ m c) -> ∀ H',(∀ a o,H a = some o -> (m a \/ fixd o) -> H' a = some o) -> SqL K H' c us := fun {c us} h H' k => by
    rcases h with ⟨h,hm⟩ | ⟨o,h,_⟩
    · exact .inl (.inl (k c _ h (.inl hm)))
    · exact .inl (.inr ⟨o,k c _ h (.inr True.intro)⟩)
  refine ⟨fun H' i d k e => ?_,fun H' k => ⟨vs,ws,st h H' k,st h2 H' k,by rw [zipD_len,is.length,is2.length]; omega⟩⟩
  rw [zipD_get] at e
  cases q:ds[i]? with
  | none => rw [q] at e; cases e
  | some d0 =>
    cases q2:es[i]? with
    | none => rw [q,q2] at e; cases e
    | some e0 =>
      rw [q,q2] at e
      have e:D.tup [d0,e0] = d := by simpa using e
      obtain ⟨v,ev,iv⟩ := (is.mono k fun _ _ _ z => z:IsAll H' m ds vs).get q
      obtain ⟨v2,ev2,iv2⟩ := (is2.mono k fun _ _ _ z => z:IsAll H' m es ws).get q2
      refine ⟨⟨vs,ws,v,v2,st h H' k,st h2 H' k,ev,ev2⟩,fun x H'' y => ?_⟩
      obtain ⟨p,x',y',hp,rfl,rfl,y1,y2⟩ := y
      have z1 := y1 vs (st h _ k)
      have z2 := y2 ws (st h2 _ k)
      rw [ev] at z1; cases z1
      rw [ev2] at z2; cases z2
      have sm:Same H' (upd H' p (.tup [v,v2])) := same_upd hp
      refine ⟨sm,?_⟩
      rw [<- e]
      exact ⟨p,_,rfl,upd_same,v,[v2],rfl,Is.same sm iv,v2,[],rfl,Is.same sm iv2,rfl⟩
theorem two_msk {g:Gd} {M:Addr -> Prop} {ρ:Pr} {r q:R} {a:Addr} (h:vmsk g M (rfrs [r,q]) ρ (rals [r,q]) a) : vmsk g M (r.fr && q.fr) ρ (r.al ++ q.al) a := by
  have e1:rfrs [r,q] = (r.fr && q.fr) := by simp [rfrs]
  have e2:rals [r,q] = r.al ++ q.al := by simp [rals]
  rw [e1,e2] at h
  exact h
end
section
variable {X:Cx} {E:XK}
def kI2 (k:Int -> Int -> Int) : List R -> Res R
  | [r,q] => match r.d,q.d with
    | .int i,.int j => .ok (.val (.int (k i j)) true [])
    | _,_ => .stuck
  | _ => .stuck
def kMin:List R -> Res R := kI2 fun i j => if j < i then j else i
theorem cd_I2 {f:Value} {k:Int -> Int -> Int} (h:CallR X f (fun xs H Q => ∃ i j,xs = [.int i,.int j] /\ Q (.int (k i j)) H)) : CallD X E f (kI2 k) := by
  refine ⟨_,h,fun g M ρ env σ H Q rs vs rep i p => ?_⟩
  match rs,i,p with
  | [r,q],i,p =>
    obtain ⟨v,w,rfl,i1,v2,w2,rfl,i2,i3⟩ := i
    cases i3
    have i1:Is H (vmsk g M (rfrs [r,q]) ρ (rals [r,q])) r.d v := i1
    have i2:Is H (vmsk g M (rfrs [r,q]) ρ (rals [r,q])) q.d v2 := i2
    unfold kI2 at p
    dsimp only at p
    cases z:r.d with
    | int a =>
      cases z2:q.d with
      | int b =>
        rw [z] at i1; rw [z2] at i2; rw [z,z2] at p
        cases i1; cases i2
        exact ⟨a,b,rfl,p _ M H (Ext.refl _ _) rep rfl⟩
      | _ => rw [z,z2] at p; exact p.elim
    | _ => rw [z] at p; exact p.elim
  | [],_,p => exact p.elim
  | [_],_,p => exact p.elim
  | _ :: _ :: _ :: _,_,p => exact p.elim
theorem cd_min (hc : X.calm = true) : CallD X E (.builtin "min") kMin := cd_I2 (call_min2 hc)
end
end L3
namespace L3
open PySem PySem.Spec PyProof.Rows L2
section
variable {X:Cx} {E:XK}
open Classical in
noncomputable def eqItem (H:Hp) (m:Addr -> Prop) (x:D) (u:Value) : Bool := decide (∃ d v,RelV v u /\ Is H m d v /\ eqD d x = true)
theorem eqItem_of {H:Hp} {m:Addr -> Prop} {x d:D} {v:V} {u:Value} (r:RelV v u) (h:Is H m d v) : eqItem H m x u = eqD d x := by
  unfold eqItem
  cases q:eqD d x with
  | true => exact @decide_eq_true _ (Classical.propDecidable _) ⟨d,v,r,h,q⟩
  | false =>
    refine @decide_eq_false _ (Classical.propDecidable _) fun ⟨d',v',r',h',q'⟩ => ?_
    have e := L2.RelV.inj r r'
    subst e
    have e := Is.inj h h'
    subst e
    rw [q] at q'; cases q'
theorem any_items {H:Hp} {m:Addr -> Prop} {x:D} : ∀ {ds:List D} {vs:List V} {us:List Value},IsAll H m ds vs -> Vals vs us -> us.any (eqItem H m x) = ds.any fun d => eqD d x
  | [],_,_,h,r => by cases h; cases r; rfl
  | d :: ds,_,_,h,r => by
    obtain ⟨v,w,rfl,h1,h2⟩ := h
    cases r with
    | cons r1 r2 => rw [List.any_cons,List.any_cons,eqItem_of r1 h1,any_items h2 r2]
def rInD (neg:Bool) (K:PySem.W.Frag) : R2 := fun x y H Q => ∃ p ds vs d m m',y = .ref p /\ (SqL K H p vs \/ SqT K H p vs) /\ IsAll H m ds vs /\ Is H m' d x /\ (D.deps ds <= 50 /\ d.dep <= 50) /\ Q (.bl (if neg then !(ds.any fun e => eqD e d) else ds.any fun e => eqD e d)) H
theorem mem_items {pins:List (Addr × Obj)} {σ:St} {H:Hp} {s:Shared} {m m':Addr -> Prop} {d:D} {x:V} {v:Value} {A:Around} (I:L2.Inv X pins σ H s) (hu:A.units + 50 < cLine) (hx:Is H m' d x) (hE:d.dep <= 50) (rx:RelV x v) :
    ∀ {ds:List D} {vs:List V} {us:List Value},IsAll H m ds vs -> Vals vs us -> D.deps ds <= 50 -> ∀ u ∈ us,SeqAt.EqAt A s u v (eqItem H m d u)
  | [],_,_,h,r,_ => fun u hu => by cases h; cases r; cases hu
  | e :: ds,_,_,h,r,hd => fun u hm => by
    obtain ⟨y,w,rfl,h1,h2⟩ := h
    have hd':max e.dep (D.deps ds) <= 50 := hd
    cases r with
    | cons r1 r2 =>
      rcases List.mem_cons.mp hm with rfl | hm
      · rw [eqItem_of r1 h1]
        exact eq_at I.hok 50 A hu (by omega) (by omega) (by omega) h1 hx r1 rx
      · exact mem_items I hu hx hE rx h2 r2 (by omega) u hm
theorem op_notInD (hu:X.A.units + 64 < cLine) : OpR X (compareOp .NotIn) (rInD true X.K) := by
  intro pins s σ H x y v u Q I rx ry h
  obtain ⟨p,ds,vs,d,m,m',rfl,hq,hi,hx,hd,q⟩ := h
  cases ry
  rcases hq with hq | hq
  · obtain ⟨its,r,pl,hz⟩ := I.list hq
    refine SeqAt.notIn_listAt (eqItem H m d) pl.isList (fun w hw => mem_items I (by show X.A.units + 1 + 50 < cLine; omega) hx hd.2 rx hi r hd.1 w (by simpa using hw)) ⟨.bl _,H,I,rfl,?_⟩
    rw [show its.toArray.any (eqItem H m d) = its.any (eqItem H m d) by simp,any_items hi r]
    exact q
  · obtain ⟨its,r,pl,hz⟩ := I.tuple hq
    refine SeqAt.notIn_tupleAt (eqItem H m d) pl (fun w hw => mem_items I (by show X.A.units + 1 + 50 < cLine; omega) hx hd.2 rx hi r hd.1 w (by simpa using hw)) ⟨.bl _,H,I,rfl,?_⟩
    rw [show its.toArray.any (eqItem H m d) = its.any (eqItem H m d) by simp,any_items hi r]
    exact q
def inD (neg:Bool) (x:D) (ds:List D) : Res R := if D.deps ds <= 50 /\ x.dep <= 50 then .ok (.val (.bl (if neg then !(ds.any fun e => eqD e x) else ds.any fun e => eqD e x)) true []) else .stuck
def oInG (neg:Bool) (a b:R) : Res R := match b.d with
  | .lst ds => inD neg a.d ds
  | .tup ds => inD neg a.d ds
  | _ => .stuck
def oNotIn:R -> R -> Res R := oInG true
theorem od_inG {neg:Bool} {f:Value -> Value -> Sem Value} (h:OpR X f (rInD neg X.K)) : OpD X E f (oInG neg) := by
  refine ⟨_,h,fun g M ρ env σ H Q ra rb x y rep i1 i2 p => ?_⟩
  unfold oInG at p
  have key:∀ ds,PostE X.mg E g M ρ env σ H Q (inD neg ra.d ds) -> (D.deps ds <= 50 /\ ra.d.dep <= 50) /\ Q (.bl (if neg then !(ds.any fun e => eqD e ra.d) else ds.any fun e => eqD e ra.d)) H := fun ds p => by
    unfold inD at p
    by_cases hd:D.deps ds <= 50 /\ ra.d.dep <= 50
    · rw [if_pos hd] at p; exact ⟨hd,p _ M H (Ext.refl _ _) rep rfl⟩
    · rw [if_neg hd] at p; exact p.elim
  cases e2:rb.d with
  | lst ds =>
    rw [e2] at p i2
    obtain ⟨a,vs,rfl,h1,h2⟩ := i2.rd
    obtain ⟨k1,k2⟩ := key ds p
    exact ⟨a,ds,vs,ra.d,_,_,rfl,.inl (.inl h1),h2,i1,k1,k2⟩
  | tup ds =>
    rw [e2] at p i2
    obtain ⟨a,vs,rfl,h1,h2⟩ := i2
    obtain ⟨k1,k2⟩ := key ds p
    exact ⟨a,ds,vs,ra.d,_,_,rfl,.inr (SqT.of h1),h2,i1,k1,k2⟩
  | _ => rw [e2] at p; exact p.elim
theorem od_notIn (hu:X.A.units + 64 < cLine) : OpD X E (compareOp .NotIn) oNotIn := od_inG (op_notInD hu)
end
end L3
namespace L2
open PySem PySem.Spec PySem.Calls PyProof.Rows
section
variable {K:PySem.W.Frag} {x C:Addr} {c:Value}
end
section
variable {X:Cx} {pins:List (Addr × Obj)} {σ:St} {H:Hp} {s:Shared} {x:Addr} {o:Obj}
end
section
variable {X:Cx} {hc:Str} {Ch:Addr} {np hpos pos epos:Pos} {b₀:Stmt} {suite:List Stmt} {ts:Addr -> Addr -> TS} {te:TX} {e:Expr} {i:Nat} {n:Str}
end
end L2
namespace L2
open PySem PySem.Spec PySem.Calls PyProof.Rows
section
variable {X:Cx} {i iw:Nat} {n y b1 b2:Str} {s1 s2:Str} {py p1 p2 p3 p4 p5 p6 p7 p8 p9 p10 p11 p12 p13 p14 p15 lp:Pos} {j1 j2} {T1:String} {Ch2:Addr}
end
end L2
namespace L3
open PySem PySem.Spec PyProof.Rows L2
section
variable {X:Cx} {E:XK} {i iw:Nat} {n y b1 b2:Str} {s1 s2:Str} {py p1 p2 p3 p4 p5 p6 p7 p8 p9 p10 p11 p12 p13 p14 p15 lp:Pos} {j1 j2} {T1:String} {Ch2:Addr}
variable {hc:Str} {Ch:Addr} {cs:List Str} {np hpos pos epos p cpos:Pos} {k:Nat} {f:Addr} {fd:FuncData} {ps:List Str} {F:List D -> Res R} {x:Str} {e:Expr} {es:List Expr} {fs:En -> Res (List R)}
end
end L3
namespace L3
open PySem PySem.Spec PyProof.Rows L2
def keyD:D -> Option Key
  | .int i => some (.inl i)
  | .str x => some (.inr x)
  | _ => none
def keysD:List D -> Option (List Key)
  | [] => some []
  | d :: ds => match keyD d,keysD ds with
    | some k,some ks => some (k :: ks)
    | _,_ => none
def keyT:D -> Option (List Key)
  | .tup ds => keysD ds
  | _ => none
def putKD (t:List (List Key × D)) (k:List Key) (d:D) : List (List Key × D) := if (t.any fun x => decide (x.1 = k)) = true then t.map (fun x => if x.1 = k then (x.1,d) else x) else t ++ [(k,d)]
section
variable {H:Hp} {m:Addr -> Prop}
theorem Is.key {d:D} {v:V} {k:Key} (h:Is H m d v) (e:keyD d = some k) : v = kV k := by
  cases d with
  | int i => cases e; exact h
  | str x => cases e; exact h
  | _ => cases e
theorem IsAll.keys:∀ {ds:List D} {vs:List V} {ks:List Key},IsAll H m ds vs -> keysD ds = some ks -> vs = ks.map kV
  | [],_,_,h,e => by cases h; cases e; rfl
  | d :: ds,_,ks,h,e => by
    obtain ⟨v,r,rfl,h1,h2⟩ := h
    unfold keysD at e
    cases q:keyD d with
    | none => rw [q] at e; cases e
    | some k =>
      cases q2:keysD ds with
      | none => rw [q,q2] at e; cases e
      | some ks' =>
        rw [q,q2] at e; cases e
        rw [h1.key q,IsAll.keys h2 q2]; rfl
theorem Is.keyT {d:D} {v:V} {k:List Key} (h:Is H m d v) (e:L3.keyT d = some k) : ∃ b,v = .ref b /\ H b = some (.tup (k.map kV)) := by
  cases d with
  | tup ds =>
    obtain ⟨a,vs,rfl,h1,h2⟩ := h
    have e:keysD ds = some k := e
    rw [IsAll.keys h2 e] at h1
    exact ⟨a,rfl,h1⟩
  | _ => cases e
def RKV (H:Hp) (m:Addr -> Prop) : List (List Key × V) -> List (List Key × D) -> Prop := Paired fun a b => a.1 = b.1 /\ Is H m b.2 a.2
theorem RKV.fst {a:List (List Key × V)} {b:List (List Key × D)} (r:RKV H m a b) : a.map Prod.fst = b.map Prod.fst := by
  induction r with
  | nil => rfl
  | cons h _ ih => rw [List.map_cons,List.map_cons,ih,h.1]
theorem RKV.snd {a:List (List Key × V)} {b:List (List Key × D)} (r:RKV H m a b) : IsAll H m (b.map Prod.snd) (a.map Prod.snd) := by
  induction r with
  | nil => rfl
  | cons h _ ih => exact ⟨_,_,rfl,h.2,ih⟩
theorem RKV.append {a c:List (List Key × V)} {b d:List (List Key × D)} (r:RKV H m a b) (s:RKV H m c d) : RKV H m (a ++ c) (b ++ d) := by
  induction r with
  | nil => exact s
  | cons h _ ih => exact .cons h ih
theorem RKV.any {a:List (List Key × V)} {b:List (List Key × D)} (r:RKV H m a b) (k:List Key) : (a.any fun x => decide (x.1 = k)) = (b.any fun x => decide (x.1 = k)) := by
  induction r with
  | nil => rfl
  | cons h _ ih => rw [List.any_cons,List.any_cons,ih,h.1]
theorem RKV.repl {a:List (List Key × V)} {b:List (List Key × D)} {k:List Key} {v:V} {d:D} (r:RKV H m a b) (h:Is H m d v) : RKV H m (a.map fun x => if x.1 = k then (x.1,v) else x) (b.map fun x => if x.1 = k then (x.1,d) else x) := by
  induction r with
  | nil => exact .nil
  | @cons p q ps qs hq t ih =>
    refine .cons ?_ ih
    dsimp only
    by_cases e:p.1 = k
    · rw [if_pos e,if_pos (hq.1 ▸ e)]; exact ⟨hq.1,h⟩
    · rw [if_neg e,if_neg (fun z => e (hq.1.trans z))]; exact hq
theorem RKV.put {a:List (List Key × V)} {b:List (List Key × D)} {k:List Key} {v:V} {d:D} (r:RKV H m a b) (h:Is H m d v) : RKV H m (putK a k v) (putKD b k d) := by
  unfold putK putKD
  rw [r.any k]
  split
  · exact r.repl h
  · exact r.append (.cons ⟨rfl,h⟩ .nil)
end
section
variable {X:Cx} {E:XK}
def keyX:D -> Option DK
  | .int i => some (.inl (.inl i))
  | .str x => some (.inl (.inr x))
  | .tup ds => (keysD ds).map .inr
  | _ => none
def kin:DK -> DK -> Bool
  | .inl _,.inl _ => true
  | .inr _,.inr _ => true
  | _,_ => false
def hasK (ks:List DK) (k:DK) : Bool := ks.any fun x => decide (x = k)
def inDic (neg:Bool) (a:D) (ks:List DK) : Res R := match keyX a with
  | some k => if ks.all (kin k) then .ok (.val (.bl (if neg then !hasK ks k else hasK ks k)) true []) else .stuck
  | none => .stuck
def oInH (neg:Bool) (a b:R) : Res R := match b.d with
  | .dic ks _ => inDic neg a.d ks
  | _ => oInG neg a b
def oNotInX:R -> R -> Res R := oInH true
def rInT (neg:Bool) : R2 := fun x y H Q => ∃ a o,y = .ref a /\ DGetX H a x o /\ Q (.bl (if neg then !o.isSome else o.isSome)) H
theorem op_notInT (hu:X.A.units + 64 < cLine) : OpR X (compareOp .NotIn) (rInT true) := by
  intro pins s σ H x y v u Q I rx ry h
  obtain ⟨a,o,rfl,g,q⟩ := h
  cases ry
  exact d_notInX (by omega) I g rx fun s' I' => ⟨.bl _,H,I',rfl,q⟩
theorem valV_has {κ:Type} [DecidableEq κ] {kvs:List (κ × V)} (inj:κ -> DK) (hi:∀ a b,inj a = inj b -> a = b) (k:κ) : (valV kvs k).isSome = hasK (kvs.map fun p => inj p.1) (inj k) := by
  unfold hasK
  induction kvs with
  | nil => rfl
  | cons p r ih =>
    rw [List.map_cons,List.any_cons]
    by_cases e:p.1 = k
    · rw [valV_pos e,decide_eq_true (congrArg inj e)]; rfl
    · rw [valV_neg e,ih,decide_eq_false (fun z => e (hi _ _ z)),Bool.false_or]
theorem Is.keyX {H:Hp} {m:Addr -> Prop} {d:D} {v:V} {k:DK} (h:Is H m d v) (e:L3.keyX d = some k) : (∃ k0,k = .inl k0 /\ v = kV k0) \/ ∃ k0 b,k = .inr k0 /\ v = .ref b /\ H b = some (.tup (k0.map kV)) := by
  cases d with
  | int i => cases e; exact .inl ⟨_,rfl,h⟩
  | str x => cases e; exact .inl ⟨_,rfl,h⟩
  | tup ds =>
    have e:(keysD ds).map Sum.inr = some k := e
    obtain ⟨k0,hk,rfl⟩ := Option.map_eq_some_iff.mp e
    obtain ⟨b,e1,e2⟩ := Is.keyT (d := .tup ds) h hk
    exact .inr ⟨k0,b,rfl,e1,e2⟩
  | _ => cases e
theorem dget_of {H:Hp} {a:Addr} {ks:List DK} {vs:List V} {m:Addr -> Prop} {d:D} {x:V} {k:DK} (h:DAt H a ks vs) (hx:Is H m d x) (e:L3.keyX d = some k) (hk:ks.all (kin k) = true) : ∃ o,DGetX H a x o /\ o.isSome = hasK ks k := by
  rcases hx.keyX e with ⟨k0,rfl,rfl⟩ | ⟨k0,b,rfl,rfl,hb⟩
  · rcases h with ⟨kvs,e1,rfl,rfl⟩ | ⟨kvs,e1,rfl,rfl⟩
    · exact ⟨_,.inl (.inl ⟨kvs,k0,e1,rfl,rfl⟩),valV_has Sum.inl (fun _ _ z => Sum.inl.inj z) k0⟩
    · cases kvs with
      | nil => exact ⟨none,.inr (.inl ⟨e1,⟨k0,rfl⟩,rfl⟩),rfl⟩
      | cons p r => simp [kin] at hk
  · rcases h with ⟨kvs,e1,rfl,rfl⟩ | ⟨kvs,e1,rfl,rfl⟩
    · cases kvs with
      | nil => exact ⟨none,.inr (.inr ⟨e1,⟨b,k0,rfl,hb⟩,rfl⟩),rfl⟩
      | cons p r => simp [kin] at hk
    · exact ⟨_,.inl (.inr ⟨kvs,k0,b,e1,rfl,hb,rfl⟩),valV_has Sum.inr (fun _ _ z => Sum.inr.inj z) k0⟩
theorem od_inH {neg:Bool} {f:Value -> Value -> Sem Value} (h1:OpD X E f (oInG neg)) (h2:OpR X f (rInT neg)) : OpD X E f (oInH neg) := by
  obtain ⟨r,o1,s1⟩ := h1
  refine ⟨_,o1.or h2,fun g M ρ env σ H Q ra rb x y rep i1 i2 p => ?_⟩
  unfold oInH at p
  cases q:rb.d with
  | dic ks ds =>
    right
    rw [q] at p i2
    dsimp only at p
    unfold inDic at p
    cases q2:keyX ra.d with
    | none => rw [q2] at p; exact p.elim
    | some k =>
      rw [q2] at p
      dsimp only at p
      by_cases hk:ks.all (kin k) = true
      · rw [if_pos hk] at p
        obtain ⟨a,vs,rfl,h1,h2⟩ := i2
        obtain ⟨o,g1,g2⟩ := dget_of h1.1 i1 q2 hk
        refine ⟨a,o,rfl,g1,?_⟩
        rw [g2]
        exact p _ M H (Ext.refl _ _) rep rfl
      · rw [if_neg hk] at p; exact p.elim
  | _ =>
    left
    refine s1 g M ρ env σ H Q ra rb x y rep i1 i2 ?_
    rw [q] at p
    exact p
theorem od_notInX (hu:X.A.units + 64 < cLine) : OpD X E (compareOp .NotIn) oNotInX := od_inH (od_notIn hu) (op_notInT hu)
end
end L3
namespace L3
open PySem PySem.Spec PyProof.Rows L2
section
variable {X:Cx} {E:XK}
end
end L3
namespace L3
open PySem PySem.Spec PyProof.Rows L2
end L3
namespace L3
open PySem PySem.Spec PyProof.Rows L2
def getD:List DK -> List D -> DK -> Option D
  | k' :: ks,d :: ds,k => if k' = k then some d else getD ks ds k
  | _,_,_ => none
section
variable {X:Cx} {E:XK}
end
end L3
namespace L3
open PySem PySem.Spec PyProof.Rows L2
def intsD:List D -> Option (List Int)
  | [] => some []
  | .int i :: r => (intsD r).map (i :: ·)
  | _ :: _ => none
section
variable {H:Hp} {m:Addr -> Prop}
theorem IsAll.ints:∀ {ds:List D} {vs:List V} {k:List Int},IsAll H m ds vs -> intsD ds = some k -> vs = (iK k).map kV
  | [],_,_,h,e => by cases h; cases e; rfl
  | d :: ds,_,k,h,e => by
    obtain ⟨v,r,rfl,h1,h2⟩ := h
    cases d with
    | int i =>
      unfold intsD at e
      obtain ⟨k',e1,rfl⟩ := Option.map_eq_some_iff.mp e
      rw [IsAll.ints h2 e1,show v = V.int i from h1]; rfl
    | _ => cases e
end
section
variable {X:Cx} {E:XK}
end
end L3
namespace L3
open PySem PySem.Spec PyProof.Rows L2
section
variable {H H':Hp} {m m':Addr -> Prop}
end
section
variable {g:Gd} {M:Addr -> Prop} {ρ:Pr} {env:En} {σ:St} {H:Hp} {d:Addr} {o:Obj} {u:HO}
open Classical in
end
section
variable {X:Cx} {E:XK} {tg:Expr}
end
end L3
namespace L3
open PySem PySem.Spec PyProof.Rows L2
section
variable {X:Cx} {E:XK} {tg:Expr}
end
def putE (t:List (Key × D)) (k:Key) (d:D) : List (Key × D) := if (t.any fun x => decide (x.1 = k)) = true then t.map (fun x => if x.1 = k then (x.1,d) else x) else t ++ [(k,d)]
section
variable {H:Hp} {m:Addr -> Prop}
def REK (H:Hp) (m:Addr -> Prop) : List (Key × V) -> List (Key × D) -> Prop := Paired fun a b => a.1 = b.1 /\ Is H m b.2 a.2
theorem REK.fst {a:List (Key × V)} {b:List (Key × D)} (r:REK H m a b) : a.map Prod.fst = b.map Prod.fst := by
  induction r with
  | nil => rfl
  | cons h _ ih => rw [List.map_cons,List.map_cons,ih,h.1]
theorem REK.snd {a:List (Key × V)} {b:List (Key × D)} (r:REK H m a b) : IsAll H m (b.map Prod.snd) (a.map Prod.snd) := by
  induction r with
  | nil => rfl
  | cons h _ ih => exact ⟨_,_,rfl,h.2,ih⟩
theorem REK.of:∀ {a:List (Key × V)} {b:List (Key × D)},a.map Prod.fst = b.map Prod.fst -> IsAll H m (b.map Prod.snd) (a.map Prod.snd) -> REK H m a b
  | [],[],_,_ => .nil
  | [],_ :: _,e,_ => by cases e
  | _ :: _,[],e,_ => by cases e
  | p :: a,q :: b,e,h => by
    obtain ⟨v,r,z,h1,h2⟩ := h
    cases z
    simp only [List.map_cons,List.cons.injEq] at e
    exact .cons ⟨e.1,h1⟩ (REK.of e.2 h2)
theorem REK.append {a c:List (Key × V)} {b d:List (Key × D)} (r:REK H m a b) (s:REK H m c d) : REK H m (a ++ c) (b ++ d) := by
  induction r with
  | nil => exact s
  | cons h _ ih => exact .cons h ih
theorem REK.any {a:List (Key × V)} {b:List (Key × D)} (r:REK H m a b) (k:Key) : (a.any fun x => decide (x.1 = k)) = (b.any fun x => decide (x.1 = k)) := by
  induction r with
  | nil => rfl
  | cons h _ ih => rw [List.any_cons,List.any_cons,ih,h.1]
theorem REK.repl {a:List (Key × V)} {b:List (Key × D)} {k:Key} {v:V} {d:D} (r:REK H m a b) (h:Is H m d v) : REK H m (a.map fun x => if x.1 = k then (x.1,v) else x) (b.map fun x => if x.1 = k then (x.1,d) else x) := by
  induction r with
  | nil => exact .nil
  | @cons p q ps qs hq t ih =>
    refine .cons ?_ ih
    dsimp only
    by_cases e:p.1 = k
    · rw [if_pos e,if_pos (hq.1 ▸ e)]; exact ⟨hq.1,h⟩
    · rw [if_neg e,if_neg (fun z => e (hq.1.trans z))]; exact hq
theorem REK.put {a:List (Key × V)} {b:List (Key × D)} {k:Key} {v:V} {d:D} (r:REK H m a b) (h:Is H m d v) : REK H m (putK a k v) (putE b k d) := by
  unfold putK putE
  rw [r.any k]
  split
  · exact r.repl h
  · exact r.append (.cons ⟨rfl,h⟩ .nil)
theorem REK.flat {m':Addr -> Prop} {a:List (Key × V)} {b:List (Key × D)} (hf:D.flats (b.map Prod.snd) = true) (r:REK H m a b) : REK H m' a b := REK.of r.fst (IsAll.flat hf r.snd)
theorem REK.same {H':Hp} (s:Same H H') {a:List (Key × V)} {b:List (Key × D)} (r:REK H m a b) : REK H' m a b := REK.of r.fst (IsAll.same s r.snd)
end
section
variable {X:Cx} {E:XK}
end
end L3
namespace L3
open PySem PySem.Spec PyProof.Rows L2
theorem REK.length {H:Hp} {m:Addr -> Prop} {a:List (Key × V)} {b:List (Key × D)} (r:REK H m a b) : a.length = b.length := Paired.length r
section
variable {X:Cx} {E:XK}
end
end L3
namespace L3
open PySem PySem.Spec PyProof.Rows L2
abbrev Tri := Int × Int × Int
def dd (l:List Int) (x:Int) : List Int := if x ∈ l then l else l ++ [x]
def ddup (xs:List Int) : List Int := xs.foldl dd []
def g1 (ts:List Tri) : List Int := ddup (ts.map (·.1))
def g2 (ts:List Tri) (x:Int) : List Int := ddup ((ts.filter fun t => decide (t.1 = x)).map (·.2.1))
def g3 (ts:List Tri) (x y:Int) : List Int := (ts.filter fun t => decide (t.1 = x) && decide (t.2.1 = y)).map (·.2.2)
def ik (i:Int) : DK := .inl (.inl i)
def grpI (ts:List Tri) (x:Int) : D := .dic ((g2 ts x).map ik) ((g2 ts x).map fun y => .lst ((g3 ts x y).map .int))
def grpD (ts:List Tri) : D := .dic ((g1 ts).map ik) ((g1 ts).map (grpI ts))
theorem ddup_snoc (xs:List Int) (x:Int) : ddup (xs ++ [x]) = dd (ddup xs) x := by unfold ddup; rw [List.foldl_append]; rfl
theorem dd_mem (l:List Int) (x y:Int) : y ∈ dd l x ↔ y ∈ l \/ y = x := by
  unfold dd
  split
  · rename_i h
    exact ⟨.inl,fun z => z.elim id fun e => e ▸ h⟩
  · simp
theorem g1_snoc (ts:List Tri) (x y z:Int) : g1 (ts ++ [(x,y,z)]) = dd (g1 ts) x := by
  unfold g1; rw [List.map_append]; exact ddup_snoc _ _
theorem g2_snoc (ts:List Tri) (x y z u:Int) : g2 (ts ++ [(x,y,z)]) u = if x = u then dd (g2 ts u) y else g2 ts u := by
  unfold g2
  rw [List.filter_append,List.map_append]
  by_cases h:x = u
  · rw [if_pos h]
    have:([(x,y,z)] : List Tri).filter (fun t => decide (t.1 = u)) = [(x,y,z)] := by simp [h]
    rw [this]; exact ddup_snoc _ _
  · rw [if_neg h]
    have:([(x,y,z)] : List Tri).filter (fun t => decide (t.1 = u)) = [] := by simp [h]
    rw [this]; simp
theorem g3_snoc (ts:List Tri) (x y z u v:Int) : g3 (ts ++ [(x,y,z)]) u v = if x = u /\ y = v then g3 ts u v ++ [z] else g3 ts u v := by
  unfold g3
  rw [List.filter_append,List.map_append]
  by_cases h:x = u /\ y = v
  · rw [if_pos h]
    have:([(x,y,z)] : List Tri).filter (fun t => decide (t.1 = u) && decide (t.2.1 = v)) = [(x,y,z)] := by simp [h.1,h.2]
    rw [this]; rfl
  · rw [if_neg h]
    have:([(x,y,z)] : List Tri).filter (fun t => decide (t.1 = u) && decide (t.2.1 = v)) = [] := by
      rw [List.filter_cons,if_neg,List.filter_nil]
      simpa using h
    rw [this]; simp
theorem ddup_mem (y:Int) : ∀ (xs:List Int) (l:List Int),y ∈ xs.foldl dd l ↔ y ∈ l \/ y ∈ xs
  | [],l => by simp
  | x :: xs,l => by
    rw [List.foldl_cons,ddup_mem y xs,dd_mem,List.mem_cons,or_assoc]
theorem g1_mem (ts:List Tri) (x:Int) : x ∈ g1 ts ↔ ∃ t ∈ ts,t.1 = x := by
  unfold g1 ddup; rw [ddup_mem]; simp
theorem g2_mem (ts:List Tri) (x y:Int) : y ∈ g2 ts x ↔ ∃ t ∈ ts,t.1 = x /\ t.2.1 = y := by
  unfold g2 ddup; rw [ddup_mem,List.mem_map]
  constructor
  · rintro (h | ⟨t,h1,h2⟩)
    · simp at h
    · rw [List.mem_filter] at h1
      exact ⟨t,h1.1,by simpa using h1.2,h2⟩
  · rintro ⟨t,h1,h2,h3⟩
    exact .inr ⟨t,List.mem_filter.mpr ⟨h1,by simpa using h2⟩,h3⟩
theorem g2_none {ts:List Tri} {x:Int} (h:x ∉ g1 ts) : g2 ts x = [] := by
  rw [List.eq_nil_iff_forall_not_mem]
  intro y hy
  obtain ⟨t,h1,h2,_⟩ := (g2_mem ts x y).mp hy
  exact h ((g1_mem ts x).mpr ⟨t,h1,h2⟩)
theorem g3_none {ts:List Tri} {x y:Int} (h:y ∉ g2 ts x) : g3 ts x y = [] := by
  unfold g3
  rw [List.map_eq_nil_iff,List.filter_eq_nil_iff]
  intro t ht z
  simp only [Bool.and_eq_true,decide_eq_true_eq] at z
  exact h ((g2_mem ts x y).mpr ⟨t,ht,z.1,z.2⟩)
def kvI (l:List Int) (A:Int -> Addr) : List (Key × V) := l.map fun x => (.inl x,.ref (A x))
structure Gr (H:Hp) (a:Addr) (ts:List Tri) (A:Int -> Addr) (B:Int -> Int -> Addr) : Prop where
  root:H a = some (.dK (kvI (g1 ts) A)) \/ (g1 ts = [] /\ H a = some (.dT []))
  inn:∀ x ∈ g1 ts,H (A x) = some (.dK (kvI (g2 ts x) (B x)))
  leaf:∀ x y,y ∈ g2 ts x -> H (B x y) = some (.lst ((g3 ts x y).map .int))
  d1:∀ x ∈ g1 ts,A x ≠ a
  d2:∀ x ∈ g1 ts,∀ x' ∈ g1 ts,A x = A x' -> x = x'
  d3:∀ x y,y ∈ g2 ts x -> ∀ x' y',y' ∈ g2 ts x' -> B x y = B x' y' -> x = x' /\ y = y'
def InT (a:Addr) (ts:List Tri) (A:Int -> Addr) (B:Int -> Int -> Addr) (b:Addr) : Prop := b = a \/ (∃ x ∈ g1 ts,b = A x) \/ ∃ x y,y ∈ g2 ts x /\ b = B x y
section
variable {H:Hp} {a:Addr} {ts:List Tri} {A:Int -> Addr} {B:Int -> Int -> Addr} {x y z:Int}
theorem Gr.first (G:Gr H a ts A B) (hx:x ∉ g1 ts) {b l:Addr} (hb:H b = none) (hl:H l = none) (hbl:b ≠ l) {H':Hp} (hm:H' l = some (.lst [.int z])) (hi:H' b = some (.dK [(.inl y,.ref l)])) (ha:H' a = some (.dK (kvI (g1 ts ++ [x]) fun u => if u = x then b else A u)))
    (kp:∀ c u,H c = some u -> c ≠ a -> H' c = some u) (han:H a ≠ none) : Gr H' a (ts ++ [(x,y,z)]) (fun u => if u = x then b else A u) (fun u v => if u = x /\ v = y then l else B u v) := by
  have e1:g1 (ts ++ [(x,y,z)]) = g1 ts ++ [x] := by rw [g1_snoc]; unfold dd; rw [if_neg hx]
  have ex:g2 (ts ++ [(x,y,z)]) x = [y] := by rw [g2_snoc,if_pos rfl,g2_none hx]; rfl
  have e2:∀ u,u ≠ x -> g2 (ts ++ [(x,y,z)]) u = g2 ts u := fun u hu => by rw [g2_snoc,if_neg (Ne.symm hu)]
  have o1:∀ u,u ∈ g1 (ts ++ [(x,y,z)]) -> u ≠ x -> u ∈ g1 ts := fun u hu hn => by
    rw [e1] at hu
    rcases List.mem_append.mp hu with q | q
    · exact q
    · exact (hn (by simpa using q)).elim
  have old:∀ u v,v ∈ g2 (ts ++ [(x,y,z)]) u -> ¬ (u = x /\ v = y) -> u ≠ x /\ v ∈ g2 ts u := fun u v hv hn => by
    by_cases h:u = x
    · subst h
      rw [ex] at hv
      exact (hn ⟨rfl,by simpa using hv⟩).elim
    · rw [e2 u h] at hv; exact ⟨h,hv⟩
  have nA:∀ u ∈ g1 ts,A u ≠ b := fun u hu e => by have := G.inn u hu; rw [e,hb] at this; cases this
  refine ⟨.inl (by rw [e1]; exact ha),fun u hu => ?_,fun u v hv => ?_,fun u hu => ?_,fun u hu u' hu' e => ?_,fun u v hv u' v' hv' e => ?_⟩
  · by_cases h : u = x
    · subst h
      rw [if_pos rfl,ex,hi]
      simp [kvI]
    · rw [if_neg h,e2 u h]
      have:(fun v => if u = x /\ v = y then l else B u v) = B u := by funext v; rw [if_neg (fun z => h z.1)]
      rw [this]
      exact kp _ _ (G.inn u (o1 u hu h)) (G.d1 u (o1 u hu h))
  · rw [g3_snoc]
    by_cases h:u = x /\ v = y
    · obtain ⟨rfl,rfl⟩ := h
      rw [if_pos ⟨rfl,rfl⟩,if_pos ⟨rfl,rfl⟩,g3_none (by rw [g2_none hx]; simp)]; exact hm
    · rw [if_neg h,if_neg (fun q => h ⟨q.1.symm,q.2.symm⟩)]
      obtain ⟨hu,hv'⟩ := old u v hv h
      refine kp _ _ (G.leaf u v hv') fun e => ?_
      have := G.leaf u v hv'
      rcases G.root with q | ⟨_,q⟩ <;> (rw [e,q] at this; cases this)
  · by_cases h:u = x
    · rw [if_pos h]; exact fun e => han (by rw [<- e]; exact hb)
    · rw [if_neg h]; exact G.d1 u (o1 u hu h)
  · try dsimp only at e
    by_cases h:u = x <;> by_cases h':u' = x
    · exact h.trans h'.symm
    · rw [if_pos h,if_neg h'] at e; exact (nA u' (o1 u' hu' h') e.symm).elim
    · rw [if_neg h,if_pos h'] at e; exact (nA u (o1 u hu h) e).elim
    · rw [if_neg h,if_neg h'] at e; exact G.d2 u (o1 u hu h) u' (o1 u' hu' h') e
  · have nl:∀ u v,v ∈ g2 (ts ++ [(x,y,z)]) u -> ¬ (u = x /\ v = y) -> B u v ≠ l := fun u v hv hn e => by
      have := G.leaf u v (old u v hv hn).2
      rw [e,hl] at this; cases this
    try dsimp only at e
    by_cases h:u = x /\ v = y <;> by_cases h':u' = x /\ v' = y
    · exact ⟨h.1.trans h'.1.symm,h.2.trans h'.2.symm⟩
    · rw [if_pos h,if_neg h'] at e; exact (nl u' v' hv' h' e.symm).elim
    · rw [if_neg h,if_pos h'] at e; exact (nl u v hv h e).elim
    · rw [if_neg h,if_neg h'] at e; exact G.d3 u v (old u v hv h).2 u' v' (old u' v' hv' h').2 e
end
theorem isAll_map {H:Hp} {m:Addr -> Prop} {F:Int -> D} {G:Int -> V} : ∀ {l:List Int},(∀ x ∈ l,Is H m (F x) (G x)) -> IsAll H m (l.map F) (l.map G)
  | [],_ => rfl
  | x :: l,h => ⟨_,_,rfl,h x List.mem_cons_self,isAll_map fun y hy => h y (List.mem_cons_of_mem _ hy)⟩
theorem isAll_intV {H:Hp} {m:Addr -> Prop} : ∀ (k:List Int),IsAll H m (k.map .int) (k.map .int)
  | [] => rfl
  | i :: k => ⟨.int i,_,rfl,rfl,isAll_intV k⟩
theorem Gr.is {H:Hp} {a:Addr} {ts:List Tri} {A:Int -> Addr} {B:Int -> Int -> Addr} (G:Gr H a ts A B) : Is H (InT a ts A B) (grpD ts) (.ref a) := by
  have keys:∀ (l:List Int) (C:Int -> Addr),l.map ik = (kvI l C).map (fun p => .inl p.1) := fun l C => by unfold kvI; rw [List.map_map]; rfl
  have vals:∀ (l:List Int) (C:Int -> Addr),(kvI l C).map Prod.snd = l.map fun x => .ref (C x) := fun l C => by unfold kvI; rw [List.map_map]; rfl
  have inner:∀ x ∈ g1 ts,Is H (InT a ts A B) (grpI ts x) (.ref (A x)) := fun x hx => by
    refine ⟨A x,(g2 ts x).map fun y => .ref (B x y),rfl,⟨.inl ⟨_,.inl (G.inn x hx),keys _ _,(vals _ _).symm⟩,.inr (.inl ⟨x,hx,rfl⟩)⟩,isAll_map fun y hy => ?_⟩
    exact ⟨B x y,_,rfl,.inl ⟨G.leaf x y hy,.inr (.inr ⟨x,y,hy,rfl⟩)⟩,isAll_intV _⟩
  refine ⟨a,(g1 ts).map fun x => .ref (A x),rfl,⟨?_,.inl rfl⟩,isAll_map inner⟩
  rcases G.root with q | ⟨q,e⟩
  · exact .inl ⟨_,.inl q,keys _ _,(vals _ _).symm⟩
  · rw [q]; exact .inr ⟨[],.inl e,rfl,rfl⟩
end L3
namespace L3
open PySem PySem.Spec PyProof.Rows L2
end L3
namespace L3
open PySem PySem.Spec PyProof.Rows L2
section
variable {X:Cx} {E:XK} {tg:Expr}
end
end L3
namespace L3
open PySem PySem.Spec PyProof.Rows L2
end L3
namespace L3
open PySem PySem.Spec PyProof.Rows L2
section
variable {X:Cx}
end
section
variable {g:Gd} {M M2 M':Addr -> Prop} {ρ:Pr} {env:En} {σ:St} {H H1 H':Hp} {d:Addr} {o:Obj} {u:HO} {m m':Addr -> Prop}
end
section
variable {X:Cx} {E:XK} {scope:Scope} {tg:Expr} {tN:List Str} {capN:List Str} {caps:List Nat} {ix:List Nat} {asg:D -> Bool -> En -> Option En} {elt iter:Expr} {pos:Pos} {ifs:List Expr} {f:En -> Res R} {ft:En -> Res Bool} {fe:En -> Res R}
end
section
variable {X:Cx} {E:XK} {g:Gd} {M:Addr -> Prop} {ρ:Pr} {env:En} {σ:St} {H:Hp} {D:Ends} {d:Addr} {o:Obj} {u:HO}
end
end L3
namespace L3
open PySem PySem.Spec PyProof.Rows L2
open Classical in
section
variable {P:Program} {w:World} {K:PySem.W.Frag} {mg:Str -> Option Value} {base:Heap}
end
section
variable {X:Cx} {E:XK}
end
end L3
namespace L3
open PySem PySem.Spec PyProof.Rows L2
def leafD (l:List Int) : D := .dic ((ddup l).map ik) ((ddup l).map fun _ => .bl true)
def grqI (ts:List Tri) (x:Int) : D := .dic ((g2 ts x).map ik) ((g2 ts x).map fun y => leafD (g3 ts x y))
def grqD (ts:List Tri) : D := .dic ((g1 ts).map ik) ((g1 ts).map (grqI ts))
def kvT (l:List Int) : List (Key × V) := (ddup l).map fun z => (.inl z,.bl true)
structure Gq (H:Hp) (a:Addr) (ts:List Tri) (A:Int -> Addr) (B:Int -> Int -> Addr) : Prop where
  root:H a = some (.dK (kvI (g1 ts) A)) \/ (g1 ts = [] /\ H a = some (.dT []))
  inn:∀ x ∈ g1 ts,H (A x) = some (.dK (kvI (g2 ts x) (B x)))
  leaf:∀ x y,y ∈ g2 ts x -> H (B x y) = some (.dK (kvT (g3 ts x y)))
  d1:∀ x ∈ g1 ts,A x ≠ a
  d2:∀ x ∈ g1 ts,∀ x' ∈ g1 ts,A x = A x' -> x = x'
  d3:∀ x y,y ∈ g2 ts x -> ∀ x' y',y' ∈ g2 ts x' -> B x y = B x' y' -> x = x' /\ y = y'
  d4:∀ u ∈ g1 ts,∀ x y,y ∈ g2 ts x -> A u ≠ B x y
  d5:∀ x y,y ∈ g2 ts x -> B x y ≠ a
section
variable {H:Hp} {a:Addr} {ts:List Tri} {A:Int -> Addr} {B:Int -> Int -> Addr} {x y z:Int}
theorem Gq.first (G:Gq H a ts A B) (hx:x ∉ g1 ts) {b l:Addr} (hb:H b = none) (hl:H l = none) (hbl:b ≠ l) {H':Hp} (hm:H' l = some (.dK (kvT [z]))) (hi:H' b = some (.dK [(.inl y,.ref l)])) (ha:H' a = some (.dK (kvI (g1 ts ++ [x]) fun u => if u = x then b else A u)))
    (kp:∀ c u,H c = some u -> c ≠ a -> H' c = some u) (han:H a ≠ none) : Gq H' a (ts ++ [(x,y,z)]) (fun u => if u = x then b else A u) (fun u v => if u = x /\ v = y then l else B u v) := by
  have e1:g1 (ts ++ [(x,y,z)]) = g1 ts ++ [x] := by rw [g1_snoc]; unfold dd; rw [if_neg hx]
  have ex:g2 (ts ++ [(x,y,z)]) x = [y] := by rw [g2_snoc,if_pos rfl,g2_none hx]; rfl
  have e2:∀ u,u ≠ x -> g2 (ts ++ [(x,y,z)]) u = g2 ts u := fun u hu => by rw [g2_snoc,if_neg (Ne.symm hu)]
  have o1:∀ u,u ∈ g1 (ts ++ [(x,y,z)]) -> u ≠ x -> u ∈ g1 ts := fun u hu hn => by
    rw [e1] at hu
    rcases List.mem_append.mp hu with q | q
    · exact q
    · exact (hn (by simpa using q)).elim
  have old:∀ u v,v ∈ g2 (ts ++ [(x,y,z)]) u -> ¬ (u = x /\ v = y) -> u ≠ x /\ v ∈ g2 ts u := fun u v hv hn => by
    by_cases h:u = x
    · subst h
      rw [ex] at hv
      exact (hn ⟨rfl,by simpa using hv⟩).elim
    · rw [e2 u h] at hv; exact ⟨h,hv⟩
  have nA:∀ u ∈ g1 ts,A u ≠ b := fun u hu e => by have := G.inn u hu; rw [e,hb] at this; cases this
  refine ⟨.inl (by rw [e1]; exact ha),fun u hu => ?_,fun u v hv => ?_,fun u hu => ?_,fun u hu u' hu' e => ?_,fun u v hv u' v' hv' e => ?_,fun u hu x' y' hy' => ?_,fun x' y' hy' => ?_⟩
  · by_cases h : u = x
    · subst h
      rw [if_pos rfl,ex,hi]
      simp [kvI]
    · rw [if_neg h,e2 u h]
      have:(fun v => if u = x /\ v = y then l else B u v) = B u := by funext v; rw [if_neg (fun z => h z.1)]
      rw [this]
      exact kp _ _ (G.inn u (o1 u hu h)) (G.d1 u (o1 u hu h))
  · rw [g3_snoc]
    by_cases h:u = x /\ v = y
    · obtain ⟨rfl,rfl⟩ := h
      rw [if_pos ⟨rfl,rfl⟩,if_pos ⟨rfl,rfl⟩,g3_none (by rw [g2_none hx]; simp)]; exact hm
    · rw [if_neg h,if_neg (fun q => h ⟨q.1.symm,q.2.symm⟩)]
      obtain ⟨hu,hv'⟩ := old u v hv h
      exact kp _ _ (G.leaf u v hv') (G.d5 u v hv')
  · by_cases h:u = x
    · rw [if_pos h]; exact fun e => han (by rw [<- e]; exact hb)
    · rw [if_neg h]; exact G.d1 u (o1 u hu h)
  · try dsimp only at e
    by_cases h:u = x <;> by_cases h':u' = x
    · exact h.trans h'.symm
    · rw [if_pos h,if_neg h'] at e; exact (nA u' (o1 u' hu' h') e.symm).elim
    · rw [if_neg h,if_pos h'] at e; exact (nA u (o1 u hu h) e).elim
    · rw [if_neg h,if_neg h'] at e; exact G.d2 u (o1 u hu h) u' (o1 u' hu' h') e
  · have nl:∀ u v,v ∈ g2 (ts ++ [(x,y,z)]) u -> ¬ (u = x /\ v = y) -> B u v ≠ l := fun u v hv hn e => by
      have := G.leaf u v (old u v hv hn).2
      rw [e,hl] at this; cases this
    try dsimp only at e
    by_cases h:u = x /\ v = y <;> by_cases h':u' = x /\ v' = y
    · exact ⟨h.1.trans h'.1.symm,h.2.trans h'.2.symm⟩
    · rw [if_pos h,if_neg h'] at e; exact (nl u' v' hv' h' e.symm).elim
    · rw [if_neg h,if_pos h'] at e; exact (nl u v hv h e).elim
    · rw [if_neg h,if_neg h'] at e; exact G.d3 u v (old u v hv h).2 u' v' (old u' v' hv' h').2 e
  · try dsimp only
    by_cases hu1:u = x
    · rw [if_pos hu1]
      by_cases h:x' = x /\ y' = y
      · rw [if_pos h]; exact hbl
      · rw [if_neg h]; exact (ne_of_none (G.leaf x' y' (old x' y' hy' h).2) hb).symm
    · rw [if_neg hu1]
      by_cases h:x' = x /\ y' = y
      · rw [if_pos h]; exact ne_of_none (G.inn u (o1 u hu hu1)) hl
      · rw [if_neg h]; exact G.d4 u (o1 u hu hu1) x' y' (old x' y' hy' h).2
  · try dsimp only
    by_cases h:x' = x /\ y' = y
    · rw [if_pos h]; exact fun e => han (by rw [<- e]; exact hl)
    · rw [if_neg h]; exact G.d5 x' y' (old x' y' hy' h).2
end
theorem Gq.is {H:Hp} {a:Addr} {ts:List Tri} {A:Int -> Addr} {B:Int -> Int -> Addr} (G:Gq H a ts A B) : Is H (InT a ts A B) (grqD ts) (.ref a) := by
  have keys:∀ (l:List Int) (C:Int -> Addr),l.map ik = (kvI l C).map (fun p => .inl p.1) := fun l C => by unfold kvI; rw [List.map_map]; rfl
  have vals:∀ (l:List Int) (C:Int -> Addr),(kvI l C).map Prod.snd = l.map fun x => .ref (C x) := fun l C => by unfold kvI; rw [List.map_map]; rfl
  have inner:∀ x ∈ g1 ts,Is H (InT a ts A B) (grqI ts x) (.ref (A x)) := fun x hx => by
    refine ⟨A x,(g2 ts x).map fun y => .ref (B x y),rfl,⟨.inl ⟨_,.inl (G.inn x hx),keys _ _,(vals _ _).symm⟩,.inr (.inl ⟨x,hx,rfl⟩)⟩,isAll_map fun y hy => ?_⟩
    refine ⟨B x y,(kvT (g3 ts x y)).map Prod.snd,rfl,⟨.inl ⟨_,.inl (G.leaf x y hy),?_,rfl⟩,.inr (.inr ⟨x,y,hy,rfl⟩)⟩,?_⟩
    · unfold kvT; rw [List.map_map]; rfl
    · unfold kvT; rw [List.map_map]; exact isAll_map fun _ _ => rfl
  refine ⟨a,(g1 ts).map fun x => .ref (A x),rfl,⟨?_,.inl rfl⟩,isAll_map inner⟩
  rcases G.root with q | ⟨q,e⟩
  · exact .inl ⟨_,.inl q,keys _ _,(vals _ _).symm⟩
  · rw [q]; exact .inr ⟨[],.inl e,rfl,rfl⟩
section
variable {X:Cx} {E:XK} {tg:Expr}
end
end L3
namespace L3
open PySem PySem.Spec PyProof.Rows L2
section
variable {X:Cx} {E:XK}
def fSetV (i:Nat) (f:En -> Res R) : En -> Res Fl := fun env => (f env).bind fun r => if i < env.length then .ok (.nx ((frz env r.al).set i (some (.val r.d r.fr)))) else .stuck
theorem psd_setV {i:Nat} {x:Str} {e:Expr} {f:En -> Res R} {pos pos':Pos} (hN:X.N.Nodup) (hi:X.N[i]? = some x) (hx:Loc X.env.scope x) (h:PD X E e f) (hs:swapsWith e (some (.Name x pos')) pos.line X.env = pure false := by rfl)
    (hf:X.fn x = true \/ X.env.scope.names.lookup x = some .local := by first | exact .inl rfl | exact .inr rfl | assumption) : PSD X E (.Assign [.Name x pos'] e pos) (fSetV i f) := by
  obtain ⟨t,p1,s1⟩ := h
  refine ⟨_,ps_set hN hi hx p1 hs hf,fun g M ρ env σ H D rep p => ?_⟩
  refine s1.oneS rep p fun r v M' H' e rep' ro p' => ?_
  by_cases hi:i < env.length
  · rw [if_pos hi] at p'
    obtain ⟨M2,x2,x2m,rep2,is2⟩ := ro.is rep' e rep.same
    obtain ⟨M3,ρ3,x3,rep3,o3,_,_⟩ := Rep.frz r.al rep2
    have rep4 := rep3.put (i := i) (sl := .val r.d r.fr) (T := fun _ => False) (by rw [frz_len]; exact hi) (Is.frozen rep2 x3 o3 is2) (fun _ z => z.elim) fun _ z => z.elim
    exact p' _ M3 _ H' ⟨fun a z => x3 a (x2m a z),fun _ _ q _ => q⟩ rep4
  · rw [if_neg hi] at p'; exact p'.elim
def kMinX:List R -> Res R
  | [r] => match r.d with
    | .lst ds => match intsD ds with
      | some ns => if ns.isEmpty then .stuck else .ok (.val (.int (minL ns)) true [])
      | none => .stuck
    | _ => .stuck
  | rs => kMin rs
theorem cd_minX (hc : X.calm = true) : CallD X E (.builtin "min") kMinX := by
  obtain ⟨r0,c0,s0⟩ := cd_min (X := X) (E := E) hc
  refine ⟨fun xs H Q => (∃ p ns,xs = [.ref p] /\ SqL X.K H p (ns.map V.int) /\ ns ≠ [] /\ Q (.int (minL ns)) H) \/ r0 xs H Q,fun pins s σ H xs us Q I r h => h.elim (call_minL hc pins s σ H xs us Q I r) (c0 pins s σ H xs us Q I r),fun g M ρ env σ H Q rs vs rep i p => ?_⟩
  match rs,i,p with
  | [r],i,p =>
    left
    unfold kMinX at p
    dsimp only at p
    obtain ⟨v,w,rfl,i1,i2⟩ := i
    cases i2
    have i1:Is H (vmsk g M (rfrs [r]) ρ (rals [r])) r.d v := i1
    cases q:r.d with
    | lst ds =>
      rw [q] at p i1
      dsimp only at p
      obtain ⟨a,ws,rfl,h1,h2⟩ := i1.rd
      cases qi:intsD ds with
      | none => rw [qi] at p; exact p.elim
      | some ns =>
        rw [qi] at p
        dsimp only at p
        by_cases hn:ns.isEmpty = true
        · rw [if_pos hn] at p; exact p.elim
        · rw [if_neg hn] at p
          have ew:ws = ns.map V.int := by rw [h2.ints qi]; unfold iK; rw [List.map_map]; rfl
          rw [ew] at h1
          exact ⟨a,ns,rfl,.inl h1,fun z => hn (by rw [z]; rfl),p _ M H (Ext.refl _ _) rep rfl⟩
    | _ => rw [q] at p; exact p.elim
  | [],i,p => exact .inr (s0 g M ρ env σ H Q [] vs rep i p)
  | r :: r' :: rs',i,p => exact .inr (s0 g M ρ env σ H Q (r :: r' :: rs') vs rep i p)
theorem qv (i : Nat) {x : Str} {pos : Pos} (hN : X.N[i]? = some x := by rfl) (hv : Vis X.env.scope x := by first | exact Or.inl rfl | exact Or.inr (Or.inl rfl) | exact Or.inr (Or.inr rfl)) (hd : (x == ("__debug__" : Str)) = false := by decide)
    (hc : (x == ("__classdict__" : Str)) = false := by decide) : PD X E (.Name x pos) (vVar i) := pd_var (pv i hN hv hd hc)
end
end L3
namespace L2
open PySem PySem.Spec PyProof.Rows
section
variable {X:Cx}
def rSlS:V -> Option Int -> Option Int -> Hp -> VK -> Prop := fun x lo hi H Q => ∃ z,x = .str z /\ z.length <= sizeLine /\ Q (.str (Txt.slice z lo hi)) H
theorem sl_str:SlR X rSlS := by
  intro pins s σ H x v vl vu lo hi sl Q I rx hs pl pu h
  obtain ⟨z,rfl,hz,q⟩ := h
  obtain ⟨t,rfl⟩ := rx
  obtain ⟨o,e1,e2,e3⟩ := hs
  refine ⟨"str", _, slot_str_getitem.lookup, typeIs_str _ _ _, ?_⟩
  have fin:∀ t' k,EP X pins σ Q (.str (Txt.slice z lo hi) t') { s with toks := k } := fun t' k => ⟨.str _,H,I.tok _,⟨_,rfl⟩,q⟩
  have hl := Nat.le_trans (Txt.slice_le z lo hi) hz
  cases pl with
  | none => cases pu with
    | none => exact wpAny_getItem_str_slice (l := none) (u := none) (st := none) ⟨o,e1,e2,e3⟩ rfl (post_val_or_str ⟨hl,fin⟩)
    | int j u => exact wpAny_getItem_str_slice (l := none) (u := some (j,u)) (st := none) ⟨o,e1,e2,e3⟩ rfl (post_val_or_str ⟨hl,fin⟩)
  | int i t1 => cases pu with
    | none => exact wpAny_getItem_str_slice (l := some (i,t1)) (u := none) (st := none) ⟨o,e1,e2,e3⟩ rfl (post_val_or_str ⟨hl,fin⟩)
    | int j u => exact wpAny_getItem_str_slice (l := some (i,t1)) (u := some (j,u)) (st := none) ⟨o,e1,e2,e3⟩ rfl (post_val_or_str ⟨hl,fin⟩)
end
end L2
namespace L3
open PySem PySem.Spec PyProof.Rows L2
section
variable {X:Cx} {E:XK}
def oCutX (r:R) (lo hi:Option Int) : Res R := match r.d with
  | .lst xs => .ok (mkL (cutA xs lo hi) r.fr r.al)
  | .tup xs => .ok (mkV (.tup (cutA xs lo hi)) r.fr r.al)
  | .str z => if z.length <= lim then .ok (.val (.str (Txt.slice z lo hi)) true []) else .stuck
  | _ => .stuck
def vSliceX (fa:En -> Res R) (fl fh:En -> Res (Option Int)) : En -> Res R := fun env => (fa env).bind fun r => (fl env).bind fun lo => (fh env).bind fun hi => oCutX r lo hi
theorem pd_sliceX {e:Expr} {lo hi:Option Expr} {fa:En -> Res R} {fl fh:En -> Res (Option Int)} {p2 pos:Pos} (ha:PD X E e fa) (hl:POD X E lo fl) (hh:POD X E hi fh) : PD X E (.Subscript e (.Slice lo hi none p2) pos) (vSliceX fa fl fh) := by
  obtain ⟨ta,p1,s1⟩ := ha
  obtain ⟨tl,p2,s2⟩ := hl
  obtain ⟨th,p3,s3⟩ := hh
  refine ⟨_,pe_slice (sl_list.or (sl_tup.or (sl_tupW.or sl_str))) p1 p2 p3,fun g M ρ env σ H Q rep p => s1.oneE rep p fun r v M1 H1 e1 rep1 is q => ?_⟩
  refine s2 g M1 ρ env σ H1 _ rep1 ?_
  cases z1:fl env with
  | stuck => rw [z1] at q; exact q
  | exc c => rw [z1] at q; exact q
  | ok lo' =>
    rw [z1] at q
    intro M2 H2 e2 rep2
    have q2:PostE X.mg E g M2 ρ env σ H2 Q ((fh env).bind fun hi => oCutX r lo' hi) := PostE.ext e2 q
    refine s3 g M2 ρ env σ H2 _ rep2 ?_
    cases z2:fh env with
    | stuck => rw [z2] at q2; exact q2
    | exc c => rw [z2] at q2; exact q2
    | ok hi' =>
      rw [z2] at q2
      intro M3 H3 e3 rep3
      have q3:PostE X.mg E g M3 ρ env σ H3 Q (oCutX r lo' hi') := PostE.ext e3 q2
      have is3 := (is.ext e2).ext e3
      unfold oCutX at q3
      cases z:r.d with
      | lst xs =>
        rw [z] at q3 is3
        obtain ⟨a,vs,rfl,h1,h2⟩ := is3.rd
        exact .inl ⟨a,vs,rfl,.inl h1,fun p hp => q3.lst rep3 hp (h2.cut lo' hi')⟩
      | tup xs =>
        rw [z] at q3 is3
        have is4 := is3
        obtain ⟨a,vs,rfl,h1,h2⟩ := is3
        by_cases hw:HT.sIx vs.length 0 lo' = 0 /\ HT.sIx vs.length vs.length hi' = vs.length
        · have ec:cutA xs lo' hi' = xs := by
            unfold cutA
            rw [<- h2.length,hw.1,hw.2,h2.length]
            simp
          dsimp only at q3
          rw [ec] at q3
          exact .inr (.inr (.inl ⟨a,vs,rfl,SqT.of h1,hw,q3.val rep3 is4⟩))
        · exact .inr (.inl ⟨a,vs,rfl,SqT.of h1,hw,fun p hp => q3.tup rep3 hp (h2.cut lo' hi')⟩)
      | str y =>
        rw [z] at q3 is3
        dsimp only at q3
        by_cases hw:y.length <= lim
        · rw [if_pos hw] at q3
          cases is3
          exact .inr (.inr (.inr ⟨y,rfl,lim_le hw,q3 _ M3 H3 (Ext.refl _ _) rep3 rfl⟩))
        · rw [if_neg hw] at q3; exact q3.elim
      | _ => rw [z] at q3; exact q3.elim
def oPow:R -> R -> Res R := oI (fun i j => decide (0 <= j) && decide (j <= 1000) && decide (i.natAbs < 1000)) fun i j => .int (i ^ j.toNat)
theorem od_pow:OpD X E (binaryOp .Pow) oPow := opd_I _ _ op_pow (fun i j h => by
  simp only [Bool.and_eq_true,decide_eq_true_eq] at h
  exact ⟨h.1.1,by omega,Nat.lt_trans h.2 (by decide)⟩) fun _ _ _ _ => rfl
end
end L3
namespace L3
open PySem PySem.Spec PyProof.Rows L2
def Takes2 (K:PySem.W.Frag) (mg:Str -> Option Value) (Ch Ch2:Addr) (cs:List Str) : Prop := ∀ c ∈ cs,∃ C,XC K mg c C /\ (mroK K C).contains (.ref Ch) = false /\ (mroK K C).contains (.ref Ch2) = true
def kTry2 (cs cs2:List Str) (s1 s2:Res Fl) (c:Str) : Res Fl := if cs.contains c then s1.quiet else if cs2.contains c then s2.quiet else .stuck
def fTryA2 (i:Nat) (F:List D -> Res R) (fs:En -> Res (List R)) (cs:List Str) (suite:En -> Res Fl) (cs2:List Str) (suite2:En -> Res Fl) : En -> Res Fl := fun env => (fs env).noX.bind fun rs => match F (rs.map R.d) with
  | .ok r => if i < env.length then .ok (.nx (put env i (callR rs r))) else .stuck
  | .exc c => kTry2 cs cs2 (suite env) (suite2 env) c
  | .stuck => .stuck
section
variable {X:Cx} {E:XK} {hc hc2:Str} {Ch Ch2:Addr} {cs cs2:List Str} {np hpos np2 hpos2 pos epos p cpos:Pos} {b₀ c₀:Stmt} {suite suite2:List Stmt} {fsu fsu2:En -> Res Fl} {k:Nat} {f:Addr} {fd:FuncData} {ps:List Str} {F:List D -> Res R} {x:Str} {e:Expr} {es:List Expr} {fs:En -> Res (List R)}
theorem take_ok2 {ts ts2:TS} {g:Gd} {M M1:Addr -> Prop} {ρ:Pr} {env:En} {σ:St} {H H1:Hp} {D:Ends} {c:Str} (ht:Takes X.K X.mg Ch cs) (ht2:Takes2 X.K X.mg Ch Ch2 cs2) (ss:SndS X.mg E0 ts fsu) (ss2:SndS X.mg E0 ts2 fsu2) (e1:Ext M H M1 H1) (rep1:Rep g M1 ρ env σ H1)
    (p:PostS X.mg E g M H D (kTry2 cs cs2 (fsu env) (fsu2 env) c)) : ∀ cls dx H',X.mg c = some cls -> Same H1 H' -> tTake2 X Ch Ch2 ts ts2 D σ cls dx H' := by
  intro cls dx H' hm s
  unfold kTry2 at p
  by_cases hcs:cs.contains c = true
  · rw [if_pos hcs] at p
    obtain ⟨C,hX,hmr⟩ := ht c (List.contains_iff_mem.mp hcs)
    have e := hX.gl
    rw [hm] at e
    cases e
    refine ⟨C,rfl,hX.ex,.inl ⟨hmr,ss g M1 ρ env σ H' D (rep1.grow s) ?_⟩⟩
    exact (PostS.frz (e1.frz.trans ⟨fun _ z => z,fun a o e _ => s a o e⟩) p).quiet
  · rw [if_neg hcs] at p
    by_cases hcs2:cs2.contains c = true
    · rw [if_pos hcs2] at p
      obtain ⟨C,hX,hmf,hmr⟩ := ht2 c (List.contains_iff_mem.mp hcs2)
      have e := hX.gl
      rw [hm] at e
      cases e
      refine ⟨C,rfl,hX.ex,.inr ⟨hmf,hmr,ss2 g M1 ρ env σ H' D (rep1.grow s) ?_⟩⟩
      exact (PostS.frz (e1.frz.trans ⟨fun _ z => z,fun a o e _ => s a o e⟩) p).quiet
    · rw [if_neg hcs2] at p; exact p.elim
theorem psd_tryA2 {i:Nat} {y:Str} {py:Pos} (hN:X.N.Nodup) (hi:X.N[i]? = some y) (hy:Loc X.env.scope y) (hst:X.stack = X.env :: X.outer) (hf:X.env.frame = some X.env.locals) (hx:XC X.K X.mg hc Ch) (hgh:Gl X hc) (hx2:XC X.K X.mg hc2 Ch2) (hgh2:Gl X hc2) (ht:Takes X.K X.mg Ch cs) (ht2:Takes2 X.K X.mg Ch Ch2 cs2)
    (G:FnOk X.prog X.w X.K X.mg X.base (CX1 X.prog X.w) k f fd ps (spD X.mg ps.length F)) (hr:Room k X.A) (hg:Gl X x) (hm:X.mg x = some (.ref f)) (hk:PySem.W.keepIn X.K (.ref f) = true) (hb:Binds X.K fd ps [])
    (ha:PAD X.nox E0 (e :: es) fs) (hl:∀ env rs,fs env = .ok rs -> rs.length = ps.length) (hs:∀ x,PSsD (X.caught x) E0 (b₀ :: suite) fsu) (hs2:∀ x,PSsD (X.caught x) E0 (c₀ :: suite2) fsu2)
    (hsw : swapsWith (.Call (.Name x p) (e :: es) [] cpos) (some (.Name y py)) epos.line X.env = pure false := by rfl) (hdb : (hc == ("__debug__" : Str)) = false := by decide) (hdb3 : (hc2 == ("__debug__" : Str)) = false := by decide)
    (hdb2 : (x == ("__debug__" : Str)) = false := by decide) (he : starEach (e :: es) X.env = (false, eval e X.env) :: starEach es X.env := by rfl) (hpl : (backTo cpos (starEach es X.env)).any (·.1) = false := by rfl)
    (hfn:X.fn y = true \/ X.env.scope.names.lookup y = some .local := by first | exact .inl rfl | exact .inr rfl | assumption) :
    PSD X E (.Try [.Assign [.Name y py] (.Call (.Name x p) (e :: es) [] cpos) epos] [.ExceptHandler (some (.Name hc np)) none (b₀ :: suite) hpos,.ExceptHandler (some (.Name hc2 np2)) none (c₀ :: suite2) hpos2] [] [] pos) (fTryA2 i F fs cs fsu cs2 fsu2) := by
  obtain ⟨ta,p1,s1⟩ := ha
  have any:∀ {b:Stmt} {l:List Stmt} {fu:En -> Res Fl},(∀ x,PSsD (X.caught x) E0 (b :: l) fu) -> ∃ ts,(∀ x,PSs (X.caught x) (b :: l) ts) /\ SndS X.mg E0 ts fu := fun {b l fu} hs =>
    ⟨fun D σ H => ∀ x t,PSs (X.caught x) (b :: l) t -> SndS X.mg E0 t fu -> t D σ H,fun x pins s σ H D I h => by
      obtain ⟨t,p2,s2⟩ := hs x
      exact p2 pins s σ H D I (h x t p2 s2),fun g M ρ env σ H D rep p x t _ s2 => s2 g M ρ env σ H D rep p⟩
  obtain ⟨ts,hts⟩ := any hs
  obtain ⟨ts2,hts2⟩ := any hs2
  refine ⟨_,ps_tryA2 hN hi hy hst hf hx hgh hx2 hgh2 (pex_call (dvs := []) (ds := []) G hr hg hm hk hb .nil p1 hdb2 he hpl) hts.1 hts2.1 hsw hdb hdb3 hfn,fun g M ρ env σ H D rep p => ?_⟩
  refine s1 g M ρ env σ H _ rep ?_
  unfold fTryA2 at p
  cases q:fs env with
  | stuck => rw [q] at p; exact p.elim
  | exc c' => rw [q] at p; exact p.elim
  | ok rs =>
    rw [q] at p
    have p:PostS X.mg E g M H D (match F (rs.map R.d) with | .ok r => if i < env.length then .ok (.nx (put env i (callR rs r))) else .stuck | .exc c => kTry2 cs cs2 (fsu env) (fsu2 env) c | .stuck => .stuck) := p
    intro vs M1 H1 e1 rep1 is
    rw [List.append_nil]
    refine ⟨by rw [is.length,List.length_map]; exact hl env rs q,rs.map R.d,_,is,?_⟩
    cases qF:F (rs.map R.d) with
    | stuck => simp only [qF] at p; exact p
    | exc c =>
      simp only [qF] at p
      exact take_ok2 ht ht2 hts.2 hts2.2 e1 rep1 p
    | ok r =>
      simp only [qF] at p
      intro v H2 s2 ro
      by_cases hil:i < env.length
      · rw [if_pos hil] at p
        obtain ⟨M3,e3,rep3,ro3⟩ := RetOk.caller rs rep1 s2 ro
        obtain ⟨M4,ρ4,f4,rep4⟩ := rep3.store rep1.same hil ro3
        exact p _ M4 ρ4 H2 ((e1.frz.trans e3.frz).trans f4) rep4
      · rw [if_neg hil] at p; exact p.elim
end
end L3
namespace L3
open PySem PySem.Spec PyProof.Rows L2
section
variable {X:Cx} {E:XK}
def smallN (ns:List Int) : Bool := ns.all (fun n => decide (0 <= n) && decide (n < 1000000)) && decide (ns.length <= lim)
def kSum:List R -> Res R
  | [r] => match r.d with
    | .lst ds => match intsD ds with
      | some ns => if smallN ns then .ok (.val (.int ns.sum) true []) else .stuck
      | none => .stuck
    | _ => .stuck
  | _ => .stuck
theorem preSum_take (ns:List Int) : ∀ j,j <= ns.length -> preSum (fun i => (ns[i]?).getD 0) j = (ns.take j).sum
  | 0,_ => by simp [preSum]
  | j + 1,h => by
    have hj:j < ns.length := h
    rw [preSum,preSum_take ns j (Nat.le_of_lt h),List.take_succ_eq_append_getElem hj,List.sum_append]
    simp [hj]
theorem sum_small:∀ (ns:List Int),(∀ n ∈ ns,0 <= n /\ n < 1000000) -> 0 <= ns.sum /\ ns.sum <= 1000000 * ns.length
  | [],_ => by simp
  | n :: ns,h => by
    have h1 := h n (by simp)
    have h2 := sum_small ns fun m hm => h m (by simp [hm])
    rw [List.sum_cons,List.length_cons]
    omega
theorem call_sumL (hc : X.calm = true) : CallR X (.builtin "sum") (fun xs H Q => ∃ (p : Addr) (ns : List Int), xs = [.ref p] /\ SqL X.K H p (ns.map V.int) /\ smallN ns = true /\ Q (.int ns.sum) H) := by
  intro pins s σ H xs us Q I r h
  obtain ⟨p,ns,rfl,hq,hsm,q⟩ := h
  obtain ⟨u,rfl,rx⟩ := vals1 r
  cases rx
  obtain ⟨its,rv,pl,hz⟩ := I.list hq
  have hh:X.A.in1.handled = none := I.ok.hd hc
  obtain ⟨o,ho,_⟩ := pl.isList
  have hlt:p < s.heap.objs.size := Heap.lt_size ho
  have hl := rv.length
  rw [List.length_map] at hl
  unfold smallN at hsm
  simp only [Bool.and_eq_true,List.all_eq_true,decide_eq_true_eq] at hsm
  obtain ⟨hsm,hlen⟩ := hsm
  unfold lim at hlen
  refine call_sum_walk (wpAny_pyIter_list pl.isList ?_)
  refine ⟨s.heap.objs.size,_,_,_,_,_,fun i => (ns[i]?).getD 0,rfl,Walks.list hh s.heap.objs.size p (Nat.ne_of_lt hlt) its.toArray,⟨⟨_,Heap.get?_push_size _ rfl,rfl,rfl⟩,?_⟩,?_,?_,?_,fun h' tk t' hk => ?_⟩
  · exact pl.isList.at fun o e => Heap.get?_push_of_some _ e
  · intro b hb
    rw [Heap.size_push]
    rcases List.mem_cons.mp hb with e | hb
    · rw [e]; exact Nat.lt_succ_self _
    · rcases List.mem_cons.mp hb with e | hb
      · rw [e]; exact Nat.lt_succ_of_lt hlt
      · cases hb
  · intro i v hv
    have hv:its[i]? = some v := by simpa using hv
    have hi:i < its.length := (List.getElem?_eq_some_iff.mp hv).1
    have hb:i < ns.length := by omega
    obtain ⟨u',hu,ru⟩ := rv.get (i := i) (x := .int ns[i]) (by simp [hb])
    rw [hv] at hu; cases hu
    obtain ⟨t,rfl⟩ := ru
    exact ⟨t,by simp [hb]⟩
  · intro j hj
    have hj:j < ns.length := by rw [List.size_toArray] at hj; omega
    have a1 := hsm ns[j] (List.getElem_mem hj)
    have a2 := sum_small (ns.take (j + 1)) fun n hn => hsm n (List.mem_of_mem_take hn)
    rw [preSum_take ns (j + 1) hj]
    have a3:(ns.take (j + 1)).length <= 1000000 := by rw [List.length_take]; omega
    unfold InLong
    simp only [hj,getElem?_pos,Option.getD_some]
    constructor <;> omega
  · have e:preSum (fun i => (ns[i]?).getD 0) its.toArray.size = ns.sum := by
      rw [List.size_toArray,<- hl,preSum_take ns ns.length (Nat.le_refl _),List.take_length]
    rw [e]
    refine ⟨.int _,H,?_,⟨_,rfl⟩,q⟩
    have I1 : L2.Inv X pins σ H { s with heap := s.heap.push { cls := .type "list_iterator", data := .fields #[.ref p, .int 0 0] } } := I.kept (t' := s.toks) fun b o e => Heap.get?_push_of_some _ e
    have fo := I.fpOk (H' := H) (Nat.le_refl s.heap.objs.size) (I.hok.fresh (Nat.le_refl _))
    exact I1.turned (t' := tk) (it := s.heap.objs.size) (fun b o hb e => hk b o (by simpa using hb) e) fo.1 fo.2.1 fo.2.2.2.1 fo.2.2.2.2.1 fo.2.2.2.2.2
theorem cd_sum (hc : X.calm = true) : CallD X E (.builtin "sum") kSum := by
  refine ⟨_,call_sumL hc,fun g M ρ env σ H Q rs vs rep i p => ?_⟩
  match rs,i,p with
  | [r],i,p =>
    unfold kSum at p
    dsimp only at p
    obtain ⟨v,w,rfl,i1,i2⟩ := i
    cases i2
    have i1:Is H (vmsk g M (rfrs [r]) ρ (rals [r])) r.d v := i1
    cases q:r.d with
    | lst ds =>
      rw [q] at p i1
      dsimp only at p
      obtain ⟨a,ws,rfl,h1,h2⟩ := i1.rd
      cases qi:intsD ds with
      | none => rw [qi] at p; exact p.elim
      | some ns =>
        rw [qi] at p
        dsimp only at p
        by_cases hn:smallN ns = true
        · rw [if_pos hn] at p
          have ew:ws = ns.map V.int := by rw [h2.ints qi]; unfold iK; rw [List.map_map]; rfl
          rw [ew] at h1
          exact ⟨a,ns,rfl,.inl h1,hn,p _ M H (Ext.refl _ _) rep rfl⟩
        · rw [if_neg hn] at p; exact p.elim
    | _ => rw [q] at p; exact p.elim
  | [],_,p => exact p.elim
  | _ :: _ :: _,_,p => exact p.elim
end
end L3
namespace L3
open PySem PySem.Spec PyProof.Rows L2
theorem IsAll.ptw {H:Hp} {m:Addr -> Prop} : ∀ {ds:List D} {vs:List V},vs.length = ds.length -> (∀ (i:Nat) d v,ds[i]? = some d -> vs[i]? = some v -> Is H m d v) -> IsAll H m ds vs
  | [],[],_,_ => rfl
  | [],_ :: _,h,_ => by simp at h
  | _ :: _,[],h,_ => by simp at h
  | d :: ds,v :: vs,h,f => ⟨v,vs,rfl,f 0 d v rfl rfl,IsAll.ptw (by simpa using h) fun i d' v' e1 e2 => f (i + 1) d' v' (by simpa using e1) (by simpa using e2)⟩
section
variable {X:Cx} {E:XK} {scope:Scope} {tg:Expr} {tN:List Str} {capN:List Str} {caps:List Nat} {iter:Expr} {pos lpos:Pos} {src:En -> Res Src}
def fDis (i:Nat) (src:En -> Res Src) : En -> Res Fl := fun env => (src env).bind fun s => if s.xs.length <= lim /\ i < env.length then .ok (.nx (env.set i (some (.dis (.lst (s.xs.map fun _ => .lst [])))))) else .stuck
theorem psd_dis {i:Nat} {y:Str} {py spos:Pos} (hc:X.calm = true) (S:CScope X scope tN capN caps) (hN:X.N.Nodup) (hi':X.N[i]? = some y) (hy:X.env.scope.names.lookup y = some .local)
    (hi:PID X E tg iter src) (hg:∀ cl C s3 H3 fp,PG (compX X scope (tN ++ capN) cl C s3 H3 fp) tg (gName 0)) (h0:0 < tN.length)
    (hsw:swapsWith (.ListComp (.List [] lpos) [⟨tg,iter,[],0⟩] scope pos) (some (.Name y py)) spos.line X.env = pure true := by rfl) (hs:∀ x,foldedSetIterable iter X.env x = pure x := by intro _; rfl) :
    PSD X E (.Assign [.Name y py] (.ListComp (.List [] lpos) [⟨tg,iter,[],0⟩] scope pos) spos) (fDis i src) := by
  obtain ⟨wi,p1,s1⟩ := hi
  refine ⟨fun D σ H => wi σ H (CompGoal X scope tg tN capN caps (.List [] lpos) [] σ fun Dl _ H' => D.nx (σ.set i (some (.ref Dl))) H'),fun pins s σ H D I h => ps_compS hc S hN hi' hy hsw I p1 h hs,fun g M ρ env σ H D rep p => ?_⟩
  refine s1 g M ρ env σ H _ rep ?_
  unfold fDis at p
  cases q:src env with
  | stuck => rw [q] at p; exact p
  | exc c => rw [q] at p; exact p
  | ok s =>
    rw [q] at p
    simp only [Res.bind_ok] at p
    intro J M1 H1 e1 rep1 wk Dl hDl cl C s3 fp
    by_cases hlim:s.xs.length <= lim /\ i < env.length
    · rw [if_pos hlim] at p
      have kp:∀ {H2:Hp},Same H1 H2 -> ∀ a o,H1 a = some o -> (vmsk g M1 s.fr ρ s.al a \/ fixd o) -> H2 a = some o := fun sm a o e _ => sm a o e
      refine ⟨gName 0,fun _ H Q => Q true H,tLst tNil,fun k m acc H2 => m = s.xs.length - k /\ k <= s.xs.length /\ acc.length = k /\ Same H1 H2 /\ H2 Dl = some (.lst acc) /\ ∃ as:List Addr,acc = as.map V.ref /\ as.Nodup /\ ∀ a ∈ as,a ≠ Dl /\ H1 a = none /\ H2 a = some (.lst []),
        hg cl C s3 _ fp,pts_nil,pe_lst pa_nil,⟨_,rfl,Nat.zero_le _,rfl,same_upd hDl,upd_same,[],rfl,List.nodup_nil,fun _ z => by cases z⟩,?_⟩
      rintro k m acc H2 ⟨rfl,hle,hacc,sm,hD2,as,rfl,nd,has⟩
      refine ⟨hD2,?_⟩
      by_cases hlt:k < s.xs.length
      · obtain ⟨go,yl⟩ := wk.go H2 k s.xs[k] (kp sm) (by simp [hlt])
        refine .inr ⟨go,fun xv H3 o yy lo => ?_⟩
        obtain ⟨s23,_⟩ := yl xv H3 yy
        refine ⟨fun j hj => List.getElem?_set_ne (by omega),iteT ⟨Nat.zero_le _,fun b hb => ?_⟩⟩
        have nbD:b ≠ Dl := fun e => by rw [e,s23 _ _ hD2] at hb; cases hb
        have hb2:H2 b = none := s23.free hb
        have hb1:H1 b = none := sm.free hb2
        refine ⟨by rw [upd_ne (Ne.symm nbD)]; exact s23 _ _ hD2,by rw [hacc]; exact lim_lt (by omega),s.xs.length - (k + 1),by omega,rfl,hlt,by simp [<- hacc],fun a u e => ?_,upd_same,as ++ [b],by simp,?_,fun a ha => ?_⟩
        · rw [upd_ne (ne_of_none e hDl),upd_ne (ne_of_none e hb1)]; exact s23 _ _ (sm _ _ e)
        · refine List.nodup_append.mpr ⟨nd,by simp,fun a ha c hc' => ?_⟩
          have:c = b := by simpa using hc'
          subst this
          intro e; subst e
          rw [(has a ha).2.2] at hb2; cases hb2
        · rcases List.mem_append.mp ha with ha | ha
          · obtain ⟨n1,n2,n3⟩ := has a ha
            refine ⟨n1,n2,?_⟩
            rw [upd_ne n1,upd_ne (fun e => by subst e; rw [n3] at hb2; cases hb2)]
            exact s23 _ _ n3
          · have:a = b := by simpa using ha
            subst this
            exact ⟨nbD,hb1,by rw [upd_ne nbD,upd_same]⟩
      · have ei:k = s.xs.length := by omega
        subst ei
        refine .inl ⟨wk.stop H2 (kp sm),?_⟩
        have rep2 := rep1.grow sm
        have hlen:as.length = s.xs.length := by simpa using hacc
        have fresh:∀ a,(a = Dl \/ a ∈ as) -> H1 a = none := fun a z => z.elim (fun e => by rw [e]; exact hDl) fun z => (has a z).2.1
        have cell:∀ a,(a = Dl \/ a ∈ as) -> ∃ vs,H2 a = some (.lst vs) := fun a z => z.elim (fun e => ⟨as.map V.ref,by rw [e]; exact hD2⟩) fun z => ⟨[],(has a z).2.2⟩
        have rep3 := rep2.put (i := i) (sl := .dis (.lst (s.xs.map fun _ => .lst []))) (v := .ref Dl) (T := fun a => a = Dl \/ a ∈ as) hlim.2 ⟨⟨Dl,as.map V.ref,rfl,.inl ⟨hD2,.inl rfl⟩,IsAll.ptw (by simp [hlen]) fun j d v ed ev => ?_⟩,Dl,as.map V.ref,rfl,.inl rfl,.inl hD2,?_,fun j k b ej ek => ?_⟩ fun a z => ?_
        · exact p _ M1 _ H2 (e1.frz.trans ⟨fun _ z => z,fun a o e _ => sm a o e⟩) rep3
        · rw [List.getElem?_map] at ed ev
          obtain ⟨a,ea,rfl⟩ := Option.map_eq_some_iff.mp ev
          obtain ⟨x,_,rfl⟩ := Option.map_eq_some_iff.mp ed
          have ha := List.mem_of_getElem? ea
          exact ⟨a,[],rfl,.inl ⟨(has a ha).2.2,.inr ha⟩,rfl⟩
        · intro z
          obtain ⟨a,ha,e⟩ := List.mem_map.mp z
          cases e
          exact (has _ ha).1 rfl
        · rw [List.getElem?_map] at ej ek
          obtain ⟨a,ea,e1⟩ := Option.map_eq_some_iff.mp ej
          obtain ⟨c,ec,e2⟩ := Option.map_eq_some_iff.mp ek
          cases e1; cases e2
          have hj := (List.getElem?_eq_some_iff.mp ea).1
          exact (List.getElem?_inj hj nd).mp (by rw [ea,ec])
        · obtain ⟨vs,hv⟩ := cell a z
          obtain ⟨f0,f1,f2⟩ := rep1.free (fresh a z)
          exact ⟨f1,f0,Mu.lst hv,fun j _ => f2 j⟩
    · rw [if_neg hlim] at p; exact p.elim
end
section
variable {X:Cx} {E:XK}
def lstFlat:D -> Bool
  | .lst es => D.flats es
  | _ => false
def kAppDis3 (i:Nat) (env:En) (ds:List D) (j:Nat) (es:List D) (rv:R) : Res Fl := if rv.d.flat /\ es.length < lim /\ ds.all lstFlat then .ok (.nx (env.set i (some (.dis (.lst (ds.set j (.lst (es ++ [rv.d])))))))) else .stuck
def kAppDis2 (i:Nat) (fv:En -> Res R) (env:En) (ds:List D) : Option Nat -> Res Fl
  | some j => match ds[j]? with
    | some (.lst es) => (fv env).bind (kAppDis3 i env ds j es)
    | _ => .stuck
  | none => .stuck
def kAppDis1 (i:Nat) (fv:En -> Res R) (env:En) (ds:List D) (re:R) : Res Fl := match re.d with
  | .int k => kAppDis2 i fv env ds (ixN ds.length k)
  | _ => .stuck
def fAppDis (i:Nat) (fe fv:En -> Res R) : En -> Res Fl := fun env => match env[i]? with
  | some (some (.dis (.lst ds))) => (fe env).bind (kAppDis1 i fv env ds)
  | _ => .stuck
theorem psd_appDis {i:Nat} {a b e:Expr} {fe fv:En -> Res R} {spos apos cpos pos:Pos} (ha:PE X a (tVar i)) (hb:PD X E b fe) (h:PD X E e fv) (hs:PlainIx b)
    (hbase : attributeBase (.Subscript a b spos) "append" X.env (eval (.Subscript a b spos) X.env) = eval (.Subscript a b spos) X.env := by rfl)
    (hfew:((backTo cpos (starEach [e] X.env)).all (fun x => !x.1) && (backToKw cpos (keywordEach [] X.env)).all (fun x => x.1.isSome)
      && decide (([e] : List Expr).length + ([] : List Keyword).length + (if ([] : List Keyword).isEmpty then 0 else 1) < 30)) = true := by rfl)
    (hline:(apos.endLine == cpos.line) = true := by rfl) (hse:starEach [e] X.env = (false,eval e X.env) :: starEach [] X.env := by rfl) (hplain:(backTo cpos (starEach [] X.env)).any (·.1) = false := by rfl)
    (hsw : swapsWith (.Call (.Attribute (.Subscript a b spos) "append" apos) [e] [] cpos) none pos.line X.env = pure false := by rfl) :
    PSD X E (.Expr (.Call (.Attribute (.Subscript a b spos) "append" apos) [e] [] cpos) pos) (fAppDis i fe fv) := by
  obtain ⟨tb,p2,s2⟩ := hb
  obtain ⟨t,p1,s1⟩ := h
  refine ⟨_,ps_expr (pe_bm PySem.F.plainAttrs_list PySem.F.slot_list_append PySem.F.type_list_append mt_append (pe_ix ix_list ha p2 hs) (pa_cons p1 pa_nil hse) hbase hfew hline hse hplain) hsw,fun g M ρ env σ H D rep p => ?_⟩
  unfold fAppDis at p
  split at p
  · rename_i ds e1
    have hi:i < env.length := (List.getElem?_eq_some_iff.mp e1).1
    obtain ⟨v,ev,⟨root,vs,rfl,hroot,hall⟩,dst⟩ := rep.slot i _ e1
    obtain ⟨r',vs',er,tr,hr',nin,inj⟩ := dst
    cases er
    have pm:∀ a,ρ i a -> ∀ o u,H a ≠ some (.frz o u) := fun a z o u q => by
      obtain ⟨_,_,uo,w,wm⟩ := rep.priv i a z
      rw [w] at q; cases q; exact wm
    have hroot:H root = some (.lst vs) := hroot.elim (·.1) fun ⟨o,q,z⟩ => (pm _ z _ _ q).elim
    have evs:vs' = vs := by
      rcases hr' with q | ⟨_,q,_⟩ | ⟨q,_⟩ <;> rw [hroot] at q <;> cases q
      rfl
    subst evs
    refine ⟨_,ev,s2.oneS rep p fun re x M1 H1 x1 rep1 ro1 q1 => ?_⟩
    obtain ⟨M2,x2,x2m,rep2,is2⟩ := ro1.is rep1 x1 rep.same
    have q1:PostS X.mg E g M1 H1 D (kAppDis1 i fv env ds re) := q1
    unfold kAppDis1 at q1
    cases ed:re.d with
    | int k =>
      rw [ed] at q1 is2
      cases is2
      dsimp only at q1
      cases en:ixN ds.length k with
      | none => rw [en] at q1; exact q1.elim
      | some j =>
        rw [en] at q1
        unfold kAppDis2 at q1
        dsimp only at q1
        split at q1
        · rename_i es ej
          obtain ⟨w,ew,l,ws,rfl,hl,hes⟩ := hall.get ej
          have tl:ρ i l := hl.elim (·.2) fun ⟨_,_,z⟩ => z
          have hl:H l = some (.lst ws) := hl.elim (·.1) fun ⟨o,q,z⟩ => (pm _ z _ _ q).elim
          have hl1 := x1.h _ _ hl
          have elen := hall.length
          refine ⟨root,vs',k,.ref l,rfl,rfl,SqL.of (x1.h _ _ hroot),by unfold L2.atI; rw [elen,en]; exact ew,.inl ⟨rfl,ws,SqL.of hl1⟩,?_⟩
          refine s1.oneS (rep2:Rep g M2 ρ env σ H1) (PostS.frz (M' := M2) (H' := H1) ⟨x2m,fun _ _ q _ => q⟩ q1) fun rv y M3 H3 x3 rep3 ro3 q3 => ?_
          obtain ⟨M4,x4,x4m,rep4,is4⟩ := ro3.is rep3 x3 rep2.same
          have q3:PostS X.mg E g M3 H3 D (kAppDis3 i env ds j es rv) := q3
          unfold kAppDis3 at q3
          by_cases hc:rv.d.flat /\ es.length < lim /\ ds.all lstFlat
          · rw [if_pos hc] at q3
            obtain ⟨c1,c2,c3⟩ := hc
            have up3:Same H H3 := x1.h.trans x3.h
            have hl3 := up3 _ _ hl
            have nrl:root ≠ l := fun e => nin (e ▸ List.mem_of_getElem? ew)
            have up:∀ a o,H3 a = some o -> a ≠ l -> upd H3 l (.lst (ws ++ [y])) a = some o := fun a o q n => by rw [upd_ne n]; exact q
            have keepF:∀ a o,H3 a = some o -> ((fun _ => False) a \/ fixd o) -> upd H3 l (.lst (ws ++ [y])) a = some o := fun a o q z => up a o q fun e => by
              subst e; rw [hl3] at q; cases q; exact z.elim id id
            have flat1:∀ {xs:List L3.D} {us:List V},L3.D.flats xs = true -> IsAll H (ρ i) xs us -> IsAll (upd H3 l (.lst (ws ++ [y]))) (ρ i) xs us := fun hf z => (IsAll.flat (m' := fun _ => False) hf (z.same up3)).mono keepF fun _ _ _ z => z.elim
            have fl:∀ {x:L3.D},x ∈ ds -> lstFlat x = true := fun hx => List.all_eq_true.mp c3 _ hx
            have fes:L3.D.flats es = true := fl (List.mem_of_getElem? ej)
            have isd:IsAll (upd H3 l (.lst (ws ++ [y]))) (ρ i) (ds.set j (.lst (es ++ [rv.d]))) vs' := IsAll.ptw (by rw [List.length_set]; exact elen) fun n d u ed eu => by
              by_cases hn:n = j
              · subst hn
                rw [List.getElem?_set_self (List.getElem?_eq_some_iff.mp ej).1] at ed
                cases ed
                rw [ew] at eu; cases eu
                exact ⟨l,_,rfl,.inl ⟨upd_same,tl⟩,(flat1 fes hes).snoc ((Is.flat (m' := fun _ => False) c1 is4).mono keepF fun _ _ _ z => z.elim)⟩
              · rw [List.getElem?_set_ne (Ne.symm hn)] at ed
                obtain ⟨u',eu',iu⟩ := hall.get ed
                rw [eu] at eu'; cases eu'
                cases d with
                | lst es' =>
                  obtain ⟨l',ws',rfl,hl',hes'⟩ := iu
                  have tl':ρ i l' := hl'.elim (·.2) fun ⟨_,_,z⟩ => z
                  have hl':H l' = some (.lst ws') := hl'.elim (·.1) fun ⟨o,q,z⟩ => (pm _ z _ _ q).elim
                  have nl:l' ≠ l := fun e => hn (inj n j l (e ▸ eu) ew)
                  exact ⟨l',ws',rfl,.inl ⟨up _ _ (up3 _ _ hl') nl,tl'⟩,flat1 (fl (List.mem_of_getElem? ed)) hes'⟩
                | _ => exact absurd (fl (List.mem_of_getElem? ed)) (by simp [lstFlat])
            obtain ⟨f1,rep5⟩ := rep4.write (sl := .dis (.lst (ds.set j (.lst (es ++ [rv.d]))))) (vs' := ws ++ [y]) tl hi ev ⟨⟨root,vs',rfl,.inl ⟨up _ _ (up3 _ _ hroot) nrl,tr⟩,isd⟩,root,vs',rfl,tr,.inl (up _ _ (up3 _ _ hroot) nrl),nin,inj⟩
            exact ⟨l,ws,y,rfl,rfl,hl3,by rw [hes.length]; exact lim_lt c2,q3 σ M4 ρ _ (Frz.trans ⟨x4m,fun _ _ q _ => q⟩ f1) rep5⟩
          · rw [if_neg hc] at q3; exact q3.elim
        · exact q1.elim
    | _ => rw [ed] at q1; exact q1.elim
  · exact p.elim
end
end L3
namespace L3
open PySem PySem.Spec PyProof.Rows L2
def Ity (a b:Addr) : It :=
  ⟨fun i H => ∃ xs ys x y,H a = some (.tup xs) /\ H b = some (.tup ys) /\ xs[i]? = some x /\ ys[i]? = some y,fun i H v H' => ∃ p x y,H p = none /\ v = .ref p /\ H' = upd H p (.tup [x,y]) /\ (∀ xs,H a = some (.tup xs) -> xs[i]? = some x) /\ ∀ ys,H b = some (.tup ys) -> ys[i]? = some y,
    fun i H => ∃ xs ys,H a = some (.tup xs) /\ H b = some (.tup ys) /\ (xs.length <= i \/ ys.length <= i)⟩
structure TzSt (h:Heap) (z TI TO i1 i2 a b:Addr) (i:Nat) : Prop where
  zip:IsZip h z TI TO .none
  ti:IsPair h TI (.ref i1) (.ref i2)
  to:∃ u v,IsPair h TO u v
  l:IsTupIter h i1 a i
  r:IsTupIter h i2 b i
theorem tz_apart {H:Hp} {z TI TO i1 i2 a b:Addr} {xs ys:List V} (N:ZipNe z TI TO i1 i2) (f:∀ c ∈ [z,TI,TO,i1,i2],H c = none) (ha:H a = some (.tup xs)) (hb:H b = some (.tup ys)) : ZipApart z TI TO i1 i2 a b :=
  ⟨N.TIz,N.TOz,N.i1z,N.i2z,N.TITO,N.TIi1,N.TIi2,N.TOi1,N.TOi2,N.i12,ne_of_none ha (f z (by simp)),ne_of_none ha (f TO (by simp)),ne_of_none ha (f i1 (by simp)),ne_of_none ha (f i2 (by simp)),
    ne_of_none hb (f z (by simp)),ne_of_none hb (f TO (by simp)),ne_of_none hb (f i1 (by simp)),ne_of_none hb (f i2 (by simp))⟩
theorem turn_tzip {P:Program} {w:World} {K:PySem.W.Frag} {es:List Expr} {k:Nat} {pos:Pos} (a b z TI TO i1 i2:Addr) (N:ZipNe z TI TO i1 i2) : Turn P w K (.Tuple es k pos) (Ity a b) [z,TI,TO,i1,i2] z (fun i h => TzSt h z TI TO i1 i2 a b i) where
  mem := by simp
  obj := fun i h st c hc => by
    obtain ⟨u,v,hto⟩ := st.to
    obtain ⟨o1,e1,c1,d1⟩ := st.l
    obtain ⟨o2,e2,c2,d2⟩ := st.r
    simp only [List.mem_cons,List.not_mem_nil,or_false] at hc
    rcases hc with rfl | rfl | rfl | rfl | rfl
    · exact ⟨_,st.zip,fun v z => by cases z⟩
    · exact ⟨_,st.ti,fun v z => by cases z⟩
    · exact ⟨_,hto,fun v z => by cases z⟩
    · exact ⟨o1,e1,fun v z => by rw [d1] at z; cases z⟩
    · exact ⟨o2,e2,fun v z => by rw [d2] at z; cases z⟩
  keep := fun i h h' st kk => by
    obtain ⟨u,v,hto⟩ := st.to
    exact ⟨kk z (by simp) _ st.zip,kk TI (by simp) _ st.ti,⟨u,v,kk TO (by simp) _ hto⟩,L2.IsTupIter.at st.l fun o q => kk i1 (by simp) o q,L2.IsTupIter.at st.r fun o q => kk i2 (by simp) o q⟩
  item := by
    intro X hP hw hK hc i pins s σ H E I hf st hg
    subst hP hw hK
    obtain ⟨xs,ys,x,y,hq,hq2,hx,hy⟩ := hg
    obtain ⟨its,rv,p,hz⟩ := I.tuple (SqT.of hq)
    obtain ⟨its2,rv2,p2,hz2⟩ := I.tuple (SqT.of hq2)
    obtain ⟨u,hu,ru⟩ := rv.get hx
    obtain ⟨u2,hu2,ru2⟩ := rv2.get hy
    obtain ⟨o1,o2,hto⟩ := st.to
    have A := tz_apart N (fun c hc => (hf c hc).1) hq hq2
    have fz := hf z (by simp)
    have fI := hf TI (by simp)
    have fO := hf TO (by simp)
    have f1 := hf i1 (by simp)
    have f2 := hf i2 (by simp)
    refine tzip_item A st.zip st.ti hto st.l st.r p p2 (x := u) (y := u2) (by simpa using hu) (by simpa using hu2) fun h' hz' hto' h1' h2' hp hsz hk => ?_
    refine ⟨_,rfl,wpAny_letOwnedTupleGo_zip hz' fun h'' hz'' hs'' => ?_⟩
    have zlt:z < s.heap.objs.size := Heap.lt_size st.zip
    have keep2:∀ c o,c ≠ z -> c ≠ TO -> c ≠ i1 -> c ≠ i2 -> s.heap.get? c = some o -> h''.get? c = some o := fun c o n1 n2 n3 n4 q => (hs''.2 c n1).trans (hk c o n1 n2 n3 n4 q)
    have hT'' : h''.get? s.heap.objs.size = some { cls := .type "tuple", data := .seq #[u, u2] } := (hs''.2 _ (Nat.ne_of_gt zlt)).trans hp
    have fresh := I.hok.fresh (Nat.le_refl s.heap.objs.size)
    have nin:∀ {c:Addr},c ∉ [z,TO,i1,i2] -> c ≠ z /\ c ≠ TO /\ c ≠ i1 /\ c ≠ i2 := fun hn => ⟨fun z => hn (by simp [z]),fun z => hn (by simp [z]),fun z => hn (by simp [z]),fun z => hn (by simp [z])⟩
    have I1:L2.Inv X pins σ (upd H s.heap.objs.size (.tup [x,y])) { s with heap := h'' } := by
      refine I.step (t' := s.toks) (g' := s.gens) (d' := s.drawn) (ch := [z,TO,i1,i2]) (fun c hb => ?_) (fun c o _ _ hn q _ => let ⟨n1,n2,n3,n4⟩ := nin hn; keep2 c o n1 n2 n3 n4 q)
        (fun c o _ _ hn q _ => let ⟨n1,n2,n3,n4⟩ := nin hn; ⟨o.slots,keep2 c o n1 n2 n3 n4 q⟩) (fun c o _ q hH => by rw [upd_ne (Nat.ne_of_lt (Heap.lt_size q))]; exact hH)
        (fun c o hn q => let ⟨n1,n2,n3,n4⟩ := nin hn; ⟨o,keep2 c o n1 n2 n3 n4 q⟩) (fun c zs q => by rw [upd_ne (ne_of_none q fresh)]; exact q)
        (fun c o' u' q => by rw [upd_ne (ne_of_none q fresh)]; exact q) (fun c ps q => ⟨#[],by rw [upd_ne (ne_of_none q fresh)]; simp [q]⟩) (fun m hm => ?_) (fun c u' q => ?_) I.bare
      · simp only [List.mem_cons,List.not_mem_nil,or_false] at hb
        rcases hb with rfl | rfl | rfl | rfl
        · exact ⟨fz.2.2.2.1,fz.2.1,fz.2.2.2.2.1,fz.2.2.2.2.2⟩
        · exact ⟨fO.2.2.2.1,fO.2.1,fO.2.2.2.2.1,fO.2.2.2.2.2⟩
        · exact ⟨f1.2.2.2.1,f1.2.1,f1.2.2.2.2.1,f1.2.2.2.2.2⟩
        · exact ⟨f2.2.2.2.1,f2.2.1,f2.2.2.2.2.1,f2.2.2.2.2.2⟩
      · obtain ⟨o,es',ep,ho',r⟩ := hm
        exact ⟨o,es',ep,keep2 _ o (Ne.symm fz.2.1) (Ne.symm fO.2.1) (Ne.symm f1.2.1) (Ne.symm f2.2.1) ho',r⟩
      · by_cases hb : c = s.heap.objs.size
        · subst hb
          rw [upd_same] at q; cases q
          refine ⟨by show 2 <= sizeLine; decide,[u,u2],.cons ru (.cons ru2 .nil),⟨_,hT'',rfl,0,rfl⟩⟩
        · rw [upd_ne hb] at q
          refine (I.hok c u' q).stay (fun d v hc' q' => ?_) (fun d r => by rw [upd_ne (ne_of_none r fresh)]; exact r) fun d zs r => by rw [upd_ne (ne_of_none r fresh)]; exact r
          have tr:∃ w,H d = some w := hc'.elim (fun z => ⟨u',by rw [z]; exact q⟩) fun z => ⟨_,z⟩
          obtain ⟨w',hw'⟩ := tr
          exact keep2 d v (ne_of_none hw' fz.1) (ne_of_none hw' fO.1) (ne_of_none hw' f1.1) (ne_of_none hw' f2.1) q'
    refine ⟨.ref s.heap.objs.size,_,I1,rfl,⟨_,x,y,fresh,rfl,rfl,fun zs hz' => by rw [hq] at hz'; cases hz'; exact hx,fun zs hz' => by rw [hq2] at hz'; cases hz'; exact hy⟩,?_,fun c hb => ?_⟩
    · have mv:∀ c o,c ≠ z -> h'.get? c = some o -> h''.get? c = some o := fun c o n q => (hs''.2 c n).trans q
      exact ⟨hz'',keep2 TI _ N.TIz N.TITO N.TIi1 N.TIi2 st.ti,⟨_,_,mv TO _ N.TOz hto'⟩,L2.IsTupIter.at h1' fun o q => mv i1 o N.i1z q,L2.IsTupIter.at h2' fun o q => mv i2 o N.i2z q⟩
    · have lt:∀ {c:Addr} {o:Obj},s.heap.get? c = some o -> H c = none -> (upd H s.heap.objs.size (.tup [x,y])) c = none := fun q n => by rw [upd_ne (Nat.ne_of_lt (Heap.lt_size q))]; exact n
      obtain ⟨oo1,q1,_⟩ := st.l
      obtain ⟨oo2,q2,_⟩ := st.r
      simp only [List.mem_cons,List.not_mem_nil,or_false] at hb
      rcases hb with rfl | rfl | rfl | rfl | rfl
      · exact lt st.zip fz.1
      · exact lt st.ti fI.1
      · exact lt hto fO.1
      · exact lt q1 f1.1
      · exact lt q2 f2.1
  done := by
    intro X hP hw hK hc i pins s σ H E I hf st hg
    subst hP hw hK
    obtain ⟨xs,ys,hq,hq2,hx⟩ := hg
    obtain ⟨its,rv,p,hz⟩ := I.tuple (SqT.of hq)
    obtain ⟨its2,rv2,p2,hz2⟩ := I.tuple (SqT.of hq2)
    obtain ⟨o1,o2,hto⟩ := st.to
    have A := tz_apart N (fun c hc => (hf c hc).1) hq hq2
    have fz := hf z (by simp)
    have fO := hf TO (by simp)
    have f1 := hf i1 (by simp)
    have f2 := hf i2 (by simp)
    have l1 := rv.length
    have l2 := rv2.length
    refine tzip_end (I.ok.hd hc) A st.zip st.ti hto st.l st.r p p2 (hx.imp (fun z => by simp; omega) fun z => by simp; omega) fun h' hk => ⟨rfl,?_⟩
    have nin:∀ {c:Addr},c ∉ [z,TO,i1,i2] -> c ≠ z /\ c ≠ TO /\ c ≠ i1 /\ c ≠ i2 := fun hn => ⟨fun z => hn (by simp [z]),fun z => hn (by simp [z]),fun z => hn (by simp [z]),fun z => hn (by simp [z])⟩
    refine I.step (t' := s.toks) (g' := s.gens) (d' := s.drawn) (ch := [z,TO,i1,i2]) (fun c hb => ?_) (fun c o _ _ hn q _ => let ⟨n1,n2,n3,n4⟩ := nin hn; hk c o n1 n2 n3 n4 q)
      (fun c o _ _ hn q _ => let ⟨n1,n2,n3,n4⟩ := nin hn; ⟨o.slots,hk c o n1 n2 n3 n4 q⟩) (fun c o _ q hH => hH)
      (fun c o hn q => let ⟨n1,n2,n3,n4⟩ := nin hn; ⟨o,hk c o n1 n2 n3 n4 q⟩) (fun c zs q => q)
      (fun c o' u' q => q) (fun c ps q => ⟨#[],by simp [q]⟩) (fun m hm => ?_) (fun c u' q => ?_) I.bare
    · simp only [List.mem_cons,List.not_mem_nil,or_false] at hb
      rcases hb with rfl | rfl | rfl | rfl
      · exact ⟨fz.2.2.2.1,fz.2.1,fz.2.2.2.2.1,fz.2.2.2.2.2⟩
      · exact ⟨fO.2.2.2.1,fO.2.1,fO.2.2.2.2.1,fO.2.2.2.2.2⟩
      · exact ⟨f1.2.2.2.1,f1.2.1,f1.2.2.2.2.1,f1.2.2.2.2.2⟩
      · exact ⟨f2.2.2.2.1,f2.2.1,f2.2.2.2.2.1,f2.2.2.2.2.2⟩
    · obtain ⟨o,es',ep,ho',r⟩ := hm
      exact ⟨o,es',ep,hk _ o (Ne.symm fz.2.1) (Ne.symm fO.2.1) (Ne.symm f1.2.1) (Ne.symm f2.2.1) ho',r⟩
    · refine (I.hok c u' q).stay (fun d v hc' q' => ?_) (fun d r => r) fun d zs r => r
      have tr:∃ w,H d = some w := hc'.elim (fun z => ⟨u',by rw [z]; exact q⟩) fun z => ⟨_,z⟩
      obtain ⟨w',hw'⟩ := tr
      exact hk d v (ne_of_none hw' fz.1) (ne_of_none hw' fO.1) (ne_of_none hw' f1.1) (ne_of_none hw' f2.1) q'
  self := fun A i s Q E st h => wpAny_pyIter_zip st.zip h
section
variable {X:Cx} {E:XK} {es:List Expr} {k:Nat} {tpos:Pos}
def iZipX (K:PySem.W.Frag) (ta:TA) : TI := fun σ H R => ta σ H fun vs H1 => (∃ a b xs ys,vs = [.ref a,.ref b] /\ SqL K H1 a xs /\ SqL K H1 b ys /\ R (Itz K a b) H1) \/ ∃ a b xs ys,vs = [.ref a,.ref b] /\ H1 a = some (.tup xs) /\ H1 b = some (.tup ys) /\ R (Ity a b) H1
theorem pi_zipX {l r : Expr} {ta : TA} {p pos : Pos} (hg : Gl X "zip") (hm : X.mg "zip" = none) (ha : PA X [l, r] ta) (hs : starEach [l, r] X.env = (false, eval l X.env) :: starEach [r] X.env := by rfl) (hpl : (backTo pos (starEach [r] X.env)).any (·.1) = false := by rfl) :
    PI X (.Tuple es k tpos) (.Call (.Name "zip" p) [l, r] [] pos) (iZipX X.K ta) := by
  intro pins s σ H R I h
  refine Call_ (ld_blt I hg hm (by decide +kernel : bootBuiltins "zip" = some (.type "zip")) (PyProof.Rows.callWith_type1 (thn (ha pos pins s σ H _ I h) fun us s1 ⟨vs, H1, I1, r1, q1⟩ => ?_) hs hpl))
  have fpc:∀ c ∈ [s1.heap.objs.size + 4,s1.heap.objs.size + 2,s1.heap.objs.size + 3,s1.heap.objs.size,s1.heap.objs.size + 1],FpOk X pins H1 c := fun c hb => by
    have hc:s1.heap.objs.size <= c := by
      simp only [List.mem_cons,List.not_mem_nil,or_false] at hb
      rcases hb with rfl | rfl | rfl | rfl | rfl
      · exact Nat.le_add_right _ 4
      · exact Nat.le_add_right _ 2
      · exact Nat.le_add_right _ 3
      · exact Nat.le_refl _
      · exact Nat.le_add_right _ 1
    exact I1.fpOk hc (I1.hok.fresh hc)
  rcases q1 with ⟨a,b,xs,ys,e,hq,hq2,q⟩ | ⟨a,b,xs,ys,e,hq,hq2,q⟩
  · subst e
    obtain ⟨u,c,rfl,ru,rc⟩ := vals2 r1
    cases ru
    cases rc
    obtain ⟨its,rv,pl,hz⟩ := I1.list hq
    obtain ⟨its2,rv2,pl2,hz2⟩ := I1.list hq2
    refine call_zip_2 pl.isList pl2.isList fun h' g1 g2 g3 g4 g5 hsz kp => ?_
    have I2:L2.Inv X pins σ H1 { s1 with heap := h' } := I1.kept (t' := s1.toks) kp
    refine wpAny_pyIter_zip g1 ?_
    exact ⟨s1.heap.objs.size + 4,_,_,_,H1,rfl,I2,turn_zip a b (s1.heap.objs.size + 4) (s1.heap.objs.size + 2) (s1.heap.objs.size + 3) s1.heap.objs.size (s1.heap.objs.size + 1) (zip_ne s1.heap.objs.size),⟨g1,g2,⟨_,_,g3⟩,g4,g5⟩,fpc,q⟩
  · subst e
    obtain ⟨u,c,rfl,ru,rc⟩ := vals2 r1
    cases ru
    cases rc
    obtain ⟨its,rv,pl,hz⟩ := I1.tuple (SqT.of hq)
    obtain ⟨its2,rv2,pl2,hz2⟩ := I1.tuple (SqT.of hq2)
    refine call_tzip pl pl2 fun h' g1 g2 g3 g4 g5 kp => ?_
    have I2:L2.Inv X pins σ H1 { s1 with heap := h' } := I1.kept (t' := s1.toks) kp
    refine wpAny_pyIter_zip g1 ?_
    exact ⟨s1.heap.objs.size + 4,_,_,_,H1,rfl,I2,turn_tzip a b (s1.heap.objs.size + 4) (s1.heap.objs.size + 2) (s1.heap.objs.size + 3) s1.heap.objs.size (s1.heap.objs.size + 1) (zip_ne s1.heap.objs.size),⟨g1,g2,⟨_,_,g3⟩,g4,g5⟩,fpc,q⟩
theorem walk_tzip {a b:Addr} {m:Addr -> Prop} {H:Hp} {ds es:List D} {vs ws:List V} (h:H a = some (.tup vs)) (h2:H b = some (.tup ws)) (is:IsAll H m ds vs) (is2:IsAll H m es ws) : Walk (Ity a b) m H (zipD ds es) := by
  refine ⟨fun H' i d k e => ?_,fun H' k => ⟨vs,ws,k a _ h (.inr True.intro),k b _ h2 (.inr True.intro),by rw [zipD_len,is.length,is2.length]; omega⟩⟩
  rw [zipD_get] at e
  cases q:ds[i]? with
  | none => rw [q] at e; cases e
  | some d0 =>
    cases q2:es[i]? with
    | none => rw [q,q2] at e; cases e
    | some e0 =>
      rw [q,q2] at e
      have e:D.tup [d0,e0] = d := by simpa using e
      obtain ⟨v,ev,iv⟩ := (is.mono k fun _ _ _ z => z:IsAll H' m ds vs).get q
      obtain ⟨v2,ev2,iv2⟩ := (is2.mono k fun _ _ _ z => z:IsAll H' m es ws).get q2
      have k1 := k a _ h (.inr True.intro)
      have k2 := k b _ h2 (.inr True.intro)
      refine ⟨⟨vs,ws,v,v2,k1,k2,ev,ev2⟩,fun x H'' y => ?_⟩
      obtain ⟨p,x',y',hp,rfl,rfl,y1,y2⟩ := y
      have z1 := y1 vs k1
      have z2 := y2 ws k2
      rw [ev] at z1; cases z1
      rw [ev2] at z2; cases z2
      have sm:Same H' (upd H' p (.tup [v,v2])) := same_upd hp
      refine ⟨sm,?_⟩
      rw [<- e]
      exact ⟨p,_,rfl,upd_same,v,[v2],rfl,Is.same sm iv,v2,[],rfl,Is.same sm iv2,rfl⟩
def kZipX:List R -> Res Src
  | [r,q] => match r.d,q.d with
    | .lst ds,.lst es => .ok ⟨zipD ds es,r.fr && q.fr,r.al ++ q.al⟩
    | .tup ds,.tup es => .ok ⟨zipD ds es,r.fr && q.fr,r.al ++ q.al⟩
    | _,_ => .stuck
  | _ => .stuck
def sZipX (fs:En -> Res (List R)) : En -> Res Src := fun env => (fs env).bind kZipX
theorem pid_zipX {l r : Expr} {fs : En -> Res (List R)} {p pos : Pos} (hg : Gl X "zip") (hm : X.mg "zip" = none) (ha : PAD X E [l, r] fs) (hs : starEach [l, r] X.env = (false, eval l X.env) :: starEach [r] X.env := by rfl) (hpl : (backTo pos (starEach [r] X.env)).any (·.1) = false := by rfl) :
    PID X E (.Tuple es k tpos) (.Call (.Name "zip" p) [l, r] [] pos) (sZipX fs) := by
  obtain ⟨t,p1,s1⟩ := ha
  refine ⟨_,pi_zipX hg hm p1 hs hpl,fun g M ρ env σ H Rq rep p => s1.one rep (P := fun M H r => PostI X.mg E g M ρ env σ H Rq r) p (fun _ _ z => z) (fun _ _ _ z => z) (fun _ _ _ _ _ e p => p.ext e) fun rs vs M1 H1 e1 rep1 is q => ?_⟩
  match rs,is,q with
  | [r,r2],is,q =>
    obtain ⟨v,w,rfl,i1,v2,w2,rfl,i2,i3⟩ := is
    cases i3
    have i1:Is H1 (vmsk g M1 (rfrs [r,r2]) ρ (rals [r,r2])) r.d v := i1
    have i2:Is H1 (vmsk g M1 (rfrs [r,r2]) ρ (rals [r,r2])) r2.d v2 := i2
    replace i1 := i1.weak fun _ z => two_msk z
    replace i2 := i2.weak fun _ z => two_msk z
    unfold kZipX at q
    dsimp only at q
    cases z:r.d with
    | lst ds =>
      cases z2:r2.d with
      | lst es =>
        rw [z] at i1; rw [z2] at i2; rw [z,z2] at q
        dsimp only at q
        obtain ⟨a,ws,rfl,h1,h2⟩ := i1
        obtain ⟨b,us,rfl,h3,h4⟩ := i2
        exact .inl ⟨a,b,ws,us,rfl,.inl (h1.imp (·.1) fun ⟨o,z,_⟩ => ⟨o,z⟩),.inl (h3.imp (·.1) fun ⟨o,z,_⟩ => ⟨o,z⟩),q _ M1 H1 (Ext.refl _ _) rep1 (walk_zip h1 h3 h2 h4)⟩
      | _ => rw [z,z2] at q; exact q.elim
    | tup ds =>
      cases z2:r2.d with
      | tup es =>
        rw [z] at i1; rw [z2] at i2; rw [z,z2] at q
        dsimp only at q
        obtain ⟨a,ws,rfl,h1,h2⟩ := i1
        obtain ⟨b,us,rfl,h3,h4⟩ := i2
        exact .inr ⟨a,b,ws,us,rfl,h1,h3,q _ M1 H1 (Ext.refl _ _) rep1 (walk_tzip h1 h3 h2 h4)⟩
      | _ => rw [z,z2] at q; exact q.elim
    | _ => rw [z] at q; exact q.elim
  | [],_,q => exact q.elim
  | [_],_,q => exact q.elim
  | _ :: _ :: _ :: _,_,q => exact q.elim
end
end L3
namespace L3
open PySem PySem.Spec PyProof.Rows L2
section
variable {X:Cx} {E:XK}
end
end L3
set_option autoImplicit false
namespace L3
open PySem L2
section
variable {env env':En} {i j:Nat} {d:D} {ds es:List D} {f g:Bool} {al bl:List Nat} {x y:Int}
def kS (k:En -> Res Fl) : Fl -> Res Fl
  | .nx env' => k env'
  | r => .ok r
theorem e_seq (f k:En -> Res Fl) (env:En) : fSeq f k env = (f env).bind (kS k) := by
  rfl
theorem e_nx (k:En -> Res Fl) (e:En) : kS k (.nx e) = k e := (rfl)
theorem e_rt (k:En -> Res Fl) (r:R) : kS k (.rt r) = .ok (.rt r) := (rfl)
def kIf (a b:En -> Res Fl) (env:En) (k:Bool) : Res Fl := if k then a env else b env
theorem e_if (c:En -> Res Bool) (a b:En -> Res Fl) (env:En) : fIf c a b env = (c env).bind (kIf a b env) := (rfl)
theorem e_ifT (a b:En -> Res Fl) (env:En) : kIf a b env true = a env := (rfl)
theorem e_ifF (a b:En -> Res Fl) (env:En) : kIf a b env false = b env := (rfl)
theorem e_nil (env:En) : fNil env = .ok (.nx env) := (rfl)
def kRet (r:R) : Res Fl := .ok (.rt r)
theorem e_ret (a:En -> Res R) (env:En) : fRet a env = (a env).bind kRet := (rfl)
theorem e_kret (r:R) : kRet r = .ok (.rt r) := (rfl)
def kSet (i:Nat) (env:En) (r:R) : Res Fl := if i < env.length then .ok (.nx (put env i r)) else .stuck
theorem e_set (i:Nat) (a:En -> Res R) (env:En) : fSet i a env = (a env).bind (kSet i env) := (rfl)
theorem e_kset (r:R) (h:i < env.length) : kSet i env r = .ok (.nx (put env i r)) := if_pos h
theorem e_putV:put env i (.val d f []) = env.set i (some (.val d f)) := (rfl)
theorem e_putN:put env i (.new ds f) = env.set i (some (.own ds f)) := (rfl)
theorem e_putF:put env i (.fre d) = env.set i (some (.tre d)) := (rfl)
def vAt (i:Nat) : Option (Option Sl) -> Res R
  | some (some (.val d fr)) => .ok (mkV d fr [])
  | some (some (.own ds fr)) => .ok (.val (.lst ds) fr [i])
  | some (some (.tre d)) => .ok (.val d true [i])
  | some (some (.pin d)) => .ok (.val d true [i])
  | some (some (.dis d)) => .ok (.val d true [i])
  | _ => .stuck
theorem e_var (i:Nat) (env:En) : vVar i env = vAt i env[i]? := by unfold vVar vAt; rfl
theorem e_atV:vAt i (some (some (.val d f))) = .ok (mkV d f []) := (rfl)
theorem e_atO:vAt i (some (some (.own ds f))) = .ok (.val (.lst ds) f [i]) := (rfl)
theorem e_atT:vAt i (some (some (.tre d))) = .ok (.val d true [i]) := (rfl)
theorem e_atP:vAt i (some (some (.pin d))) = .ok (.val d true [i]) := (rfl)
theorem e_atPDs:vAt i (some (some (.dis d))) = .ok (.val d true [i]) := (rfl)
theorem e_c (d:D) (env:En) : vC d env = .ok (.val d true []) := (rfl)
theorem e_mkVt (h:d.flat = true) : mkV d f al = .val d true [] := by unfold mkV; rw [if_pos h]
theorem e_mkVf (h:d.flat = false) : mkV d f al = .val d f al := by unfold mkV; rw [if_neg (by rw [h]; simp)]
theorem e_mkLt (h:D.flats ds = true) : mkL ds f al = .new ds true := by unfold mkL; rw [if_pos h]
theorem e_mkLt0:mkL ds true [] = .new ds true := by unfold mkL; split <;> rfl
def k2b (op:R -> R -> Res R) (fb:En -> Res R) (env:En) (ra:R) : Res R := (fb env).bind (op ra)
theorem e_v2 (op:R -> R -> Res R) (fa fb:En -> Res R) (env:En) : v2 op fa fb env = (fa env).bind (k2b op fb env) := (rfl)
theorem e_k2b (op:R -> R -> Res R) (fb:En -> Res R) (env:En) (ra:R) : k2b op fb env ra = (fb env).bind (op ra) := (rfl)
theorem e_add:oAdd (.val (.int x) f al) (.val (.int y) g bl) = .ok (.val (.int (x + y)) true []) := (rfl)
theorem e_sub:oSub (.val (.int x) f al) (.val (.int y) g bl) = .ok (.val (.int (x - y)) true []) := (rfl)
theorem e_mulR (h1:-18446744073709551616 < y) (h2:y < 18446744073709551616) : oMul (.val (.int x) f al) (.val (.int y) g bl) = .ok (.val (.int (x * y)) true []) := by
  have:cMul x y = true := by
    unfold cMul
    rw [Bool.or_eq_true,Bool.and_eq_true,Bool.and_eq_true]
    exact .inr ⟨decide_eq_true (by omega),decide_eq_true (by omega)⟩
  show (if cMul x y = true then _ else _) = _
  rw [if_pos this]
theorem e_mod (h:0 < y) : oMod (.val (.int x) f al) (.val (.int y) g bl) = .ok (.val (.int (x % y)) true []) := by
  show (if decide (0 < y) = true then _ else _) = _
  rw [if_pos (decide_eq_true h)]
theorem e_div (h:0 < y) (h2:y < 1073741824) : oDiv (.val (.int x) f al) (.val (.int y) g bl) = .ok (.val (.int (x / y)) true []) := by
  show (if (decide (0 < y) && decide (y < 1073741824)) = true then _ else _) = _
  rw [if_pos (by rw [decide_eq_true h,decide_eq_true h2]; rfl)]
theorem e_lt:oLt (.val (.int x) f al) (.val (.int y) g bl) = .ok (.val (.bl (decide (x < y))) true []) := (rfl)
theorem e_le:oLe (.val (.int x) f al) (.val (.int y) g bl) = .ok (.val (.bl (decide (x <= y))) true []) := (rfl)
theorem e_ge:oGe (.val (.int x) f al) (.val (.int y) g bl) = .ok (.val (.bl (decide (y <= x))) true []) := (rfl)
theorem e_eq {a b:R} (h:a.d.dep <= 50) (h2:b.d.dep <= 50) : oEq a b = .ok (.val (.bl (eqD a.d b.d)) true []) := by unfold oEq; rw [if_pos ⟨h,h2⟩]
theorem e_ne {a b:R} (h:a.d.dep <= 50) (h2:b.d.dep <= 50) : oNe a b = .ok (.val (.bl (!eqD a.d b.d)) true []) := by unfold oNe; rw [if_pos ⟨h,h2⟩]
theorem e_eqI:eqD (.int x) (.int y) = (x == y) := (rfl)
def addL (xs ys:List D) (f:Bool) (al:List Nat) : Res R := if xs.length + ys.length <= lim then .ok (mkL (xs ++ ys) f al) else .stuck
theorem e_catVV:oAdd (.val (.lst ds) f al) (.val (.lst es) g bl) = addL ds es (f && g) (al ++ bl) := (rfl)
theorem e_catVN:oAdd (.val (.lst ds) f al) (.new es g) = addL ds es (f && g) (al ++ []) := (rfl)
theorem e_catNV:oAdd (.new ds f) (.val (.lst es) g bl) = addL ds es (f && g) ([] ++ bl) := (rfl)
theorem e_catNN:oAdd (.new ds f) (.new es g) = addL ds es (f && g) [] := (rfl)
theorem e_addL (h:ds.length + es.length <= 1000000) : addL ds es f al = .ok (mkL (ds ++ es) f al) := if_pos h
def kCons (fs:En -> Res (List R)) (env:En) (r:R) : Res (List R) := (fs env).bind (fun rs => .ok (r :: rs))
def kCons2 (r:R) (rs:List R) : Res (List R) := .ok (r :: rs)
theorem e_aNil (env:En) : aNil env = .ok [] := (rfl)
theorem e_aCons (a:En -> Res R) (fs:En -> Res (List R)) (env:En) : aCons a fs env = (a env).bind (kCons fs env) := (rfl)
theorem e_kCons (fs:En -> Res (List R)) (env:En) (r:R) : kCons fs env r = (fs env).bind (kCons2 r) := (rfl)
theorem e_kCons2 (r:R) (rs:List R) : kCons2 r rs = .ok (r :: rs) := (rfl)
def kTup (rs:List R) : Res R := if rs.length <= lim then .ok (mkV (.tup (rs.map R.d)) (rfrs rs) (rals rs)) else .stuck
theorem e_tup (fs:En -> Res (List R)) (env:En) : vTup fs env = (fs env).bind kTup := (rfl)
theorem e_kTup (rs:List R) (h:rs.length <= 1000000) : kTup rs = .ok (mkV (.tup (rs.map R.d)) (rfrs rs) (rals rs)) := if_pos h
def kLst (rs:List R) : Res R := if rs.length <= lim then .ok (mkL (rs.map R.d) (rfrs rs) (rals rs)) else .stuck
theorem e_lst (fs:En -> Res (List R)) (env:En) : vLst fs env = (fs env).bind kLst := (rfl)
theorem e_kLst (rs:List R) (h:rs.length <= 1000000) : kLst rs = .ok (mkL (rs.map R.d) (rfrs rs) (rals rs)) := if_pos h
theorem rfrs_nil:rfrs [] = true := (rfl)
theorem rfrs_cons (r:R) (rs:List R) : rfrs (r :: rs) = (r.fr && rfrs rs) := (rfl)
theorem rals_nil:rals [] = [] := (rfl)
theorem rals_cons (r:R) (rs:List R) : rals (r :: rs) = r.al ++ rals rs := (rfl)
def kCall (F:List D -> Res R) (rs:List R) : Res R := (F (rs.map R.d)).bind (fun r => .ok (callR rs r))
def kCall2 (rs:List R) (r:R) : Res R := .ok (callR rs r)
theorem e_call (F:List D -> Res R) (fs:En -> Res (List R)) (env:En) : vCall F fs env = (fs env).bind (kCall F) := (rfl)
theorem e_kCall (F:List D -> Res R) (rs:List R) : kCall F rs = (F (rs.map R.d)).bind (kCall2 rs) := (rfl)
theorem e_kCall2 (rs:List R) (r:R) : kCall2 rs r = .ok (callR rs r) := (rfl)
theorem e_callRt (rs:List R) (h:d.flat = true) : callR rs (.val d f al) = .val d true [] := if_pos h
theorem e_callRf (rs:List R) (h:d.flat = false) : callR rs (.val d true al) = .fre d := by
  show mkC d true rs = _
  unfold mkC; rw [if_neg (by rw [h]; simp),if_pos rfl]
theorem e_callRv (rs:List R) (h:d.flat = false) : callR rs (.val d false al) = .val d (rfrs rs) (rals rs) := by
  show mkC d false rs = _
  unfold mkC; rw [if_neg (by rw [h]; simp),if_neg (by simp)]
theorem e_callRn (rs:List R) (h:D.flats ds = true) : callR rs (.new ds f) = .new ds true := by
  show (if D.flats ds = true then _ else _) = _
  rw [if_pos h]
theorem e_callRnf (rs:List R) (h:D.flats ds = false) : callR rs (.new ds true) = .fre (.lst ds) := by
  show (if D.flats ds = true then _ else _) = _
  rw [if_neg (by rw [h]; simp),if_pos rfl]
theorem e_B1 (k:List R -> Res R) (fs:En -> Res (List R)) (env:En) : vB1 k fs env = (fs env).bind k := (rfl)
def lenD:D -> Res R
  | .lst ds => .ok (.val (.int ds.length) true [])
  | .tup ds => .ok (.val (.int ds.length) true [])
  | .str z => if z.length <= lim then .ok (.val (.int z.length) true []) else .stuck
  | _ => .stuck
theorem e_len (r:R) : kLen [r] = lenD r.d := by unfold kLen lenD; rfl
theorem e_lenL:lenD (.lst ds) = .ok (.val (.int ds.length) true []) := (rfl)
theorem e_lenT:lenD (.tup ds) = .ok (.val (.int ds.length) true []) := (rfl)
def kB (ra:R) : Res Bool := match ra.d with
  | .bl b => .ok b
  | _ => .stuck
theorem e_vB (a:En -> Res R) (env:En) : vB a env = (a env).bind kB := (rfl)
theorem e_kB (b:Bool) : kB (.val (.bl b) f al) = .ok b := (rfl)
def kTru (ra:R) : Res Bool := tru ra.d
theorem e_vTru (a:En -> Res R) (env:En) : vTru a env = (a env).bind kTru := (rfl)
theorem e_kTru (b:Bool) : kTru (.val (.bl b) f al) = .ok b := (rfl)
def kNotB (b:Bool) : Res Bool := .ok (!b)
theorem e_bNot (a:En -> Res Bool) (env:En) : bNot a env = (a env).bind kNotB := (rfl)
theorem e_kNotB (b:Bool) : kNotB b = .ok (!b) := (rfl)
def kAndB (b:En -> Res Bool) (env:En) (k:Bool) : Res Bool := if k then b env else .ok false
def kOrB (b:En -> Res Bool) (env:En) (k:Bool) : Res Bool := if k then .ok true else b env
theorem e_bAnd (a b:En -> Res Bool) (env:En) : bAnd a b env = (a env).bind (kAndB b env) := (rfl)
theorem e_bOr (a b:En -> Res Bool) (env:En) : bOr a b env = (a env).bind (kOrB b env) := (rfl)
theorem e_andT (b:En -> Res Bool) (env:En) : kAndB b env true = b env := (rfl)
theorem e_andF (b:En -> Res Bool) (env:En) : kAndB b env false = .ok false := (rfl)
theorem e_orT (b:En -> Res Bool) (env:En) : kOrB b env true = .ok true := (rfl)
theorem e_orF (b:En -> Res Bool) (env:En) : kOrB b env false = b env := (rfl)
def kAndV (b:En -> Res R) (env:En) (ra:R) : Res R := match ra.d with
  | .bl true => b env
  | .bl false => .ok (.val (.bl false) true [])
  | _ => .stuck
theorem e_vAnd (a b:En -> Res R) (env:En) : vAnd a b env = (a env).bind (kAndV b env) := (rfl)
theorem e_andVT (b:En -> Res R) (env:En) : kAndV b env (.val (.bl true) f al) = b env := (rfl)
theorem e_andVF (b:En -> Res R) (env:En) : kAndV b env (.val (.bl false) f al) = .ok (.val (.bl false) true []) := (rfl)
def kNotV (ra:R) : Res R := match ra.d with
  | .bl b => .ok (.val (.bl (!b)) true [])
  | _ => .stuck
theorem e_vNot (a:En -> Res R) (env:En) : vNot a env = (a env).bind kNotV := (rfl)
theorem e_notV (b:Bool) : kNotV (.val (.bl b) f al) = .ok (.val (.bl (!b)) true []) := (rfl)
def ixD (f:Bool) (al:List Nat) : Option D -> Res R
  | some d => .ok (mkV d f al)
  | none => .stuck
def ixDD (a b:D) (f:Bool) (al:List Nat) : Res R := match a,b with
  | .lst xs,.int i => ixD f al (atI xs i)
  | .tup xs,.int i => ixD f al (atI xs i)
  | .str z,.int i => if z.length <= lim then (match atI z.cps.toList i with
    | some c => .ok (.val (.str ⟨#[c]⟩) true [])
    | none => .stuck) else .stuck
  | _,_ => .stuck
theorem e_ix (a b:R) : oIx a b = ixDD a.d b.d a.fr a.al := by
  unfold oIx ixDD ixD; rfl
theorem e_ixL {k:Int} : ixDD (.lst ds) (.int k) f al = ixD f al (atI ds k) := (rfl)
theorem e_ixT {k:Int} : ixDD (.tup ds) (.int k) f al = ixD f al (atI ds k) := (rfl)
theorem e_ixD:ixD f al (some d) = .ok (mkV d f al) := (rfl)
def kIxO (ds:List D) (fr:Bool) (rb:R) : Res R := match rb.d with
  | .int k => match atI ds k with
    | some d => .ok (mkV d fr [])
    | none => .stuck
  | _ => .stuck
def ixAt (i:Nat) (fb:En -> Res R) (env:En) : Option (Option Sl) -> Res R
  | some (some (.own ds fr)) => (fb env).bind (kIxO ds fr)
  | _ => v2 oIx (vVar i) fb env
theorem e_ixV (i:Nat) (fb:En -> Res R) (env:En) : vIxV i fb env = ixAt i fb env env[i]? := by unfold vIxV ixAt; rfl
theorem e_ixAO (fb:En -> Res R) : ixAt i fb env (some (some (.own ds f))) = (fb env).bind (kIxO ds f) := (rfl)
theorem e_ixAV (fb:En -> Res R) : ixAt i fb env (some (some (.val d f))) = v2 oIx (vVar i) fb env := (rfl)
theorem e_ixAT (fb:En -> Res R) : ixAt i fb env (some (some (.tre d))) = v2 oIx (vVar i) fb env := (rfl)
theorem e_kIxO {k:Int} : kIxO ds f (.val (.int k) g al) = ixD f [] (atI ds k) := by unfold kIxO ixD; rfl
theorem at0 {α:Type} (a:α) (l:List α) : atI (a :: l) 0 = some a := by
  unfold atI ixN; rw [if_pos (by omega),if_pos (by simp)]; rfl
theorem at1 {α:Type} (a b:α) (l:List α) : atI (a :: b :: l) 1 = some b := by
  unfold atI ixN; rw [if_pos (by omega),if_pos (by simp; omega)]; rfl
theorem at2 {α:Type} (a b c:α) (l:List α) : atI (a :: b :: c :: l) 2 = some c := by
  unfold atI ixN; rw [if_pos (by omega),if_pos (by simp; omega)]; rfl
theorem at3 {α:Type} (a b c d:α) (l:List α) : atI (a :: b :: c :: d :: l) 3 = some d := by
  unfold atI ixN; rw [if_pos (by omega),if_pos (by simp; omega)]; rfl
def kO (r:R) : Res (Option Int) := match r.d with
  | .int i => .ok (some i)
  | _ => .stuck
theorem e_oNone (env:En) : oNone env = .ok none := (rfl)
theorem e_oSome (a:En -> Res R) (env:En) : oSome a env = (a env).bind kO := (rfl)
theorem e_kO:kO (.val (.int x) f al) = .ok (some x) := (rfl)
def kIsi (T:String) (r:R) : Res R := .ok (.val (.bl (isT T r.d)) true [])
theorem e_isi (T:String) (a:En -> Res R) (env:En) : vIsi T a env = (a env).bind (kIsi T) := (rfl)
theorem e_kIsi (T:String) (r:R) : kIsi T r = .ok (.val (.bl (isT T r.d)) true []) := (rfl)
theorem isT_ii : isT "int" (.int x) = true := (rfl)
theorem isT_bi : isT "bool" (.int x) = false := (rfl)
theorem isT_ll : isT "list" (.lst ds) = true := (rfl)
theorem isT_tt : isT "tuple" (.tup ds) = true := (rfl)
def kFor (asg:D -> Bool -> En -> Option En) (body:En -> Res Fl) (env:En) (s:Src) : Res Fl := forD asg s.fr body s.xs (frz env s.al)
theorem e_for (src:En -> Res Src) (asg:D -> Bool -> En -> Option En) (body:En -> Res Fl) (env:En) : fFor src asg body env = (src env).bind (kFor asg body env) := (rfl)
theorem e_kFor (asg:D -> Bool -> En -> Option En) (body:En -> Res Fl) (env:En) (xs:List D) : kFor asg body env ⟨xs,f,al⟩ = forD asg f body xs (frz env al) := (rfl)
def kSeq (r:R) : Res Src := match r.d with
  | .lst ds => .ok ⟨ds,r.fr,r.al⟩
  | .tup ds => .ok ⟨ds,r.fr,r.al⟩
  | _ => .stuck
theorem e_sSeq (a:En -> Res R) (env:En) : sSeq a env = (a env).bind kSeq := (rfl)
theorem e_kSeqVL:kSeq (.val (.lst ds) f al) = .ok ⟨ds,f,al⟩ := (rfl)
theorem e_kSeqVT:kSeq (.val (.tup ds) f al) = .ok ⟨ds,f,al⟩ := (rfl)
theorem e_kSeqN:kSeq (.new ds f) = .ok ⟨ds,f,[]⟩ := (rfl)
theorem e_kSeqFL:kSeq (.fre (.lst ds)) = .ok ⟨ds,true,[]⟩ := (rfl)
theorem e_kSeqFT:kSeq (.fre (.tup ds)) = .ok ⟨ds,true,[]⟩ := (rfl)
def kR1 (rs:List R) : Res Src := match rs.map R.d with
  | [.int j] => if cR j then .ok ⟨numsD 0 j.toNat,true,[]⟩ else .stuck
  | _ => .stuck
theorem e_sR1 (fs:En -> Res (List R)) (env:En) : sR1 fs env = (fs env).bind kR1 := (rfl)
theorem cR_of (h1:-4611686018427387904 <= x) (h2:x < 4611686018427387904) : cR x = true := by
  unfold cR; rw [Bool.and_eq_true]; exact ⟨decide_eq_true (by omega),decide_eq_true (by omega)⟩
theorem e_kR1 (h1:-4611686018427387904 <= x) (h2:x < 4611686018427387904) : kR1 [.val (.int x) f al] = .ok ⟨numsD 0 x.toNat,true,[]⟩ := if_pos (cR_of h1 h2)
def kEnum (rs:List R) : Res Src := match rs with
  | [r] => match r.d with
    | .lst ds => .ok ⟨enumD 0 ds,r.fr,r.al⟩
    | _ => .stuck
  | _ => .stuck
theorem e_sEnum (fs:En -> Res (List R)) (env:En) : sEnum fs env = (fs env).bind kEnum := (rfl)
theorem e_kEnumV:kEnum [.val (.lst ds) f al] = .ok ⟨enumD 0 ds,f,al⟩ := (rfl)
theorem e_kEnumN:kEnum [.new ds f] = .ok ⟨enumD 0 ds,f,[]⟩ := (rfl)
theorem e_kEnumF:kEnum [.fre (.lst ds)] = .ok ⟨enumD 0 ds,true,[]⟩ := (rfl)
theorem e_frz0:frz env [] = env := (rfl)
def kComp (n:Nat) (caps:List Nat) (asg:D -> Bool -> En -> Option En) (test:En -> Res Bool) (elt:En -> Res R) (env:En) (s:Src) : Res R := if s.xs.length <= lim then
  (compD (fun d => asg d s.fr (envB env n caps)) test elt s.xs).noX.bind fun rs => .ok (mkL (rs.map R.d) (rfrs rs) (s.al ++ caps.filter (isOwn env))) else .stuck
theorem e_comp (n:Nat) (caps:List Nat) (src:En -> Res Src) (asg:D -> Bool -> En -> Option En) (test:En -> Res Bool) (elt:En -> Res R) (env:En) :
    vComp n caps src asg test elt env = (src env).bind (kComp n caps asg test elt env) := (rfl)
theorem e_kComp {n:Nat} {caps:List Nat} {asg:D -> Bool -> En -> Option En} {test:En -> Res Bool} {elt:En -> Res R} {xs:List D} {rs:List R} (hl:xs.length <= 1000000)
    (h:compD (fun d => asg d f (envB env n caps)) test elt xs = .ok rs) : kComp n caps asg test elt env ⟨xs,f,al⟩ = .ok (mkL (rs.map R.d) (rfrs rs) (al ++ caps.filter (isOwn env))) := by
  unfold kComp; dsimp only; rw [if_pos (show xs.length <= lim from hl),h]; rfl
theorem compD_map {α:Type} {mk:D -> Option En} {test:En -> Res Bool} {elt:En -> Res R} (g:α -> D) (k:α -> R) : ∀ (xs:List α),(∀ a ∈ xs,∃ e,mk (g a) = some e /\ test e = .ok true /\ elt e = .ok (k a)) -> compD mk test elt (xs.map g) = .ok (xs.map k)
  | [],_ => rfl
  | a :: r,h => by
    obtain ⟨e,h1,h2,h3⟩ := h a (by simp)
    rw [List.map_cons,List.map_cons]
    unfold compD
    rw [h1]; dsimp only
    rw [h2]; dsimp only [Res.bind]
    rw [if_pos rfl,h3,compD_map g k r fun b hb => h b (by simp [hb])]
def kApp (i:Nat) (env:En) (ds:List D) (fr:Bool) (r:R) : Res Fl := if ds.length < lim /\ ¬ i ∈ r.al then .ok (.nx ((frz env r.al).set i (some (.own (ds ++ [r.d]) (fr && r.fr))))) else .stuck
def appAt (i:Nat) (a:En -> Res R) (env:En) : Option (Option Sl) -> Res Fl
  | some (some (.own ds fr)) => (a env).bind (kApp i env ds fr)
  | some (some (.tre (.lst ds))) => (a env).bind (kApp i env ds true)
  | _ => .stuck
theorem e_app (a:En -> Res R) (env:En) : fApp i a env = appAt i a env env[i]? := by
  unfold fApp ownOf appAt
  cases env[i]? with
  | none => rfl
  | some o => cases o with
    | none => rfl
    | some s => cases s with
      | tre d => cases d <;> rfl
      | _ => rfl
theorem e_appO (a:En -> Res R) : appAt i a env (some (some (.own ds f))) = (a env).bind (kApp i env ds f) := (rfl)
theorem e_appT (a:En -> Res R) : appAt i a env (some (some (.tre (.lst ds)))) = (a env).bind (kApp i env ds true) := (rfl)
theorem e_kApp {r:R} (h:ds.length < 1000000) (hr:r.al = []) : kApp i env ds f r = .ok (.nx (env.set i (some (.own (ds ++ [r.d]) (f && r.fr))))) := by
  unfold kApp; rw [hr]; rw [if_pos ⟨h,by simp⟩]; rfl
end
theorem flat_int (x:Int) : (D.int x).flat = true := (rfl)
theorem flat_bl (x:Bool) : (D.bl x).flat = true := (rfl)
theorem flat_str (x:Str) : (D.str x).flat = true := (rfl)
theorem flat_non:D.non.flat = true := (rfl)
theorem flat_tup (ds:List D) : (D.tup ds).flat = D.flats ds := (rfl)
theorem flat_lst (ds:List D) : (D.lst ds).flat = false := (rfl)
theorem flats_nil:D.flats [] = true := (rfl)
theorem flats_cons (d:D) (ds:List D) : D.flats (d :: ds) = (d.flat && D.flats ds) := (rfl)
theorem dep_int (x:Int) : (D.int x).dep = 0 := (rfl)
theorem dep_bl (x:Bool) : (D.bl x).dep = 0 := (rfl)
theorem dep_str (x:Str) : (D.str x).dep = 0 := (rfl)
theorem dep_non:D.non.dep = 0 := (rfl)
theorem dep_tup (ds:List D) : (D.tup ds).dep = D.deps ds + 1 := (rfl)
theorem dep_lst (ds:List D) : (D.lst ds).dep = D.deps ds + 1 := (rfl)
theorem deps_nil:D.deps [] = 0 := (rfl)
theorem deps_cons (d:D) (ds:List D) : D.deps (d :: ds) = max d.dep (D.deps ds) := (rfl)
theorem ret_rt (r:R) : retOf (.ok (.rt r)) = .ok r := (rfl)
theorem ret_nx (e:En) : retOf (.ok (.nx e)) = .ok (.val .non true []) := (rfl)
theorem r_d_val (d:D) (f:Bool) (al:List Nat) : (R.val d f al).d = d := (rfl)
theorem r_d_new (ds:List D) (f:Bool) : (R.new ds f).d = .lst ds := (rfl)
theorem r_d_fre (d:D) : (R.fre d).d = d := (rfl)
theorem r_fr_val (d:D) (f:Bool) (al:List Nat) : (R.val d f al).fr = f := (rfl)
theorem r_fr_new (ds:List D) (f:Bool) : (R.new ds f).fr = f := (rfl)
theorem r_fr_fre (d:D) : (R.fre d).fr = true := (rfl)
theorem r_al_val (d:D) (f:Bool) (al:List Nat) : (R.val d f al).al = al := (rfl)
theorem r_al_new (ds:List D) (f:Bool) : (R.new ds f).al = [] := (rfl)
theorem r_al_fre (d:D) : (R.fre d).al = [] := (rfl)
theorem b_ok {α β:Type} (a:α) (k:α -> Res β) : (Res.ok a).bind k = k a := (rfl)
def allD:D -> Res R
  | .lst ds => match bools ds with
    | some bs => .ok (.val (.bl (bs.all id)) true [])
    | none => .stuck
  | _ => .stuck
theorem e_all (r:R) : kAll [r] = allD r.d := by
  rcases r with ⟨d,f,al⟩ | ⟨ds,f⟩ | ⟨d⟩ <;> first | rfl | (cases d <;> rfl)
theorem allD_true {α:Type} (xs:List α) : allD (.lst (xs.map fun _ => D.bl true)) = .ok (.val (.bl true) true []) := by
  have:∀ xs:List α,bools (xs.map fun _ => D.bl true) = some (xs.map fun _ => true) := by
    intro xs
    induction xs with
    | nil => rfl
    | cons a r ih => rw [List.map_cons]; unfold bools; rw [ih]; rfl
  show (match bools (xs.map fun _ => D.bl true) with | some bs => Res.ok (R.val (D.bl (bs.all id)) true []) | none => Res.stuck) = _
  rw [this]; dsimp only
  congr 3
  rw [List.all_eq_true]
  intro x hx
  obtain ⟨_,_,rfl⟩ := List.mem_map.mp hx
  rfl
theorem c_0:((0:Nat) : Int) = 0 := (rfl)
theorem c_1:((1:Nat) : Int) = 1 := (rfl)
theorem c_2:((2:Nat) : Int) = 2 := (rfl)
theorem c_3:((3:Nat) : Int) = 3 := (rfl)
theorem c_4:((4:Nat) : Int) = 4 := (rfl)
theorem b_exc {α β:Type} (c:Str) (k:α -> Res β) : (Res.exc c:Res α).bind k = .exc c := (rfl)
theorem ret_exc (c:Str) : retOf (.exc c) = .exc c := (rfl)
def kRaise (c:Str) (rs:List R) : Res Fl := if rs.length <= lim then .exc c else .stuck
theorem e_raise (c:Str) (fs:En -> Res (List R)) (env:En) : fRaise c fs env = (fs env).bind (kRaise c) := (rfl)
theorem e_kRaise {c:Str} {rs:List R} (h:rs.length <= 1000000) : kRaise c rs = .exc c := if_pos h
theorem quiet_ok {α:Type} (a:α) : (Res.ok a).quiet = .ok a := (rfl)
theorem e_min {x y:Int} {f g:Bool} {al bl:List Nat} : kMin [.val (.int x) f al,.val (.int y) g bl] = .ok (.val (.int (if y < x then y else x)) true []) := (rfl)
theorem non_non:D.non.isNon = true := (rfl)
theorem non_int (x:Int) : (D.int x).isNon = false := (rfl)
theorem non_tup (x:List D) : (D.tup x).isNon = false := (rfl)
theorem non_lst (x:List D) : (D.lst x).isNon = false := (rfl)
theorem Res.noX_ok {α:Type} (a:α) : (Res.ok a).noX = .ok a := (rfl)
def inDD (neg:Bool) (a b:D) : Res R := match b with
  | .dic ks _ => inDic neg a ks
  | .lst ds => inD neg a ds
  | .tup ds => inD neg a ds
  | _ => .stuck
theorem e_inG (neg:Bool) (a b:R) : oInH neg a b = inDD neg a.d b.d := by
  unfold oInH oInG inDD
  cases b.d <;> rfl
theorem e_notIn (a b:R) : oNotInX a b = inDD true a.d b.d := e_inG true a b
theorem flat_dic (ks:List DK) (ds:List D) : (D.dic ks ds).flat = false := (rfl)
def addT (xs ys:List D) (f:Bool) (al:List Nat) : Res R := if xs.length + ys.length <= lim /\ xs ≠ [] then .ok (mkV (.tup (xs ++ ys)) f al) else .stuck
theorem e_addT {xs ys:List D} {f g:Bool} {al bl:List Nat} : oAdd (.val (.tup xs) f al) (.val (.tup ys) g bl) = addT xs ys (f && g) (al ++ bl) := (rfl)
theorem e_callFre {rs:List R} {d:D} (h:d.flat = false) : callR rs (.fre d) = .fre d := by
  show mkC d true rs = _
  unfold mkC; rw [if_neg (by rw [h]; simp),if_pos rfl]
theorem intsD_map:∀ k:List Int,intsD (k.map .int) = some k
  | [] => rfl
  | a :: r => by rw [List.map_cons]; unfold intsD; rw [intsD_map r]; rfl
theorem isT_bb {b : Bool} : isT "bool" (.bl b) = true := (rfl)
theorem e_rm (k:En -> Res Fl) (r:R) (e:En) : kS k (.rm r e) = .ok (.rm r e) := (rfl)
def kSetV (i:Nat) (env:En) (r:R) : Res Fl := if i < env.length then .ok (.nx ((frz env r.al).set i (some (.val r.d r.fr)))) else .stuck
theorem e_setV (i:Nat) (a:En -> Res R) (env:En) : fSetV i a env = (a env).bind (kSetV i env) := (rfl)
theorem e_kSetV {i:Nat} {env:En} {r:R} (h:i < env.length) : kSetV i env r = .ok (.nx ((frz env r.al).set i (some (.val r.d r.fr)))) := if_pos h
theorem e_minX2 (a b:R) : kMinX [a,b] = kMin [a,b] := (rfl)
def minXD:D -> Res R
  | .lst ds => match intsD ds with
    | some ns => if ns.isEmpty then .stuck else .ok (.val (.int (minL ns)) true [])
    | none => .stuck
  | _ => .stuck
theorem e_minX1 (r:R) : kMinX [r] = minXD r.d := by unfold kMinX minXD; rfl
theorem e_kTruL {ds:List D} {f:Bool} {al:List Nat} : kTru (.val (.lst ds) f al) = .ok (!ds.isEmpty) := (rfl)
def kSlX1 (fl fh:En -> Res (Option Int)) (env:En) (r:R) : Res R := (fl env).bind fun lo => (fh env).bind fun hi => oCutX r lo hi
def kSlX2 (fh:En -> Res (Option Int)) (env:En) (r:R) (lo:Option Int) : Res R := (fh env).bind fun hi => oCutX r lo hi
theorem e_sliceX (fa:En -> Res R) (fl fh:En -> Res (Option Int)) (env:En) : vSliceX fa fl fh env = (fa env).bind (kSlX1 fl fh env) := (rfl)
theorem e_kSlX1 (fl fh:En -> Res (Option Int)) (env:En) (r:R) : kSlX1 fl fh env r = (fl env).bind (kSlX2 fh env r) := (rfl)
theorem e_kSlX2 (fh:En -> Res (Option Int)) (env:En) (r:R) (lo:Option Int) : kSlX2 fh env r lo = (fh env).bind (oCutX r lo) := (rfl)
theorem e_cutXL {ds:List D} {f:Bool} {al:List Nat} (lo hi:Option Int) : oCutX (.val (.lst ds) f al) lo hi = .ok (mkL (cutA ds lo hi) f al) := (rfl)
theorem e_cutXN {ds:List D} {f:Bool} (lo hi:Option Int) : oCutX (.new ds f) lo hi = .ok (mkL (cutA ds lo hi) f []) := (rfl)
theorem e_cutXT {ds:List D} {f:Bool} {al:List Nat} (lo hi:Option Int) : oCutX (.val (.tup ds) f al) lo hi = .ok (mkV (.tup (cutA ds lo hi)) f al) := (rfl)
theorem e_cutXS {z:Str} {f:Bool} {al:List Nat} (lo hi:Option Int) (h:z.length <= 1000000) : oCutX (.val (.str z) f al) lo hi = .ok (.val (.str (Txt.slice z lo hi)) true []) := if_pos h
theorem e_pow60 {f g:Bool} {al bl:List Nat} : oPow (.val (.int 10) f al) (.val (.int 60) g bl) = .ok (.val (.int 1000000000000000000000000000000000000000000000000000000000000) true []) := (rfl)
def kTryA2b (i:Nat) (rs:List R) (cs:List Str) (suite:En -> Res Fl) (cs2:List Str) (suite2:En -> Res Fl) (env:En) : Res R -> Res Fl
  | .ok r => if i < env.length then .ok (.nx (put env i (callR rs r))) else .stuck
  | .exc c => kTry2 cs cs2 (suite env) (suite2 env) c
  | .stuck => .stuck
def kTryA2 (i:Nat) (F:List D -> Res R) (cs:List Str) (suite:En -> Res Fl) (cs2:List Str) (suite2:En -> Res Fl) (env:En) (rs:List R) : Res Fl := kTryA2b i rs cs suite cs2 suite2 env (F (rs.map R.d))
theorem e_tryA2 (i:Nat) (F:List D -> Res R) (fs:En -> Res (List R)) (cs:List Str) (suite:En -> Res Fl) (cs2:List Str) (suite2:En -> Res Fl) (env:En) : fTryA2 i F fs cs suite cs2 suite2 env = (fs env).noX.bind (kTryA2 i F cs suite cs2 suite2 env) := by
  unfold fTryA2; congr 1
theorem e_kTryA2 (i:Nat) (F:List D -> Res R) (cs:List Str) (suite:En -> Res Fl) (cs2:List Str) (suite2:En -> Res Fl) (env:En) (rs:List R) : kTryA2 i F cs suite cs2 suite2 env rs = kTryA2b i rs cs suite cs2 suite2 env (F (rs.map R.d)) := (rfl)
theorem e_kTryA2o {i:Nat} {rs:List R} {cs:List Str} {suite:En -> Res Fl} {cs2:List Str} {suite2:En -> Res Fl} {env:En} {r:R} (h:i < env.length) : kTryA2b i rs cs suite cs2 suite2 env (.ok r) = .ok (.nx (put env i (callR rs r))) := if_pos h
theorem e_kTryA2x {i:Nat} {rs:List R} {cs:List Str} {suite:En -> Res Fl} {cs2:List Str} {suite2:En -> Res Fl} {env:En} {c:Str} (h:cs.contains c = true) : kTryA2b i rs cs suite cs2 suite2 env (.exc c) = (suite env).quiet := if_pos h
theorem e_kTryA2y {i:Nat} {rs:List R} {cs:List Str} {suite:En -> Res Fl} {cs2:List Str} {suite2:En -> Res Fl} {env:En} {c:Str} (h:cs.contains c = false) (h2:cs2.contains c = true) : kTryA2b i rs cs suite cs2 suite2 env (.exc c) = (suite2 env).quiet := by
  show kTry2 cs cs2 (suite env) (suite2 env) c = _
  unfold kTry2; rw [if_neg (by rw [h]; simp),if_pos h2]
def kDis (i:Nat) (env:En) (s:Src) : Res Fl := if s.xs.length <= lim /\ i < env.length then .ok (.nx (env.set i (some (.dis (.lst (s.xs.map fun _ => .lst [])))))) else .stuck
theorem e_dis (i:Nat) (src:En -> Res Src) (env:En) : fDis i src env = (src env).bind (kDis i env) := (rfl)
theorem e_kDis {i:Nat} {env:En} {xs:List D} {f:Bool} {al:List Nat} (h:xs.length <= 1000000) (h2:i < env.length) : kDis i env ⟨xs,f,al⟩ = .ok (.nx (env.set i (some (.dis (.lst (xs.map fun _ => .lst [])))))) := if_pos ⟨h,h2⟩
def appDisAt (i:Nat) (fe fv:En -> Res R) (env:En) : Option (Option Sl) -> Res Fl
  | some (some (.dis (.lst ds))) => (fe env).bind (kAppDis1 i fv env ds)
  | _ => .stuck
theorem e_appDis (i:Nat) (fe fv:En -> Res R) (env:En) : fAppDis i fe fv env = appDisAt i fe fv env env[i]? := by unfold fAppDis appDisAt; rfl
theorem e_appDisAt {i:Nat} {fe fv:En -> Res R} {env:En} {ds:List D} : appDisAt i fe fv env (some (some (.dis (.lst ds)))) = (fe env).bind (kAppDis1 i fv env ds) := (rfl)
theorem e_kAppDis1 {i:Nat} {fv:En -> Res R} {env:En} {ds:List D} {k:Int} {f:Bool} {al:List Nat} {j:Nat} {es:List D} (h:ixN ds.length k = some j) (h2:ds[j]? = some (.lst es)) : kAppDis1 i fv env ds (.val (.int k) f al) = (fv env).bind (kAppDis3 i env ds j es) := by
  show kAppDis2 i fv env ds (ixN ds.length k) = _
  rw [h]; unfold kAppDis2; dsimp only; rw [h2]
theorem e_kAppDis3 {i:Nat} {env:En} {ds:List D} {j:Nat} {es:List D} {r:R} (h:r.d.flat = true) (h2:es.length < 1000000) (h3:ds.all lstFlat = true) : kAppDis3 i env ds j es r = .ok (.nx (env.set i (some (.dis (.lst (ds.set j (.lst (es ++ [r.d])))))))) := if_pos ⟨h,h2,h3⟩
theorem e_sZipX (fs:En -> Res (List R)) (env:En) : sZipX fs env = (fs env).bind kZipX := (rfl)
theorem e_kZipXL {ds es:List D} {f g:Bool} {al bl:List Nat} : kZipX [.val (.lst ds) f al,.val (.lst es) g bl] = .ok ⟨zipD ds es,f && g,al ++ bl⟩ := (rfl)
theorem e_kZipXT {ds es:List D} {f g:Bool} {al bl:List Nat} : kZipX [.val (.tup ds) f al,.val (.tup es) g bl] = .ok ⟨zipD ds es,f && g,al ++ bl⟩ := (rfl)
theorem e_ixAtDs {i:Nat} {fb:En -> Res R} {env:En} {d:D} : ixAt i fb env (some (some (.dis d))) = v2 oIx (vVar i) fb env := (rfl)
end L3
local macro_rules | `(tactic| simp_arith [$as,*] $[$l:location]?) => `(tactic| simp only [L3.runF,L3.startE,L3.e_ixAtDs,L3.e_atPDs,L3.e_sliceX,L3.e_kSlX1,L3.e_kSlX2,L3.e_cutXL,L3.e_cutXN,L3.e_cutXT,L3.e_cutXS,L3.e_pow60,L3.e_tryA2,L3.e_kTryA2,L3.e_kTryA2o,L3.e_dis,L3.e_kDis,L3.e_appDis,L3.e_appDisAt,L3.e_sZipX,L3.e_kZipXL,L3.e_kZipXT,L3.e_rm,L3.e_setV,L3.e_kSetV,L3.e_minX2,L3.e_minX1,L3.e_atP,L3.e_kTruL,decide_true,decide_false,List.map_cons,List.map_nil,List.length_cons,List.length_nil,List.replicate,List.cons_append,List.nil_append,List.append_nil,Nat.reduceAdd,Nat.max_self,Nat.zero_max,Nat.max_zero,Nat.zero_add,Nat.reduceSub,L3.e_seq,L3.e_set,L3.e_v2,L3.e_k2b,L3.e_var,L3.e_atV,L3.e_atO,L3.e_atT,L3.e_mkVt,L3.e_mkVf,L3.flat_int,L3.flat_bl,L3.flat_str,L3.flat_non,L3.flat_tup,L3.flat_lst,L3.flats_nil,L3.flats_cons,L3.dep_int,L3.dep_bl,L3.dep_str,L3.dep_non,L3.dep_tup,L3.dep_lst,L3.deps_nil,L3.deps_cons,L3.e_c,L3.b_ok,List.getElem?_cons_zero,List.getElem?_cons_succ,L3.e_mod,L3.e_div,L3.e_add,L3.e_sub,L3.e_mulR,Int.reduceLT,Int.reduceLE,Int.reduceNeg,L3.e_kset,L3.e_putV,L3.e_putN,L3.e_putF,L3.e_nx,L3.e_rt,List.set_cons_zero,List.set_cons_succ,Nat.reduceLT,Nat.reduceLeDiff,L3.e_if,L3.e_ifT,L3.e_ifF,L3.e_nil,L3.e_ret,L3.e_kret,L3.e_lt,L3.e_le,L3.e_ge,L3.e_eqI,L3.e_catVV,L3.e_catVN,L3.e_catNV,L3.e_catNN,L3.e_aNil,L3.e_aCons,L3.e_kCons,L3.e_kCons2,L3.e_tup,L3.e_kTup,L3.e_lst,L3.e_kLst,L3.rfrs_nil,L3.rfrs_cons,L3.rals_nil,L3.rals_cons,L3.e_call,L3.e_kCall,L3.e_kCall2,L3.e_callRt,L3.e_callRf,L3.e_callRv,L3.e_callRn,L3.e_callRnf,L3.e_B1,L3.e_len,L3.e_lenL,L3.e_lenT,L3.e_vB,L3.e_kB,L3.e_vTru,L3.e_kTru,L3.e_bNot,L3.e_kNotB,L3.e_bAnd,L3.e_bOr,L3.e_andT,L3.e_andF,L3.e_orT,L3.e_orF,L3.e_vAnd,L3.e_andVT,L3.e_andVF,L3.e_vNot,L3.e_notV,L3.e_ix,L3.e_ixL,L3.e_ixT,L3.e_ixD,L3.e_ixV,L3.e_ixAO,L3.e_ixAV,L3.e_ixAT,L3.e_kIxO,L3.at0,L3.at1,L3.at2,L3.at3,L3.e_oNone,L3.e_oSome,L3.e_kO,L3.e_isi,L3.e_kIsi,L3.isT_ii,L3.isT_bi,L3.isT_ll,L3.isT_tt,L3.e_for,L3.e_kFor,L3.e_sSeq,L3.e_kSeqVL,L3.e_kSeqVT,L3.e_kSeqN,L3.e_kSeqFL,L3.e_kSeqFT,L3.e_sR1,L3.e_sEnum,L3.e_kEnumV,L3.e_kEnumN,L3.e_kEnumF,L3.e_frz0,L3.non_non,L3.non_int,L3.non_tup,L3.non_lst,L3.b_exc,L3.ret_exc,L3.e_raise,L3.e_kRaise,L3.quiet_ok,L3.Res.noX_ok,L3.e_min,L3.c_0,L3.c_1,L3.c_2,L3.c_3,L3.c_4,Int.reduceBEq,L3.e_all,Bool.not_not,Nat.reduceEqDiff,L3.e_comp,L3.e_app,L3.e_appO,L3.e_appT,L3.r_d_val,L3.r_d_new,L3.r_d_fre,L3.r_fr_val,L3.r_fr_new,L3.r_fr_fre,L3.r_al_val,L3.r_al_new,L3.r_al_fre,Bool.and_true,Bool.true_and,Bool.and_false,Bool.false_and,Bool.and_self,Bool.not_true,Bool.not_false,L3.ret_rt,L3.ret_nx,L3.e_mkLt,L3.e_mkLt0,L3.e_notIn,L3.flat_dic,L3.e_addT,L3.isT_bb,L3.flat_dic,L3.e_callFre,$as,*] $[$l]?)
local macro_rules | `(tactic| simp_arith $[$l:location]?) => `(tactic| simp_arith [L3.b_ok] $[$l]?)
namespace L3
open PySem L2
theorem cutA_map {α β:Type} (g:α -> β) (xs:List α) (lo hi:Option Int) : cutA (xs.map g) lo hi = (cutA xs lo hi).map g := by
  unfold cutA; rw [List.length_map,List.map_take,List.map_drop]
theorem cutA_len {α:Type} (xs:List α) (lo hi:Option Int) : (cutA xs lo hi).length <= xs.length := by
  unfold cutA; rw [List.length_take,List.length_drop]; omega
theorem flats_of {ds:List D} : (∀ d ∈ ds,d.flat = true) -> D.flats ds = true := by
  induction ds with
  | nil => intro _; rfl
  | cons d r ih => intro h; rw [flats_cons,h d (by simp),ih fun x hx => h x (by simp [hx])]; rfl
theorem flats_map {α:Type} (g:α -> D) (xs:List α) (h:∀ a,(g a).flat = true) : D.flats (xs.map g) = true :=
  flats_of fun d hd => by obtain ⟨a,_,rfl⟩ := List.mem_map.mp hd; exact h a
theorem flats_ints (xs:List Int) : D.flats (xs.map D.int) = true := flats_map _ _ flat_int
theorem deps_le {ds:List D} {n:Nat} : (∀ d ∈ ds,d.dep <= n) -> D.deps ds <= n := by
  induction ds with
  | nil => intro _; rw [deps_nil]; omega
  | cons d r ih =>
    intro h
    have h1 := h d (by simp)
    have h2 := ih fun x hx => h x (by simp [hx])
    rw [deps_cons]; omega
theorem deps_map {α:Type} {g:α -> D} {xs:List α} {n:Nat} (h:∀ a,(g a).dep <= n) : D.deps (xs.map g) <= n :=
  deps_le fun d hd => by obtain ⟨a,_,rfl⟩ := List.mem_map.mp hd; exact h a
theorem deps_ints (xs:List Int) : D.deps (xs.map D.int) <= 0 := deps_map fun _ => Nat.le_refl 0
theorem map_d {α:Type} (g:α -> D) (fr:Bool) (al:List Nat) (xs:List α) : (xs.map fun a => R.val (g a) fr al).map R.d = xs.map g := by rw [List.map_map]; rfl
theorem enumD_map {α:Type} (g:α -> D) : ∀ (xs:List α) (n:Nat),enumD n (xs.map g) = (xs.zipIdx n).map fun p => .tup [.int (p.2:Nat),g p.1]
  | [],_ => rfl
  | a :: r,n => by rw [List.map_cons,List.zipIdx_cons,List.map_cons]; unfold enumD; rw [enumD_map g r (n + 1)]
theorem numsD_0 (n:Nat) : numsD 0 n = (List.range n).map fun k => .int (k:Nat) := by
  unfold numsD; congr 1; funext k; simp
theorem forD_inv {α:Type} (g:α -> D) {asg:D -> Bool -> En -> Option En} {fr:Bool} {body:En -> Res Fl} (P:List α -> En -> Prop) : ∀ (xs pre:List α) (env:En),P pre env ->
    (∀ (pre post:List α) (a:α) (env:En),(∀ b ∈ pre,b ∈ pre) -> P pre env -> a ∈ xs -> ∃ env1 env2,asg (g a) fr env = some env1 /\ body env1 = .ok (.nx env2) /\ P (pre ++ [a]) env2) ->
    ∃ env',forD asg fr body (xs.map g) env = .ok (.nx env') /\ P (pre ++ xs) env'
  | [],pre,env,h,_ => ⟨env,rfl,by rw [List.append_nil]; exact h⟩
  | a :: r,pre,env,h,st => by
    obtain ⟨env1,env2,h1,h2,h3⟩ := st pre [] a env (fun _ z => z) h (by simp)
    obtain ⟨env',e1,e2⟩ := forD_inv g P r (pre ++ [a]) env2 h3 fun p q b e z hp hb => st p q b e z hp (by simp [hb])
    refine ⟨env',?_,by rw [List.append_assoc] at e2; exact e2⟩
    rw [List.map_cons]
    unfold forD
    rw [h1]; dsimp only
    rw [h2]; exact e1
theorem forD_at {α:Type} (g:α -> D) {asg:D -> Bool -> En -> Option En} {fr:Bool} {body:En -> Res Fl} (all:List α) (P:List α -> En -> Prop) : ∀ (xs pre:List α) (env:En),all = pre ++ xs -> P pre env ->
    (∀ (pre post:List α) (a:α) (env:En),all = pre ++ a :: post -> P pre env -> ∃ env1 env2,asg (g a) fr env = some env1 /\ body env1 = .ok (.nx env2) /\ P (pre ++ [a]) env2) ->
    ∃ env',forD asg fr body (xs.map g) env = .ok (.nx env') /\ P all env'
  | [],pre,env,e,h,_ => ⟨env,rfl,by rw [e,List.append_nil]; exact h⟩
  | a :: r,pre,env,e,h,st => by
    obtain ⟨env1,env2,h1,h2,h3⟩ := st pre r a env e h
    obtain ⟨env',e1,e2⟩ := forD_at g all P r (pre ++ [a]) env2 (by rw [e]; simp) h3 st
    refine ⟨env',?_,e2⟩
    rw [List.map_cons]
    unfold forD
    rw [h1]; dsimp only
    rw [h2]; exact e1
theorem atI_map {α β:Type} (g:α -> β) (xs:List α) (k:Int) : atI (xs.map g) k = (atI xs k).map g := by
  unfold atI; rw [List.length_map]
  cases ixN xs.length k with
  | none => rfl
  | some j => simp
theorem atI_in {α:Type} {xs:List α} {k:Int} (h0:0 <= k) (h:k < xs.length) : ∃ a,atI xs k = some a /\ xs[k.toNat]? = some a := by
  unfold atI ixN; rw [if_pos h0,if_pos h]
  have:k.toNat < xs.length := by omega
  exact ⟨xs[k.toNat],by simp [this],by simp [this]⟩
structure Rl where
  room:Int
  sign:Int
  to:Int
  put:List Int
def Rl.d (r:Rl) : D := .tup [.int r.room,.int r.sign,.int r.to,.tup (r.put.map .int)]
theorem Rl.flat (r:Rl) : r.d.flat = true := by unfold Rl.d; simp only [flat_tup,flats_cons,flat_int,flats_ints,flats_nil,Bool.and_self]
theorem Rl.dep (r:Rl) : r.d.dep <= 2 := by
  have := deps_ints r.put
  unfold Rl.d; simp only [dep_tup,deps_cons,dep_int,deps_nil]; omega
end L3
namespace W
open PySem PySem.Spec PyProof.Rows L2 L3
def top (i:Nat) : Stmt := PySem.Challenge.pw_callwalk_k54_points.main.body.getD i (.Pass ⟨0,0,0,0⟩)
abbrev s__law_cell_at:Stmt := top 7
abbrev N__law_cell_at : List Str := ["_law_script", "_law_k"]
abbrev P__law_cell_at : List Str := ["_law_script", "_law_k"]
theorem sc__law_cell_at:FnScope N__law_cell_at P__law_cell_at (defScope s__law_cell_at) := ⟨rfl,rfl,rfl,by decide +kernel,rfl,by decide +kernel,by decide +kernel⟩
def B__law_cell_at:En -> Res Fl :=
    (fSeq (fIf (vB (v2 oLt (vVar 1) (vB1 kLen (aCons (vVar 0) aNil)))) (fRet (v2 oMod (vIxV 0 (vVar 1)) (v2 oPow (vC (.int 10)) (vC (.int 60))))) fNil)
    (fRet (vC (.int 0))))
def F__law_cell_at:List D -> Res R := runF N__law_cell_at B__law_cell_at
abbrev s__law_digit:Stmt := top 8
abbrev N__law_digit : List Str := ["_law_cell", "_law_prime", "_law_many"]
abbrev P__law_digit : List Str := ["_law_cell", "_law_prime", "_law_many"]
theorem sc__law_digit:FnScope N__law_digit P__law_digit (defScope s__law_digit) := ⟨rfl,rfl,rfl,by decide +kernel,rfl,by decide +kernel,by decide +kernel⟩
def B__law_digit:En -> Res Fl :=
    (fRet (v2 oMod (v2 oMod (v2 oAdd (v2 oMul (v2 oMod (vVar 0) (v2 oPow (vC (.int 10)) (vC (.int 60)))) (vC (.int 48271))) (vC (.int 11))) (vVar 1)) (vVar 2)))
def F__law_digit:List D -> Res R := runF N__law_digit B__law_digit
abbrev s__law_names:Stmt := top 9
abbrev N__law_names : List Str := ["_law_cell", "_law_others", "_law_size", "_law_base", "_law_k", "_law_spot", "_law_lot", "_law_sign", "_law_name", "_law_at"]
abbrev P__law_names : List Str := ["_law_cell"]
theorem sc__law_names:FnScope N__law_names P__law_names (defScope s__law_names) := ⟨rfl,rfl,rfl,by decide +kernel,rfl,by decide +kernel,by decide +kernel⟩
def L__law_names_1:En -> Res Fl := fun env =>
    (fSet 3 (v2 oAdd (vVar 3) (v2 oIx (vC (.str "abcdefghijklmnopqrstuvwxyz")) (vCall F__law_digit (aCons (v2 oAdd (vVar 0) (v2 oMul (v2 oMul (vC (.int 5)) (vVar 4)) (vVar 4))) (aCons (vC (.int 1093)) (aCons (vC (.int 26)) aNil))))))) env
def L__law_names_2:En -> Res Fl := fun env =>
    (fSeq (fSet 7 (v2 oIx (vC (.str "bcdefghjklopqrstuvwxyz")) (v2 oMod (v2 oAdd (vVar 0) (v2 oMul (vVar 4) (v2 oAdd (vC (.int 1)) (v2 oMod (v2 oDiv (vVar 0) (vC (.int 22))) (vC (.int 7)))))) (vC (.int 22)))))
    (fSeq (fSet 8 (v2 oAdd (v2 oAdd (vSliceX (vVar 3) oNone (oSome (vVar 5))) (vVar 7)) (vSliceX (vVar 3) (oSome (v2 oAdd (vVar 5) (vC (.int 1)))) oNone)))
    (fSeq (fIf (vB (v2 oEq (vVar 6) (vC (.int 2)))) (fSet 8 (v2 oAdd (vC (.str "main")) (vVar 7))) fNil)
    (fSeq (fIf (vB (v2 oEq (vVar 6) (vC (.int 3)))) (fSet 8 (vSliceX (vC (.str "main")) oNone (oSome (v2 oAdd (vC (.int 1)) (vVar 4))))) fNil)
    (fApp 1 (vVar 8)))))) env
def B__law_names:En -> Res Fl :=
    (fSeq (fSet 1 (vLst aNil))
    (fSeq (fSet 2 (v2 oAdd (vC (.int 1)) (vCall F__law_digit (aCons (vVar 0) (aCons (vC (.int 1063)) (aCons (vC (.int 8)) aNil))))))
    (fSeq (fSet 3 (vC (.str "")))
    (fSeq (fFor (sR1 (aCons (vVar 2) aNil)) (gN 4) L__law_names_1)
    (fSeq (fSetV 5 (vCall F__law_digit (aCons (vVar 0) (aCons (vC (.int 1069)) (aCons (vVar 2) aNil)))))
    (fSeq (fSetV 6 (vCall F__law_digit (aCons (vVar 0) (aCons (vC (.int 1087)) (aCons (vC (.int 4)) aNil)))))
    (fSeq (fFor (sR1 (aCons (vCall F__law_digit (aCons (vVar 0) (aCons (vC (.int 1061)) (aCons (vC (.int 4)) aNil)))) aNil)) (gN 4) L__law_names_2)
    (fSeq (fSetV 9 (vCall F__law_digit (aCons (vVar 0) (aCons (vC (.int 1091)) (aCons (v2 oAdd (vB1 kLen (aCons (vVar 1) aNil)) (vC (.int 1))) aNil)))))
    (fRet (v2 oAdd (v2 oAdd (vSliceX (vVar 1) oNone (oSome (vVar 9))) (vLst (aCons (vC (.str "main")) aNil))) (vSliceX (vVar 1) (oSome (vVar 9)) oNone)))))))))))
def F__law_names:List D -> Res R := runF N__law_names B__law_names
abbrev s__law_row:Stmt := top 10
abbrev N__law_row : List Str := ["_law_cell", "_law_values", "_law_many", "_law_names_here", "_law_last", "_law_lot", "_law_side", "_law_which", "_law_number", "_law_goal"]
abbrev P__law_row : List Str := ["_law_cell", "_law_values", "_law_many", "_law_names_here", "_law_last"]
theorem sc__law_row:FnScope N__law_row P__law_row (defScope s__law_row) := ⟨rfl,rfl,rfl,by decide +kernel,rfl,by decide +kernel,by decide +kernel⟩
def B__law_row_13:En -> Res Fl := fun env =>
    (fRet (vTup (aCons (vC (.str "skip")) aNil))) env
def B__law_row_12:En -> Res Fl := fun env =>
    (fSeq (fIf (vB (v2 oGe (vVar 5) (vC (.int 10)))) (fRet (vTup (aCons (v2 oIx (vLst (aCons (vC (.str "back")) (aCons (vC (.str "stop")) aNil))) (v2 oSub (vVar 5) (vC (.int 10)))) aNil))) fNil)
    B__law_row_13) env
def B__law_row_11:En -> Res Fl := fun env =>
    (fSeq (fIf (bAnd (vB (v2 oGe (vVar 5) (vC (.int 7)))) (vB (v2 oLe (vVar 5) (vC (.int 9))))) (fRet (vTup (aCons (v2 oIx (vLst (aCons (vC (.str "go")) (aCons (vC (.str "fork")) (aCons (vC (.str "fork")) aNil)))) (v2 oSub (vVar 5) (vC (.int 7)))) (aCons (vVar 9) aNil)))) fNil)
    B__law_row_12) env
def B__law_row_10:En -> Res Fl := fun env =>
    (fSeq (fIf (bOr (vB (v2 oEq (vVar 5) (vC (.int 5)))) (vB (v2 oEq (vVar 5) (vC (.int 6))))) (fRet (vTup (aCons (vC (.str "if")) (aCons (vVar 7) (aCons (vVar 8) (aCons (vVar 9) aNil)))))) fNil)
    B__law_row_11) env
def B__law_row_9:En -> Res Fl := fun env =>
    (fSeq (fIf (bOr (vB (v2 oEq (vVar 5) (vC (.int 3)))) (vB (v2 oEq (vVar 5) (vC (.int 4))))) (fRet (vTup (aCons (v2 oIx (vLst (aCons (vC (.str "any")) (aCons (vC (.str "turn")) aNil))) (v2 oSub (vVar 5) (vC (.int 3)))) (aCons (vVar 7) aNil)))) fNil)
    B__law_row_10) env
def B__law_row_8:En -> Res Fl := fun env =>
    (fSeq (fIf (bOr (vB (v2 oEq (vVar 5) (vC (.int 1)))) (vB (v2 oEq (vVar 5) (vC (.int 2))))) (fRet (vTup (aCons (vC (.str "set")) (aCons (vVar 7) (aCons (vVar 8) aNil))))) fNil)
    B__law_row_9) env
def B__law_row_7:En -> Res Fl := fun env =>
    (fSeq (fIf (vB (v2 oGe (vVar 5) (vC (.int 12)))) (fRet (vTup (aCons (vC (.str "call")) (aCons (vIxV 3 (vCall F__law_digit (aCons (vVar 0) (aCons (vC (.int 1031)) (aCons (vB1 kLen (aCons (vVar 3) aNil)) aNil))))) aNil)))) fNil)
    B__law_row_8) env
def B__law_row_6:En -> Res Fl := fun env =>
    (fSeq (fSetV 9 (vCall F__law_digit (aCons (vVar 0) (aCons (vC (.int 1021)) (aCons (vVar 2) aNil)))))
    B__law_row_7) env
def B__law_row_5:En -> Res Fl := fun env =>
    (fSeq (fSetV 8 (vCall F__law_digit (aCons (vVar 0) (aCons (vC (.int 1019)) (aCons (vIxV 1 (vVar 6)) aNil)))))
    B__law_row_6) env
def B__law_row_4:En -> Res Fl := fun env =>
    (fSeq (fSet 7 (v2 oIx (vLst (aCons (vC (.str "shared")) (aCons (vC (.str "own")) aNil))) (vVar 6)))
    B__law_row_5) env
def B__law_row_3:En -> Res Fl := fun env =>
    (fSeq (fSetV 6 (vCall F__law_digit (aCons (vVar 0) (aCons (vC (.int 1013)) (aCons (vC (.int 2)) aNil)))))
    B__law_row_4) env
def B__law_row_2:En -> Res Fl := fun env =>
    (fSeq (fIf (vTru (vVar 4)) (fSet 5 (v2 oIx (vLst (aCons (vC (.int 7)) (aCons (vC (.int 10)) (aCons (vC (.int 11)) aNil)))) (vCall F__law_digit (aCons (vVar 0) (aCons (vC (.int 1009)) (aCons (vC (.int 3)) aNil)))))) fNil)
    B__law_row_3) env
def B__law_row:En -> Res Fl :=
    (fSeq (fSetV 5 (vCall F__law_digit (aCons (vVar 0) (aCons (vC (.int 1009)) (aCons (vC (.int 14)) aNil)))))
    B__law_row_2)
def F__law_row:List D -> Res R := runF N__law_row B__law_row
abbrev s__law_program:Stmt := top 11
abbrev N__law_program : List Str := ["_law_cells_here", "_law_values", "_law_names_here", "_law_seed", "_law_dealt", "_law_cell", "_law_procedures", "_law_k", "_law_name", "_law_own", "_law_rows", "_law_at"]
abbrev P__law_program : List Str := ["_law_cells_here", "_law_values", "_law_names_here", "_law_seed"]
theorem sc__law_program:FnScope N__law_program P__law_program (defScope s__law_program) := ⟨rfl,rfl,rfl,by decide +kernel,rfl,by decide +kernel,by decide +kernel⟩
theorem ndc__law_program_1 : ((["_law_name"] : List Str) ++ ([] : List Str)).Nodup := by decide +kernel
def L__law_program_1:En -> Res Fl := fun env =>
    (fAppDis 4 (vCall F__law_digit (aCons (vVar 5) (aCons (vC (.int 1051)) (aCons (vB1 kLen (aCons (vVar 2) aNil)) aNil)))) (vVar 5)) env
def L__law_program_2:En -> Res Fl := fun env =>
    (fApp 10 (vCall F__law_row (aCons (vVar 5) (aCons (vVar 1) (aCons (vB1 kLen (aCons (vVar 9) aNil)) (aCons (vVar 2) (aCons (v2 oEq (vVar 11) (v2 oSub (vB1 kLen (aCons (vVar 9) aNil)) (vC (.int 1)))) aNil))))))) env
def L__law_program_3:En -> Res Fl := fun env =>
    (fSeq (fSet 9 (v2 oAdd (vIxV 4 (vVar 7)) (vLst (aCons (v2 oAdd (vVar 3) (v2 oMul (v2 oMul (vC (.int 7)) (vVar 7)) (vVar 7))) aNil))))
    (fSeq (fSet 10 (vLst aNil))
    (fSeq (fFor (sEnum (aCons (vVar 9) aNil)) (gT 2 (gsCons (gN 11) (gsCons (gN 5) gsNil))) L__law_program_2)
    (fApp 6 (vTup (aCons (vVar 8) (aCons (vVar 10) aNil))))))) env
def B__law_program:En -> Res Fl :=
    (fSeq (fDis 4 (sSeq (vVar 2)))
    (fSeq (fFor (sSeq (vVar 0)) (gN 5) L__law_program_1)
    (fSeq (fSet 6 (vLst aNil))
    (fSeq (fFor (sEnum (aCons (vVar 2) aNil)) (gT 2 (gsCons (gN 7) (gsCons (gN 8) gsNil))) L__law_program_3)
    (fRet (vTup (aCons (vIxV 1 (vC (.int 0))) (aCons (vIxV 1 (vC (.int 1))) (aCons (vVar 6) aNil)))))))))
def F__law_program:List D -> Res R := runF N__law_program B__law_program
abbrev s__law_cells:Stmt := top 12
abbrev N__law_cells : List Str := ["_law_script", "_law_cell", "_law_cells_here", "_law_k"]
abbrev P__law_cells : List Str := ["_law_script", "_law_cell"]
theorem sc__law_cells:FnScope N__law_cells P__law_cells (defScope s__law_cells) := ⟨rfl,rfl,rfl,by decide +kernel,rfl,by decide +kernel,by decide +kernel⟩
def L__law_cells_1:En -> Res Fl := fun env =>
    (fApp 2 (v2 oAdd (vVar 1) (v2 oMul (v2 oMul (vC (.int 1051)) (vVar 3)) (vVar 3)))) env
def B__law_cells:En -> Res Fl :=
    (fSeq (fSet 2 (vSliceX (vVar 0) (oSome (vC (.int 2))) (oSome (vC (.int 102)))))
    (fSeq (fIf (vB (v2 oEq (vCall F__law_digit (aCons (vVar 1) (aCons (vC (.int 1049)) (aCons (vC (.int 8)) aNil)))) (vC (.int 3)))) (fFor (sR1 (aCons (v2 oAdd (vC (.int 40)) (vCall F__law_digit (aCons (vVar 1) (aCons (vC (.int 1103)) (aCons (vC (.int 61)) aNil))))) aNil)) (gN 3) L__law_cells_1) fNil)
    (fRet (vVar 2))))
def F__law_cells:List D -> Res R := runF N__law_cells B__law_cells
abbrev s__law_stranger:Stmt := top 17
abbrev N__law_stranger : List Str := ["_law_names_here", "_law_name"]
abbrev P__law_stranger : List Str := ["_law_names_here"]
theorem sc__law_stranger:FnScope N__law_stranger P__law_stranger (defScope s__law_stranger) := ⟨rfl,rfl,rfl,by decide +kernel,rfl,by decide +kernel,by decide +kernel⟩
def L__law_stranger_1:En -> Res Fl := fun env =>
    (fIf (vB (v2 oNotInX (vVar 1) (vVar 0))) (fRet (vVar 1)) fNil) env
def B__law_stranger:En -> Res Fl :=
    (fSeq (fFor (sSeq (vLst (aCons (vC (.str "mains")) (aCons (vC (.str "mai")) (aCons (vC (.str "o")) (aCons (vC (.str "other")) (aCons (vC (.str "zzzzzzzz")) (aCons (vC (.str "maim")) aNil)))))))) (gN 1) L__law_stranger_1)
    (fRet (vC (.str "nobody"))))
def F__law_stranger:List D -> Res R := runF N__law_stranger B__law_stranger
abbrev s_point_of:Stmt := top 5
abbrev N_point_of : List Str := ["program", "name", "row", "first", "other", "rows"]
abbrev P_point_of : List Str := ["program", "name", "row"]
theorem sc_point_of:FnScope N_point_of P_point_of (defScope s_point_of) := ⟨rfl,rfl,rfl,by decide +kernel,rfl,by decide +kernel,by decide +kernel⟩
def L_point_of_1:En -> Res Fl := fun env =>
    (fSeq (fIf (vB (v2 oEq (vVar 4) (vVar 1))) (fSeq (fIf (bOr (vB (v2 oLt (vVar 2) (vC (.int 0)))) (vB (v2 oGe (vVar 2) (vB1 kLen (aCons (vVar 5) aNil))))) (fRaise "NoRow" (aCons (vC (.str "the procedure has no row of this number")) aNil)) fNil)
    (fRet (v2 oAdd (vVar 3) (vVar 2)))) fNil)
    (fSet 3 (v2 oAdd (vVar 3) (vB1 kLen (aCons (vVar 5) aNil))))) env
def B_point_of:En -> Res Fl :=
    (fSeq (fSet 3 (vC (.int 0)))
    (fSeq (fFor (sSeq (vIxV 0 (vC (.int 2)))) (gT 2 (gsCons (gN 4) (gsCons (gN 5) gsNil))) L_point_of_1)
    (fRaise "NoName" (aCons (vC (.str "no procedure has this name")) aNil))))
def F_point_of:List D -> Res R := runF N_point_of B_point_of
abbrev s__law_point:Stmt := top 18
abbrev N__law_point : List Str := ["_law_program_here", "_law_name", "_law_row_here", "_law_word", "_law_found"]
abbrev P__law_point : List Str := ["_law_program_here", "_law_name", "_law_row_here"]
theorem sc__law_point:FnScope N__law_point P__law_point (defScope s__law_point) := ⟨rfl,rfl,rfl,by decide +kernel,rfl,by decide +kernel,by decide +kernel⟩
def L__law_point_1:En -> Res Fl := fun env =>
    (fSet 3 (vC (.str "name"))) env
def L__law_point_2:En -> Res Fl := fun env =>
    (fSet 3 (vC (.str "row"))) env
def B__law_point:En -> Res Fl :=
    (fSeq (fSet 3 (vC (.str "none")))
    (fSeq (fSet 4 (vC .non))
    (fSeq (fTryA2 4 F_point_of (aCons (vVar 0) (aCons (vVar 1) (aCons (vVar 2) aNil))) ["NoName"] L__law_point_1 ["NoRow"] L__law_point_2)
    (fRet (vTup (aCons (vVar 3) (aCons (vVar 4) aNil)))))))
def F__law_point:List D -> Res R := runF N__law_point B__law_point
abbrev s__law_whole:Stmt := top 13
abbrev N__law_whole : List Str := ["_law_found"]
abbrev P__law_whole : List Str := ["_law_found"]
theorem sc__law_whole:FnScope N__law_whole P__law_whole (defScope s__law_whole) := ⟨rfl,rfl,rfl,by decide +kernel,rfl,by decide +kernel,by decide +kernel⟩
def B__law_whole:En -> Res Fl :=
    (fRet (vAnd (vIsi "int" (vVar 0)) (vNot (vIsi "bool" (vVar 0)))))
def F__law_whole:List D -> Res R := runF N__law_whole B__law_whole
abbrev s__law_asked:Stmt := top 19
abbrev N__law_asked : List Str := ["_law_program_here", "_law_due", "_law_cell", "_law_names_here", "_law_at", "_law_many", "_law_row_here", "_law_name", "_law_found", "_law_before"]
abbrev P__law_asked : List Str := ["_law_program_here", "_law_due", "_law_cell"]
theorem sc__law_asked:FnScope N__law_asked P__law_asked (defScope s__law_asked) := ⟨rfl,rfl,rfl,by decide +kernel,rfl,by decide +kernel,by decide +kernel⟩
theorem ndc__law_asked_1 : ((["_law_one"] : List Str) ++ ([] : List Str)).Nodup := by decide +kernel
theorem ndc__law_asked_2 : ((["_law_k"] : List Str) ++ (["_law_due"] : List Str)).Nodup := by decide +kernel
def E__law_asked_1:En -> Res R := fun env =>
    (vIxV 0 (vC (.int 0))) env
def E__law_asked_2:En -> Res R := fun env =>
    (vB1 kLen (aCons (v2 oIx (v2 oIx (vIxV 1 (vC (.int 2))) (vVar 0)) (vC (.int 1))) aNil)) env
def B__law_asked_12:En -> Res Fl := fun env =>
    (fRet (vAnd (v2 oEq (vIxV 8 (vC (.int 0))) (vC (.str "none"))) (vAnd (vCall F__law_whole (aCons (vIxV 8 (vC (.int 1))) aNil)) (v2 oEq (vIxV 8 (vC (.int 1))) (v2 oAdd (vVar 9) (vVar 6)))))) env
def B__law_asked_11:En -> Res Fl := fun env =>
    (fSeq (fSet 9 (vB1 kSum (aCons (vComp 1 [1] (sR1 (aCons (vVar 4) aNil)) (gN 0) (fun _ => .ok true) E__law_asked_2) aNil)))
    B__law_asked_12) env
def B__law_asked_10:En -> Res Fl := fun env =>
    (fSeq (fIf (bOr (vB (v2 oLt (vVar 6) (vC (.int 0)))) (vB (v2 oGe (vVar 6) (vVar 5)))) (fRet (v2 oEq (vIxV 8 (vC (.int 0))) (vC (.str "row")))) fNil)
    B__law_asked_11) env
def B__law_asked_9:En -> Res Fl := fun env =>
    (fSeq (fIf (vB (v2 oNotInX (vVar 7) (vVar 3))) (fRet (v2 oEq (vIxV 8 (vC (.int 0))) (vC (.str "name")))) fNil)
    B__law_asked_10) env
def B__law_asked_8:En -> Res Fl := fun env =>
    (fSeq (fSetV 8 (vCall F__law_point (aCons (vVar 0) (aCons (vVar 7) (aCons (vVar 6) aNil)))))
    B__law_asked_9) env
def B__law_asked_7:En -> Res Fl := fun env =>
    (fSeq (fIf (vB (v2 oEq (vCall F__law_digit (aCons (vVar 2) (aCons (vC (.int 1187)) (aCons (vC (.int 5)) aNil)))) (vC (.int 2)))) (fSetV 7 (vCall F__law_stranger (aCons (vVar 3) aNil))) fNil)
    B__law_asked_8) env
def B__law_asked_6:En -> Res Fl := fun env =>
    (fSeq (fSet 7 (vIxV 3 (vVar 4)))
    B__law_asked_7) env
def B__law_asked_5:En -> Res Fl := fun env =>
    (fSeq (fIf (vB (v2 oEq (vCall F__law_digit (aCons (vVar 2) (aCons (vC (.int 1181)) (aCons (vC (.int 7)) aNil)))) (vC (.int 3)))) (fSet 6 (v2 oPow (vC (.int 10)) (vC (.int 60)))) fNil)
    B__law_asked_6) env
def B__law_asked_4:En -> Res Fl := fun env =>
    (fSeq (fSet 6 (v2 oSub (vCall F__law_digit (aCons (vVar 2) (aCons (vC (.int 9941)) (aCons (v2 oAdd (vVar 5) (vC (.int 5))) aNil)))) (vC (.int 2))))
    B__law_asked_5) env
def B__law_asked_3:En -> Res Fl := fun env =>
    (fSeq (fSet 5 (vB1 kLen (aCons (v2 oIx (v2 oIx (vIxV 1 (vC (.int 2))) (vVar 4)) (vC (.int 1))) aNil)))
    B__law_asked_4) env
def B__law_asked_2:En -> Res Fl := fun env =>
    (fSeq (fSetV 4 (vCall F__law_digit (aCons (vVar 2) (aCons (vC (.int 1171)) (aCons (vB1 kLen (aCons (vVar 3) aNil)) aNil)))))
    B__law_asked_3) env
def B__law_asked:En -> Res Fl :=
    (fSeq (fSet 3 (vComp 1 [] (sSeq (vIxV 1 (vC (.int 2)))) (gN 0) (fun _ => .ok true) E__law_asked_1))
    B__law_asked_2)
def F__law_asked:List D -> Res R := runF N__law_asked B__law_asked
abbrev s__law_row_same:Stmt := top 14
abbrev N__law_row_same : List Str := ["_law_found", "_law_due", "_law_one", "_law_word"]
abbrev P__law_row_same : List Str := ["_law_found", "_law_due"]
theorem sc__law_row_same:FnScope N__law_row_same P__law_row_same (defScope s__law_row_same) := ⟨rfl,rfl,rfl,by decide +kernel,rfl,by decide +kernel,by decide +kernel⟩
def L__law_row_same_1:En -> Res Fl := fun env =>
    (fSeq (fIf (bAnd (vTru (vIsi "str" (vVar 3))) (bNot (vTru (vIsi "str" (vVar 2))))) (fRet (vC (.bl false))) fNil)
    (fIf (bAnd (vTru (vIsi "int" (vVar 3))) (bNot (vTru (vCall F__law_whole (aCons (vVar 2) aNil))))) (fRet (vC (.bl false))) fNil)) env
def B__law_row_same:En -> Res Fl :=
    (fSeq (fIf (bOr (bNot (vTru (vIsi "tuple" (vVar 0)))) (vB (v2 oNe (vB1 kLen (aCons (vVar 0) aNil)) (vB1 kLen (aCons (vVar 1) aNil))))) (fRet (vC (.bl false))) fNil)
    (fSeq (fFor (sZipX (aCons (vVar 0) (aCons (vVar 1) aNil))) (gT 2 (gsCons (gN 2) (gsCons (gN 3) gsNil))) L__law_row_same_1)
    (fRet (v2 oEq (vVar 0) (vVar 1)))))
def F__law_row_same:List D -> Res R := runF N__law_row_same B__law_row_same
abbrev s__law_rows_same:Stmt := top 15
abbrev N__law_rows_same : List Str := ["_law_found", "_law_due"]
abbrev P__law_rows_same : List Str := ["_law_found", "_law_due"]
theorem sc__law_rows_same:FnScope N__law_rows_same P__law_rows_same (defScope s__law_rows_same) := ⟨rfl,rfl,rfl,by decide +kernel,rfl,by decide +kernel,by decide +kernel⟩
theorem ndc__law_rows_same_1 : ((["_law_one", "_law_row_here"] : List Str) ++ ([] : List Str)).Nodup := by decide +kernel
def E__law_rows_same_1:En -> Res R := fun env =>
    (vCall F__law_row_same (aCons (vVar 0) (aCons (vVar 1) aNil))) env
def B__law_rows_same:En -> Res Fl :=
    (fSeq (fIf (bOr (bNot (vTru (vIsi "tuple" (vVar 0)))) (bOr (vB (v2 oNe (vB1 kLen (aCons (vVar 0) aNil)) (vC (.int 2)))) (bNot (vTru (vIsi "str" (vIxV 0 (vC (.int 0)))))))) (fRet (vC (.bl false))) fNil)
    (fSeq (fIf (bOr (vB (v2 oNe (vIxV 0 (vC (.int 0))) (vIxV 1 (vC (.int 0))))) (bOr (bNot (vTru (vIsi "list" (vIxV 0 (vC (.int 1)))))) (vB (v2 oNe (vB1 kLen (aCons (vIxV 0 (vC (.int 1))) aNil)) (vB1 kLen (aCons (vIxV 1 (vC (.int 1))) aNil)))))) (fRet (vC (.bl false))) fNil)
    (fRet (vB1 kAll (aCons (vComp 2 [] (sZipX (aCons (vIxV 0 (vC (.int 1))) (aCons (vIxV 1 (vC (.int 1))) aNil))) (gT 2 (gsCons (gN 0) (gsCons (gN 1) gsNil))) (fun _ => .ok true) E__law_rows_same_1) aNil)))))
def F__law_rows_same:List D -> Res R := runF N__law_rows_same B__law_rows_same
abbrev s__law_same:Stmt := top 16
abbrev N__law_same : List Str := ["_law_found", "_law_due"]
abbrev P__law_same : List Str := ["_law_found", "_law_due"]
theorem sc__law_same:FnScope N__law_same P__law_same (defScope s__law_same) := ⟨rfl,rfl,rfl,by decide +kernel,rfl,by decide +kernel,by decide +kernel⟩
theorem ndc__law_same_1 : ((["_law_one", "_law_part"] : List Str) ++ ([] : List Str)).Nodup := by decide +kernel
def E__law_same_1:En -> Res R := fun env =>
    (vCall F__law_rows_same (aCons (vVar 0) (aCons (vVar 1) aNil))) env
def B__law_same:En -> Res Fl :=
    (fSeq (fIf (bOr (bNot (vTru (vIsi "tuple" (vVar 0)))) (vB (v2 oNe (vB1 kLen (aCons (vVar 0) aNil)) (vC (.int 3))))) (fRet (vC (.bl false))) fNil)
    (fSeq (fIf (bOr (bNot (vTru (vCall F__law_whole (aCons (vIxV 0 (vC (.int 0))) aNil)))) (bOr (bNot (vTru (vCall F__law_whole (aCons (vIxV 0 (vC (.int 1))) aNil)))) (vB (v2 oNe (vSliceX (vVar 0) oNone (oSome (vC (.int 2)))) (vSliceX (vVar 1) oNone (oSome (vC (.int 2)))))))) (fRet (vC (.bl false))) fNil)
    (fSeq (fIf (bOr (bNot (vTru (vIsi "list" (vIxV 0 (vC (.int 2)))))) (vB (v2 oNe (vB1 kLen (aCons (vIxV 0 (vC (.int 2))) aNil)) (vB1 kLen (aCons (vIxV 1 (vC (.int 2))) aNil))))) (fRet (vC (.bl false))) fNil)
    (fRet (vB1 kAll (aCons (vComp 2 [] (sZipX (aCons (vIxV 0 (vC (.int 2))) (aCons (vIxV 1 (vC (.int 2))) aNil))) (gT 2 (gsCons (gN 0) (gsCons (gN 1) gsNil))) (fun _ => .ok true) E__law_same_1) aNil))))))
def F__law_same:List D -> Res R := runF N__law_same B__law_same
abbrev s_law:Stmt := top 20
abbrev N_law : List Str := ["_law_script", "_law_cell", "_law_values", "_law_names_here", "_law_due", "_law_handed", "_law_k"]
abbrev P_law : List Str := ["_law_script"]
theorem sc_law:FnScope N_law P_law (defScope s_law) := ⟨rfl,rfl,rfl,by decide +kernel,rfl,by decide +kernel,by decide +kernel⟩
def L_law_1:En -> Res Fl := fun env =>
    (fIf (bNot (vTru (vCall F__law_asked (aCons (vVar 5) (aCons (vVar 4) (aCons (vCall F__law_cell_at (aCons (vVar 0) (aCons (vVar 6) aNil))) aNil)))))) (fRet (vC (.bl false))) fNil) env
def B_law_7:En -> Res Fl := fun env =>
    (fRet (vAnd (vCall F__law_asked (aCons (vVar 5) (aCons (vVar 4) (aCons (v2 oAdd (vVar 1) (vC (.int 1))) aNil)))) (vCall F__law_same (aCons (vVar 5) (aCons (vVar 4) aNil))))) env
def B_law_6:En -> Res Fl := fun env =>
    (fSeq (fFor (sR1 (aCons (vB1 kMinX (aCons (vB1 kLen (aCons (vVar 0) aNil)) (aCons (vC (.int 20)) aNil))) aNil)) (gN 6) L_law_1)
    B_law_7) env
def B_law_5:En -> Res Fl := fun env =>
    (fSeq (fSetV 5 (vCall F__law_program (aCons (vCall F__law_cells (aCons (vVar 0) (aCons (vVar 1) aNil))) (aCons (vVar 2) (aCons (vVar 3) (aCons (vVar 1) aNil))))))
    B_law_6) env
def B_law_4:En -> Res Fl := fun env =>
    (fSeq (fSetV 4 (vCall F__law_program (aCons (vCall F__law_cells (aCons (vVar 0) (aCons (vVar 1) aNil))) (aCons (vVar 2) (aCons (vVar 3) (aCons (vVar 1) aNil))))))
    B_law_5) env
def B_law_3:En -> Res Fl := fun env =>
    (fSeq (fSetV 3 (vCall F__law_names (aCons (vCall F__law_cell_at (aCons (vVar 0) (aCons (vC (.int 1)) aNil))) aNil)))
    B_law_4) env
def B_law_2:En -> Res Fl := fun env =>
    (fSeq (fSet 2 (vLst (aCons (v2 oAdd (vC (.int 1)) (vCall F__law_digit (aCons (vVar 1) (aCons (vC (.int 1033)) (aCons (vC (.int 4)) aNil))))) (aCons (v2 oAdd (vC (.int 1)) (vCall F__law_digit (aCons (vVar 1) (aCons (vC (.int 1039)) (aCons (vC (.int 4)) aNil))))) aNil))))
    B_law_3) env
def B_law:En -> Res Fl :=
    (fSeq (fSetV 1 (vCall F__law_cell_at (aCons (vVar 0) (aCons (vC (.int 0)) aNil))))
    B_law_2)
def F_law:List D -> Res R := runF N_law B_law
set_option genInjectivity false in
structure Tx (K:PySem.W.Frag) (mg:Str -> Option Value) where
  f__law_cell_at:Addr
  fd__law_cell_at:FuncData
  h__law_cell_at : Fn K mg "_law_cell_at" s__law_cell_at P__law_cell_at f__law_cell_at fd__law_cell_at
  f__law_digit:Addr
  fd__law_digit:FuncData
  h__law_digit : Fn K mg "_law_digit" s__law_digit P__law_digit f__law_digit fd__law_digit
  f__law_names:Addr
  fd__law_names:FuncData
  h__law_names : Fn K mg "_law_names" s__law_names P__law_names f__law_names fd__law_names
  f__law_row:Addr
  fd__law_row:FuncData
  h__law_row : Fn K mg "_law_row" s__law_row P__law_row f__law_row fd__law_row
  f__law_program:Addr
  fd__law_program:FuncData
  h__law_program : Fn K mg "_law_program" s__law_program P__law_program f__law_program fd__law_program
  f__law_cells:Addr
  fd__law_cells:FuncData
  h__law_cells : Fn K mg "_law_cells" s__law_cells P__law_cells f__law_cells fd__law_cells
  f__law_stranger:Addr
  fd__law_stranger:FuncData
  h__law_stranger : Fn K mg "_law_stranger" s__law_stranger P__law_stranger f__law_stranger fd__law_stranger
  f_point_of:Addr
  fd_point_of:FuncData
  h_point_of : Fn K mg "point_of" s_point_of P_point_of f_point_of fd_point_of
  f__law_point:Addr
  fd__law_point:FuncData
  h__law_point : Fn K mg "_law_point" s__law_point P__law_point f__law_point fd__law_point
  f__law_whole:Addr
  fd__law_whole:FuncData
  h__law_whole : Fn K mg "_law_whole" s__law_whole P__law_whole f__law_whole fd__law_whole
  f__law_asked:Addr
  fd__law_asked:FuncData
  h__law_asked : Fn K mg "_law_asked" s__law_asked P__law_asked f__law_asked fd__law_asked
  f__law_row_same:Addr
  fd__law_row_same:FuncData
  h__law_row_same : Fn K mg "_law_row_same" s__law_row_same P__law_row_same f__law_row_same fd__law_row_same
  f__law_rows_same:Addr
  fd__law_rows_same:FuncData
  h__law_rows_same : Fn K mg "_law_rows_same" s__law_rows_same P__law_rows_same f__law_rows_same fd__law_rows_same
  f__law_same:Addr
  fd__law_same:FuncData
  h__law_same : Fn K mg "_law_same" s__law_same P__law_same f__law_same fd__law_same
  f_law:Addr
  fd_law:FuncData
  h_law : Fn K mg "law" s_law P_law f_law fd_law
  nb_all : mg "all" = none
  nb_bool : mg "bool" = none
  nb_enumerate : mg "enumerate" = none
  nb_int : mg "int" = none
  nb_isinstance : mg "isinstance" = none
  nb_len : mg "len" = none
  nb_list : mg "list" = none
  nb_min : mg "min" = none
  nb_range : mg "range" = none
  nb_str : mg "str" = none
  nb_sum : mg "sum" = none
  nb_tuple : mg "tuple" = none
  nb_zip : mg "zip" = none
  C_NoName:Addr
  x_NoName : XC K mg "NoName" C_NoName
  C_NoRow:Addr
  x_NoRow : XC K mg "NoRow" C_NoRow
  m_NoName_NoName:(mroK K C_NoName).contains (.ref C_NoName) = true
  m_T0a_NoRow:(mroK K C_NoRow).contains (.ref C_NoName) = false
  m_T0b_NoRow:(mroK K C_NoRow).contains (.ref C_NoRow) = true
section
variable {P:Program} {w:World} {K:PySem.W.Frag} {mg:Str -> Option Value} {base:Heap}
theorem takes2_0 (t : Tx K mg) : Takes2 K mg t.C_NoName t.C_NoRow ["NoRow"] := by
  intro c hc
  simp only [List.mem_cons,List.not_mem_nil,or_false] at hc
  rcases hc with rfl
  · exact ⟨t.C_NoRow,t.x_NoRow,t.m_T0a_NoRow,t.m_T0b_NoRow⟩
theorem takes_NoName (t : Tx K mg) : Takes K mg t.C_NoName ["NoName"] := by
  intro c hc
  simp only [List.mem_cons,List.not_mem_nil,or_false] at hc
  rcases hc with rfl
  · exact ⟨t.C_NoName,t.x_NoName,t.m_NoName_NoName⟩
theorem ok__law_cell_at (t:Tx K mg) : FnOk P w K mg base (CX1 P w) 1 t.f__law_cell_at t.fd__law_cell_at P__law_cell_at (spD mg 2 F__law_cell_at) :=
  fn_D1 t.h__law_cell_at.fu sc__law_cell_at fun cdv A outer s H E hr =>
    have hu := hr.units
    (pssd_cons (psd_if (pt_cmpD (od_lt) (qv 1) (pd_callB cd_len (by rfl) t.nb_len (by decide +kernel) (pad_cons (qv 0) pad_nil)) (nomark _)) (pssd_one (psd_ret (pd_op od_mod (pd_ixV (pv 0) (qv 1) (fun _ _ => rfl)) (pd_op od_pow pd_int pd_int)))) pssd_nil)
      (pssd_one (psd_ret pd_int)))
theorem ok__law_digit (t:Tx K mg) : FnOk P w K mg base (CX1 P w) 1 t.f__law_digit t.fd__law_digit P__law_digit (spD mg 3 F__law_digit) :=
  fn_D1 t.h__law_digit.fu sc__law_digit fun cdv A outer s H E hr =>
    have hu := hr.units
    (pssd_one (psd_ret (pd_op od_mod (pd_op od_mod (pd_op od_add (pd_op od_mul (pd_op od_mod (qv 0) (pd_op od_pow pd_int pd_int)) pd_int) pd_int) (qv 1)) (qv 2))))
theorem ok__law_names (t:Tx K mg) : FnOk P w K mg base (CX1 P w) 2 t.f__law_names t.fd__law_names P__law_names (spD mg 1 F__law_names) :=
  fn_D1 t.h__law_names.fu sc__law_names fun cdv A outer s H E hr =>
    have hu := hr.units
    (pssd_cons (psd_set sc__law_names.nd rfl (.inl rfl) (pd_lst pad_nil))
      (pssd_cons (psd_set sc__law_names.nd rfl (.inl rfl) (pd_op od_add pd_int (pd_call (ok__law_digit t) (hr.mono (by decide)) (by rfl) t.h__law_digit.gl t.h__law_digit.fu.kp t.h__law_digit.bi passes1 (pad_cons (qv 0) (pad_cons pd_int (pad_cons pd_int pad_nil))) (aCons_len (aCons_len (aCons_len aNil_len))))))
      (pssd_cons (psd_set sc__law_names.nd rfl (.inl rfl) pd_str)
      (pssd_cons (psd_for own1 rfl (pid_range1 (by rfl) t.nb_range (pad_cons (qv 2) pad_nil)) (pgd_name sc__law_names.nd rfl (.inl rfl)) (pssd_one (psd_set sc__law_names.nd rfl (.inl rfl) (pd_op od_add (qv 3) (pd_ix pd_str (pd_call (ok__law_digit t) (hr.mono (by decide)) (by rfl) t.h__law_digit.gl t.h__law_digit.fu.kp t.h__law_digit.bi passes1 (pad_cons (pd_op od_add (qv 0) (pd_op od_mul (pd_op od_mul pd_int (qv 4)) (qv 4))) (pad_cons pd_int (pad_cons pd_int pad_nil))) (aCons_len (aCons_len (aCons_len aNil_len)))) (fun _ _ => rfl))))))
      (pssd_cons (psd_setV sc__law_names.nd rfl (.inl rfl) (pd_call (ok__law_digit t) (hr.mono (by decide)) (by rfl) t.h__law_digit.gl t.h__law_digit.fu.kp t.h__law_digit.bi passes1 (pad_cons (qv 0) (pad_cons pd_int (pad_cons (qv 2) pad_nil))) (aCons_len (aCons_len (aCons_len aNil_len)))))
      (pssd_cons (psd_setV sc__law_names.nd rfl (.inl rfl) (pd_call (ok__law_digit t) (hr.mono (by decide)) (by rfl) t.h__law_digit.gl t.h__law_digit.fu.kp t.h__law_digit.bi passes1 (pad_cons (qv 0) (pad_cons pd_int (pad_cons pd_int pad_nil))) (aCons_len (aCons_len (aCons_len aNil_len)))))
      (pssd_cons (psd_for own1 rfl (pid_range1 (by rfl) t.nb_range (pad_cons (pd_call (ok__law_digit t) (hr.mono (by decide)) (by rfl) t.h__law_digit.gl t.h__law_digit.fu.kp t.h__law_digit.bi passes1 (pad_cons (qv 0) (pad_cons pd_int (pad_cons pd_int pad_nil))) (aCons_len (aCons_len (aCons_len aNil_len)))) pad_nil)) (pgd_name sc__law_names.nd rfl (.inl rfl)) (pssd_cons (psd_set sc__law_names.nd rfl (.inl rfl) (pd_ix pd_str (pd_op od_mod (pd_op od_add (qv 0) (pd_op od_mul (qv 4) (pd_op od_add pd_int (pd_op od_mod (pd_op od_div (qv 0) pd_int) pd_int)))) pd_int) (fun _ _ => rfl)))
      (pssd_cons (psd_set sc__law_names.nd rfl (.inl rfl) (pd_op od_add (pd_op od_add (pd_sliceX (qv 3) pod_none (pod_some (qv 5))) (qv 7)) (pd_sliceX (qv 3) (pod_some (pd_op od_add (qv 5) pd_int)) pod_none)))
      (pssd_cons (psd_if (pt_cmpD (od_eq hu) (qv 6) pd_int (nomark _)) (pssd_one (psd_set sc__law_names.nd rfl (.inl rfl) (pd_op od_add pd_str (qv 7)))) pssd_nil)
      (pssd_cons (psd_if (pt_cmpD (od_eq hu) (qv 6) pd_int (nomark _)) (pssd_one (psd_set sc__law_names.nd rfl (.inl rfl) (pd_sliceX pd_str pod_none (pod_some (pd_op od_add pd_int (qv 4)))))) pssd_nil)
      (pssd_one (psd_app (pv 1) (qv 8))))))))
      (pssd_cons (psd_setV sc__law_names.nd rfl (.inl rfl) (pd_call (ok__law_digit t) (hr.mono (by decide)) (by rfl) t.h__law_digit.gl t.h__law_digit.fu.kp t.h__law_digit.bi passes1 (pad_cons (qv 0) (pad_cons pd_int (pad_cons (pd_op od_add (pd_callB cd_len (by rfl) t.nb_len (by decide +kernel) (pad_cons (qv 1) pad_nil)) pd_int) pad_nil))) (aCons_len (aCons_len (aCons_len aNil_len)))))
      (pssd_one (psd_ret (pd_op od_add (pd_op od_add (pd_sliceX (qv 1) pod_none (pod_some (qv 9))) (pd_lst (pad_cons pd_str pad_nil))) (pd_sliceX (qv 1) (pod_some (qv 9)) pod_none))))))))))))
theorem ok__law_row (t:Tx K mg) : FnOk P w K mg base (CX1 P w) 2 t.f__law_row t.fd__law_row P__law_row (spD mg 5 F__law_row) :=
  fn_D1 t.h__law_row.fu sc__law_row fun cdv A outer s H E hr =>
    have hu := hr.units
    (pssd_cons (psd_setV sc__law_row.nd rfl (.inl rfl) (pd_call (ok__law_digit t) (hr.mono (by decide)) (by rfl) t.h__law_digit.gl t.h__law_digit.fu.kp t.h__law_digit.bi passes1 (pad_cons (qv 0) (pad_cons pd_int (pad_cons pd_int pad_nil))) (aCons_len (aCons_len (aCons_len aNil_len)))))
      (pssd_cons (psd_if (pt_tru (qv 4)) (pssd_one (psd_set sc__law_row.nd rfl (.inl rfl) (pd_ix (pd_lst (pad_cons pd_int (pad_cons pd_int (pad_cons pd_int pad_nil)))) (pd_call (ok__law_digit t) (hr.mono (by decide)) (by rfl) t.h__law_digit.gl t.h__law_digit.fu.kp t.h__law_digit.bi passes1 (pad_cons (qv 0) (pad_cons pd_int (pad_cons pd_int pad_nil))) (aCons_len (aCons_len (aCons_len aNil_len)))) (fun _ _ => rfl)))) pssd_nil)
      (pssd_cons (psd_setV sc__law_row.nd rfl (.inl rfl) (pd_call (ok__law_digit t) (hr.mono (by decide)) (by rfl) t.h__law_digit.gl t.h__law_digit.fu.kp t.h__law_digit.bi passes1 (pad_cons (qv 0) (pad_cons pd_int (pad_cons pd_int pad_nil))) (aCons_len (aCons_len (aCons_len aNil_len)))))
      (pssd_cons (psd_set sc__law_row.nd rfl (.inl rfl) (pd_ix (pd_lst (pad_cons pd_str (pad_cons pd_str pad_nil))) (qv 6) (fun _ _ => rfl)))
      (pssd_cons (psd_setV sc__law_row.nd rfl (.inl rfl) (pd_call (ok__law_digit t) (hr.mono (by decide)) (by rfl) t.h__law_digit.gl t.h__law_digit.fu.kp t.h__law_digit.bi passes1 (pad_cons (qv 0) (pad_cons pd_int (pad_cons (pd_ixV (pv 1) (qv 6) (fun _ _ => rfl)) pad_nil))) (aCons_len (aCons_len (aCons_len aNil_len)))))
      (pssd_cons (psd_setV sc__law_row.nd rfl (.inl rfl) (pd_call (ok__law_digit t) (hr.mono (by decide)) (by rfl) t.h__law_digit.gl t.h__law_digit.fu.kp t.h__law_digit.bi passes1 (pad_cons (qv 0) (pad_cons pd_int (pad_cons (qv 2) pad_nil))) (aCons_len (aCons_len (aCons_len aNil_len)))))
      (pssd_cons (psd_if (pt_cmpD (od_ge) (qv 5) pd_int (nomark _)) (pssd_one (psd_ret (pd_tup (pad_cons pd_str (pad_cons (pd_ixV (pv 3) (pd_call (ok__law_digit t) (hr.mono (by decide)) (by rfl) t.h__law_digit.gl t.h__law_digit.fu.kp t.h__law_digit.bi passes1 (pad_cons (qv 0) (pad_cons pd_int (pad_cons (pd_callB cd_len (by rfl) t.nb_len (by decide +kernel) (pad_cons (qv 3) pad_nil)) pad_nil))) (aCons_len (aCons_len (aCons_len aNil_len)))) (fun _ _ => rfl)) pad_nil))))) pssd_nil)
      (pssd_cons (psd_if (PWD.pt (pw_orD (pt_cmpD (od_eq hu) (qv 5) pd_int (nomark _)) (pw_or1D (pt_cmpD (od_eq hu) (qv 5) pd_int (nomark _))))) (pssd_one (psd_ret (pd_tup (pad_cons pd_str (pad_cons (qv 7) (pad_cons (qv 8) pad_nil)))))) pssd_nil)
      (pssd_cons (psd_if (PWD.pt (pw_orD (pt_cmpD (od_eq hu) (qv 5) pd_int (nomark _)) (pw_or1D (pt_cmpD (od_eq hu) (qv 5) pd_int (nomark _))))) (pssd_one (psd_ret (pd_tup (pad_cons (pd_ix (pd_lst (pad_cons pd_str (pad_cons pd_str pad_nil))) (pd_op od_sub (qv 5) pd_int) (fun _ _ => rfl)) (pad_cons (qv 7) pad_nil))))) pssd_nil)
      (pssd_cons (psd_if (PWD.pt (pw_orD (pt_cmpD (od_eq hu) (qv 5) pd_int (nomark _)) (pw_or1D (pt_cmpD (od_eq hu) (qv 5) pd_int (nomark _))))) (pssd_one (psd_ret (pd_tup (pad_cons pd_str (pad_cons (qv 7) (pad_cons (qv 8) (pad_cons (qv 9) pad_nil))))))) pssd_nil)
      (pssd_cons (psd_if (PWD.pt (pw_andD (pt_cmpD (od_ge) (qv 5) pd_int (nomark _)) (pw_and1D (pt_cmpD (od_le) (qv 5) pd_int (nomark _))))) (pssd_one (psd_ret (pd_tup (pad_cons (pd_ix (pd_lst (pad_cons pd_str (pad_cons pd_str (pad_cons pd_str pad_nil)))) (pd_op od_sub (qv 5) pd_int) (fun _ _ => rfl)) (pad_cons (qv 9) pad_nil))))) pssd_nil)
      (pssd_cons (psd_if (pt_cmpD (od_ge) (qv 5) pd_int (nomark _)) (pssd_one (psd_ret (pd_tup (pad_cons (pd_ix (pd_lst (pad_cons pd_str (pad_cons pd_str pad_nil))) (pd_op od_sub (qv 5) pd_int) (fun _ _ => rfl)) pad_nil)))) pssd_nil)
      (pssd_one (psd_ret (pd_tup (pad_cons pd_str pad_nil))))))))))))))))
theorem ok__law_program (t:Tx K mg) : FnOk P w K mg base (CX1 P w) 3 t.f__law_program t.fd__law_program P__law_program (spD mg 4 F__law_program) :=
  fn_D1 t.h__law_program.fu sc__law_program fun cdv A outer s H E hr =>
    have hu := hr.units
    (pssd_cons (psd_dis rfl (CScope.of (osc := defScope s__law_program) (N := N__law_program) (tN := ["_law_name"]) (capN := []) (caps := []) rfl rfl (by decide +kernel)) sc__law_program.nd rfl rfl (pid_seq (qv 2)) (fun cl C s3 H3 fp => pg_name ndc__law_program_1 rfl (.inl rfl)) (by decide))
      (pssd_cons (psd_for own1 rfl (pid_seq (qv 0)) (pgd_name sc__law_program.nd rfl (.inl rfl)) (pssd_one (psd_appDis (pv 4) (pd_call (ok__law_digit t) (hr.mono (by decide)) (by rfl) t.h__law_digit.gl t.h__law_digit.fu.kp t.h__law_digit.bi passes1 (pad_cons (qv 5) (pad_cons pd_int (pad_cons (pd_callB cd_len (by rfl) t.nb_len (by decide +kernel) (pad_cons (qv 2) pad_nil)) pad_nil))) (aCons_len (aCons_len (aCons_len aNil_len)))) (qv 5) (fun _ _ => rfl))))
      (pssd_cons (psd_set sc__law_program.nd rfl (.inl rfl) (pd_lst pad_nil))
      (pssd_cons (psd_for own1 rfl (pid_enum (by rfl) t.nb_enumerate (pad_cons (qv 2) pad_nil)) (pgd_tup rfl (pgsd_cons (pgd_name sc__law_program.nd rfl (.inl rfl)) (pgsd_cons (pgd_name sc__law_program.nd rfl (.inl rfl)) pgsd_nil (fun _ a _ b => pgs_cons a b)) (fun _ a _ b => pgs_cons a b))) (pssd_cons (psd_set sc__law_program.nd rfl (.inl rfl) (pd_op od_add (pd_ixV (pv 4) (qv 7) (fun _ _ => rfl)) (pd_lst (pad_cons (pd_op od_add (qv 3) (pd_op od_mul (pd_op od_mul pd_int (qv 7)) (qv 7))) pad_nil))))
      (pssd_cons (psd_set sc__law_program.nd rfl (.inl rfl) (pd_lst pad_nil))
      (pssd_cons (psd_for own1 rfl (pid_enum (by rfl) t.nb_enumerate (pad_cons (qv 9) pad_nil)) (pgd_tup rfl (pgsd_cons (pgd_name sc__law_program.nd rfl (.inl rfl)) (pgsd_cons (pgd_name sc__law_program.nd rfl (.inl rfl)) pgsd_nil (fun _ a _ b => pgs_cons a b)) (fun _ a _ b => pgs_cons a b))) (pssd_one (psd_app (pv 10) (pd_call (ok__law_row t) (hr.mono (by decide)) (by rfl) t.h__law_row.gl t.h__law_row.fu.kp t.h__law_row.bi passes1 (pad_cons (qv 5) (pad_cons (qv 1) (pad_cons (pd_callB cd_len (by rfl) t.nb_len (by decide +kernel) (pad_cons (qv 9) pad_nil)) (pad_cons (qv 2) (pad_cons (pd_cmp (od_eq hu) (qv 11) (pd_op od_sub (pd_callB cd_len (by rfl) t.nb_len (by decide +kernel) (pad_cons (qv 9) pad_nil)) pd_int) (nomark _)) pad_nil))))) (aCons_len (aCons_len (aCons_len (aCons_len (aCons_len aNil_len)))))))))
      (pssd_one (psd_app (pv 6) (pd_tup (pad_cons (qv 8) (pad_cons (qv 10) pad_nil)))))))))
      (pssd_one (psd_ret (pd_tup (pad_cons (pd_ixV (pv 1) pd_int (fun _ _ => rfl)) (pad_cons (pd_ixV (pv 1) pd_int (fun _ _ => rfl)) (pad_cons (qv 6) pad_nil))))))))))
theorem ok__law_cells (t:Tx K mg) : FnOk P w K mg base (CX1 P w) 2 t.f__law_cells t.fd__law_cells P__law_cells (spD mg 2 F__law_cells) :=
  fn_D1 t.h__law_cells.fu sc__law_cells fun cdv A outer s H E hr =>
    have hu := hr.units
    (pssd_cons (psd_set sc__law_cells.nd rfl (.inl rfl) (pd_sliceX (qv 0) (pod_some pd_int) (pod_some pd_int)))
      (pssd_cons (psd_if (pt_cmpD (od_eq hu) (pd_call (ok__law_digit t) (hr.mono (by decide)) (by rfl) t.h__law_digit.gl t.h__law_digit.fu.kp t.h__law_digit.bi passes1 (pad_cons (qv 1) (pad_cons pd_int (pad_cons pd_int pad_nil))) (aCons_len (aCons_len (aCons_len aNil_len)))) pd_int (nomark _)) (pssd_one (psd_for own1 rfl (pid_range1 (by rfl) t.nb_range (pad_cons (pd_op od_add pd_int (pd_call (ok__law_digit t) (hr.mono (by decide)) (by rfl) t.h__law_digit.gl t.h__law_digit.fu.kp t.h__law_digit.bi passes1 (pad_cons (qv 1) (pad_cons pd_int (pad_cons pd_int pad_nil))) (aCons_len (aCons_len (aCons_len aNil_len))))) pad_nil)) (pgd_name sc__law_cells.nd rfl (.inl rfl)) (pssd_one (psd_app (pv 2) (pd_op od_add (qv 1) (pd_op od_mul (pd_op od_mul pd_int (qv 3)) (qv 3))))))) pssd_nil)
      (pssd_one (psd_ret (qv 2)))))
theorem ok__law_stranger (t:Tx K mg) : FnOk P w K mg base (CX1 P w) 1 t.f__law_stranger t.fd__law_stranger P__law_stranger (spD mg 1 F__law_stranger) :=
  fn_D1 t.h__law_stranger.fu sc__law_stranger fun cdv A outer s H E hr =>
    have hu := hr.units
    (pssd_cons (psd_for own1 rfl (pid_seq (pd_lst (pad_cons pd_str (pad_cons pd_str (pad_cons pd_str (pad_cons pd_str (pad_cons pd_str (pad_cons pd_str pad_nil)))))))) (pgd_name sc__law_stranger.nd rfl (.inl rfl)) (pssd_one (psd_if (pt_cmpD (od_notInX hu) (qv 1) (qv 0) (by rfl)) (pssd_one (psd_ret (qv 1))) pssd_nil)))
      (pssd_one (psd_ret pd_str)))
theorem ok_point_of (t:Tx K mg) : FnOk P w K mg base (CX1 P w) 1 t.f_point_of t.fd_point_of P_point_of (spD mg 3 F_point_of) :=
  fn_D1 t.h_point_of.fu sc_point_of fun cdv A outer s H E hr =>
    have hu := hr.units
    (pssd_cons (psd_set sc_point_of.nd rfl (.inl rfl) pd_int)
      (pssd_cons (psd_for own1 rfl (pid_seq (pd_ixV (pv 0) pd_int (fun _ _ => rfl))) (pgd_tup rfl (pgsd_cons (pgd_name sc_point_of.nd rfl (.inl rfl)) (pgsd_cons (pgd_name sc_point_of.nd rfl (.inl rfl)) pgsd_nil (fun _ a _ b => pgs_cons a b)) (fun _ a _ b => pgs_cons a b))) (pssd_cons (psd_if (pt_cmpD (od_eq hu) (qv 4) (qv 1) (nomark _)) (pssd_cons (psd_if (PWD.pt (pw_orD (pt_cmpD (od_lt) (qv 2) pd_int (nomark _)) (pw_or1D (pt_cmpD (od_ge) (qv 2) (pd_callB cd_len (by rfl) t.nb_len (by decide +kernel) (pad_cons (qv 5) pad_nil)) (nomark _))))) (pssd_one (psd_raise t.x_NoRow (by rfl) (pad_cons pd_str pad_nil))) pssd_nil)
      (pssd_one (psd_ret (pd_op od_add (qv 3) (qv 2))))) pssd_nil)
      (pssd_one (psd_set sc_point_of.nd rfl (.inl rfl) (pd_op od_add (qv 3) (pd_callB cd_len (by rfl) t.nb_len (by decide +kernel) (pad_cons (qv 5) pad_nil)))))))
      (pssd_one (psd_raise t.x_NoName (by rfl) (pad_cons pd_str pad_nil)))))
theorem ok__law_point (t:Tx K mg) : FnOk P w K mg base (CX1 P w) 2 t.f__law_point t.fd__law_point P__law_point (spD mg 3 F__law_point) :=
  fn_D1 t.h__law_point.fu sc__law_point fun cdv A outer s H E hr =>
    have hu := hr.units
    (pssd_cons (psd_set sc__law_point.nd rfl (.inl rfl) pd_str)
      (pssd_cons (psd_set sc__law_point.nd rfl (.inl rfl) pd_non)
      (pssd_cons (psd_tryA2 sc__law_point.nd rfl (.inl rfl) rfl rfl t.x_NoName (by rfl) t.x_NoRow (by rfl) (takes_NoName t) (takes2_0 t) (ok_point_of t) (hr.mono (by decide)) (by rfl) t.h_point_of.gl t.h_point_of.fu.kp t.h_point_of.bi (pad_cons (qv 0) (pad_cons (qv 1) (pad_cons (qv 2) pad_nil))) (aCons_len (aCons_len (aCons_len aNil_len))) (fun _ => (pssd_one (psd_set sc__law_point.nd rfl (.inl rfl) pd_str))) (fun _ => (pssd_one (psd_set sc__law_point.nd rfl (.inl rfl) pd_str))))
      (pssd_one (psd_ret (pd_tup (pad_cons (qv 3) (pad_cons (qv 4) pad_nil))))))))
theorem ok__law_whole (t:Tx K mg) : FnOk P w K mg base (CX1 P w) 1 t.f__law_whole t.fd__law_whole P__law_whole (spD mg 1 F__law_whole) :=
  fn_D1 t.h__law_whole.fu sc__law_whole fun cdv A outer s H E hr =>
    have hu := hr.units
    (pssd_one (psd_ret (pd_and (pd_isi kind_int (by rfl) t.nb_isinstance (by rfl) t.nb_int (by decide +kernel) (qv 0)) (pd_one (pd_not (pd_isi kind_bool (by rfl) t.nb_isinstance (by rfl) t.nb_bool (by decide +kernel) (qv 0)))))))
theorem ok__law_asked (t:Tx K mg) : FnOk P w K mg base (CX1 P w) 3 t.f__law_asked t.fd__law_asked P__law_asked (spD mg 3 F__law_asked) :=
  fn_D1 t.h__law_asked.fu sc__law_asked fun cdv A outer s H E hr =>
    have hu := hr.units
    (pssd_cons (psd_comp rfl (CScope.of (osc := defScope s__law_asked) (N := N__law_asked) (tN := ["_law_one"]) (capN := []) (caps := []) rfl rfl (by decide +kernel)) sc__law_asked.nd rfl rfl (pid_seq (pd_ixV (pv 1) pd_int (fun _ _ => rfl))) (by decide) (fun cl C s3 H3 fp => (pgd_name ndc__law_asked_1 rfl (.inl rfl))) (fun cl C s3 H3 fp => ptsd_nil) (fun cl C s3 H3 fp => (pd_ixV (pv 0) pd_int (fun _ _ => rfl))))
      (pssd_cons (psd_setV sc__law_asked.nd rfl (.inl rfl) (pd_call (ok__law_digit t) (hr.mono (by decide)) (by rfl) t.h__law_digit.gl t.h__law_digit.fu.kp t.h__law_digit.bi passes1 (pad_cons (qv 2) (pad_cons pd_int (pad_cons (pd_callB cd_len (by rfl) t.nb_len (by decide +kernel) (pad_cons (qv 3) pad_nil)) pad_nil))) (aCons_len (aCons_len (aCons_len aNil_len)))))
      (pssd_cons (psd_set sc__law_asked.nd rfl (.inl rfl) (pd_callB cd_len (by rfl) t.nb_len (by decide +kernel) (pad_cons (pd_ix (pd_ix (pd_ixV (pv 1) pd_int (fun _ _ => rfl)) (qv 4) (fun _ _ => rfl)) pd_int (fun _ _ => rfl)) pad_nil)))
      (pssd_cons (psd_set sc__law_asked.nd rfl (.inl rfl) (pd_op od_sub (pd_call (ok__law_digit t) (hr.mono (by decide)) (by rfl) t.h__law_digit.gl t.h__law_digit.fu.kp t.h__law_digit.bi passes1 (pad_cons (qv 2) (pad_cons pd_int (pad_cons (pd_op od_add (qv 5) pd_int) pad_nil))) (aCons_len (aCons_len (aCons_len aNil_len)))) pd_int))
      (pssd_cons (psd_if (pt_cmpD (od_eq hu) (pd_call (ok__law_digit t) (hr.mono (by decide)) (by rfl) t.h__law_digit.gl t.h__law_digit.fu.kp t.h__law_digit.bi passes1 (pad_cons (qv 2) (pad_cons pd_int (pad_cons pd_int pad_nil))) (aCons_len (aCons_len (aCons_len aNil_len)))) pd_int (nomark _)) (pssd_one (psd_set sc__law_asked.nd rfl (.inl rfl) (pd_op od_pow pd_int pd_int))) pssd_nil)
      (pssd_cons (psd_set sc__law_asked.nd rfl (.inl rfl) (pd_ixV (pv 3) (qv 4) (fun _ _ => rfl)))
      (pssd_cons (psd_if (pt_cmpD (od_eq hu) (pd_call (ok__law_digit t) (hr.mono (by decide)) (by rfl) t.h__law_digit.gl t.h__law_digit.fu.kp t.h__law_digit.bi passes1 (pad_cons (qv 2) (pad_cons pd_int (pad_cons pd_int pad_nil))) (aCons_len (aCons_len (aCons_len aNil_len)))) pd_int (nomark _)) (pssd_one (psd_setV sc__law_asked.nd rfl (.inl rfl) (pd_call (ok__law_stranger t) (hr.mono (by decide)) (by rfl) t.h__law_stranger.gl t.h__law_stranger.fu.kp t.h__law_stranger.bi passes1 (pad_cons (qv 3) pad_nil) (aCons_len aNil_len)))) pssd_nil)
      (pssd_cons (psd_setV sc__law_asked.nd rfl (.inl rfl) (pd_call (ok__law_point t) (hr.mono (by decide)) (by rfl) t.h__law_point.gl t.h__law_point.fu.kp t.h__law_point.bi passes1 (pad_cons (qv 0) (pad_cons (qv 7) (pad_cons (qv 6) pad_nil))) (aCons_len (aCons_len (aCons_len aNil_len)))))
      (pssd_cons (psd_if (pt_cmpD (od_notInX hu) (qv 7) (qv 3) (by rfl)) (pssd_one (psd_ret (pd_cmp (od_eq hu) (pd_ixV (pv 8) pd_int (fun _ _ => rfl)) pd_str (nomark _)))) pssd_nil)
      (pssd_cons (psd_if (PWD.pt (pw_orD (pt_cmpD (od_lt) (qv 6) pd_int (nomark _)) (pw_or1D (pt_cmpD (od_ge) (qv 6) (qv 5) (nomark _))))) (pssd_one (psd_ret (pd_cmp (od_eq hu) (pd_ixV (pv 8) pd_int (fun _ _ => rfl)) pd_str (nomark _)))) pssd_nil)
      (pssd_cons (psd_set sc__law_asked.nd rfl (.inl rfl) (pd_callB (cd_sum (by rfl)) (by rfl) t.nb_sum (by decide +kernel) (pad_cons (pd_comp rfl (CScope.of (osc := defScope s__law_asked) (N := N__law_asked) (tN := ["_law_k"]) (capN := ["_law_due"]) (caps := [1]) rfl rfl (by decide +kernel)) (pid_range1 (by rfl) t.nb_range (pad_cons (qv 4) pad_nil)) (by decide) (fun cl C s3 H3 fp => (pgd_name ndc__law_asked_2 rfl (.inl rfl))) (fun cl C s3 H3 fp => ptsd_nil) (fun cl C s3 H3 fp => (pd_callB cd_len (by rfl) t.nb_len (by decide +kernel) (pad_cons (pd_ix (pd_ix (pd_ixV (pv 1) pd_int (fun _ _ => rfl)) (qv 0) (fun _ _ => rfl)) pd_int (fun _ _ => rfl)) pad_nil)))) pad_nil)))
      (pssd_one (psd_ret (pd_and (pd_cmp (od_eq hu) (pd_ixV (pv 8) pd_int (fun _ _ => rfl)) pd_str (nomark _)) (pd_and (pd_call (ok__law_whole t) (hr.mono (by decide)) (by rfl) t.h__law_whole.gl t.h__law_whole.fu.kp t.h__law_whole.bi passes1 (pad_cons (pd_ixV (pv 8) pd_int (fun _ _ => rfl)) pad_nil) (aCons_len aNil_len)) (pd_one (pd_cmp (od_eq hu) (pd_ixV (pv 8) pd_int (fun _ _ => rfl)) (pd_op od_add (qv 9) (qv 6)) (nomark _))))))))))))))))))
theorem ok__law_row_same (t:Tx K mg) : FnOk P w K mg base (CX1 P w) 2 t.f__law_row_same t.fd__law_row_same P__law_row_same (spD mg 2 F__law_row_same) :=
  fn_D1 t.h__law_row_same.fu sc__law_row_same fun cdv A outer s H E hr =>
    have hu := hr.units
    (pssd_cons (psd_if (PWD.pt (pw_orD (pt_notD (pt_tru (pd_isi kind_tuple (by rfl) t.nb_isinstance (by rfl) t.nb_tuple (by decide +kernel) (qv 0)))) (pw_or1D (pt_cmpD (od_ne hu) (pd_callB cd_len (by rfl) t.nb_len (by decide +kernel) (pad_cons (qv 0) pad_nil)) (pd_callB cd_len (by rfl) t.nb_len (by decide +kernel) (pad_cons (qv 1) pad_nil)) (nomark _))))) (pssd_one (psd_ret pd_bl)) pssd_nil)
      (pssd_cons (psd_for own1 rfl (pid_zipX (by rfl) t.nb_zip (pad_cons (qv 0) (pad_cons (qv 1) pad_nil))) (pgd_tup rfl (pgsd_cons (pgd_name sc__law_row_same.nd rfl (.inl rfl)) (pgsd_cons (pgd_name sc__law_row_same.nd rfl (.inl rfl)) pgsd_nil (fun _ a _ b => pgs_cons a b)) (fun _ a _ b => pgs_cons a b))) (pssd_cons (psd_if (PWD.pt (pw_andD (pt_tru (pd_isi kind_str (by rfl) t.nb_isinstance (by rfl) t.nb_str (by decide +kernel) (qv 3))) (pw_and1D (pt_notD (pt_tru (pd_isi kind_str (by rfl) t.nb_isinstance (by rfl) t.nb_str (by decide +kernel) (qv 2))))))) (pssd_one (psd_ret pd_bl)) pssd_nil)
      (pssd_one (psd_if (PWD.pt (pw_andD (pt_tru (pd_isi kind_int (by rfl) t.nb_isinstance (by rfl) t.nb_int (by decide +kernel) (qv 3))) (pw_and1D (pt_notD (pt_tru (pd_call (ok__law_whole t) (hr.mono (by decide)) (by rfl) t.h__law_whole.gl t.h__law_whole.fu.kp t.h__law_whole.bi passes1 (pad_cons (qv 2) pad_nil) (aCons_len aNil_len))))))) (pssd_one (psd_ret pd_bl)) pssd_nil))))
      (pssd_one (psd_ret (pd_cmp (od_eq hu) (qv 0) (qv 1) (nomark _))))))
theorem ok__law_rows_same (t:Tx K mg) : FnOk P w K mg base (CX1 P w) 3 t.f__law_rows_same t.fd__law_rows_same P__law_rows_same (spD mg 2 F__law_rows_same) :=
  fn_D1 t.h__law_rows_same.fu sc__law_rows_same fun cdv A outer s H E hr =>
    have hu := hr.units
    (pssd_cons (psd_if (PWD.pt (pw_orD (pt_notD (pt_tru (pd_isi kind_tuple (by rfl) t.nb_isinstance (by rfl) t.nb_tuple (by decide +kernel) (qv 0)))) (pw_orD (pt_cmpD (od_ne hu) (pd_callB cd_len (by rfl) t.nb_len (by decide +kernel) (pad_cons (qv 0) pad_nil)) pd_int (nomark _)) (pw_or1D (pt_notD (pt_tru (pd_isi kind_str (by rfl) t.nb_isinstance (by rfl) t.nb_str (by decide +kernel) (pd_ixV (pv 0) pd_int (fun _ _ => rfl))))))))) (pssd_one (psd_ret pd_bl)) pssd_nil)
      (pssd_cons (psd_if (PWD.pt (pw_orD (pt_cmpD (od_ne hu) (pd_ixV (pv 0) pd_int (fun _ _ => rfl)) (pd_ixV (pv 1) pd_int (fun _ _ => rfl)) (nomark _)) (pw_orD (pt_notD (pt_tru (pd_isi kind_list (by rfl) t.nb_isinstance (by rfl) t.nb_list (by decide +kernel) (pd_ixV (pv 0) pd_int (fun _ _ => rfl))))) (pw_or1D (pt_cmpD (od_ne hu) (pd_callB cd_len (by rfl) t.nb_len (by decide +kernel) (pad_cons (pd_ixV (pv 0) pd_int (fun _ _ => rfl)) pad_nil)) (pd_callB cd_len (by rfl) t.nb_len (by decide +kernel) (pad_cons (pd_ixV (pv 1) pd_int (fun _ _ => rfl)) pad_nil)) (nomark _)))))) (pssd_one (psd_ret pd_bl)) pssd_nil)
      (pssd_one (psd_ret (pd_callB (cd_all (by rfl)) (by rfl) t.nb_all (by decide +kernel) (pad_cons (pd_comp rfl (CScope.of (osc := defScope s__law_rows_same) (N := N__law_rows_same) (tN := ["_law_one", "_law_row_here"]) (capN := []) (caps := []) rfl rfl (by decide +kernel)) (pid_zipX (by rfl) t.nb_zip (pad_cons (pd_ixV (pv 0) pd_int (fun _ _ => rfl)) (pad_cons (pd_ixV (pv 1) pd_int (fun _ _ => rfl)) pad_nil))) (by decide) (fun cl C s3 H3 fp => (pgd_tup rfl (pgsd_cons (pgd_name ndc__law_rows_same_1 rfl (.inl rfl)) (pgsd_cons (pgd_name ndc__law_rows_same_1 rfl (.inl rfl)) pgsd_nil (fun _ a _ b => pgs_cons a b)) (fun _ a _ b => pgs_cons a b)))) (fun cl C s3 H3 fp => ptsd_nil) (fun cl C s3 H3 fp => (pd_call (ok__law_row_same t) (hr.mono (by decide)) (by rfl) t.h__law_row_same.gl t.h__law_row_same.fu.kp t.h__law_row_same.bi passX (pad_cons (qv 0) (pad_cons (qv 1) pad_nil)) (aCons_len (aCons_len aNil_len))))) pad_nil))))))
theorem ok__law_same (t:Tx K mg) : FnOk P w K mg base (CX1 P w) 4 t.f__law_same t.fd__law_same P__law_same (spD mg 2 F__law_same) :=
  fn_D1 t.h__law_same.fu sc__law_same fun cdv A outer s H E hr =>
    have hu := hr.units
    (pssd_cons (psd_if (PWD.pt (pw_orD (pt_notD (pt_tru (pd_isi kind_tuple (by rfl) t.nb_isinstance (by rfl) t.nb_tuple (by decide +kernel) (qv 0)))) (pw_or1D (pt_cmpD (od_ne hu) (pd_callB cd_len (by rfl) t.nb_len (by decide +kernel) (pad_cons (qv 0) pad_nil)) pd_int (nomark _))))) (pssd_one (psd_ret pd_bl)) pssd_nil)
      (pssd_cons (psd_if (PWD.pt (pw_orD (pt_notD (pt_tru (pd_call (ok__law_whole t) (hr.mono (by decide)) (by rfl) t.h__law_whole.gl t.h__law_whole.fu.kp t.h__law_whole.bi passes1 (pad_cons (pd_ixV (pv 0) pd_int (fun _ _ => rfl)) pad_nil) (aCons_len aNil_len)))) (pw_orD (pt_notD (pt_tru (pd_call (ok__law_whole t) (hr.mono (by decide)) (by rfl) t.h__law_whole.gl t.h__law_whole.fu.kp t.h__law_whole.bi passes1 (pad_cons (pd_ixV (pv 0) pd_int (fun _ _ => rfl)) pad_nil) (aCons_len aNil_len)))) (pw_or1D (pt_cmpD (od_ne hu) (pd_sliceX (qv 0) pod_none (pod_some pd_int)) (pd_sliceX (qv 1) pod_none (pod_some pd_int)) (nomark _)))))) (pssd_one (psd_ret pd_bl)) pssd_nil)
      (pssd_cons (psd_if (PWD.pt (pw_orD (pt_notD (pt_tru (pd_isi kind_list (by rfl) t.nb_isinstance (by rfl) t.nb_list (by decide +kernel) (pd_ixV (pv 0) pd_int (fun _ _ => rfl))))) (pw_or1D (pt_cmpD (od_ne hu) (pd_callB cd_len (by rfl) t.nb_len (by decide +kernel) (pad_cons (pd_ixV (pv 0) pd_int (fun _ _ => rfl)) pad_nil)) (pd_callB cd_len (by rfl) t.nb_len (by decide +kernel) (pad_cons (pd_ixV (pv 1) pd_int (fun _ _ => rfl)) pad_nil)) (nomark _))))) (pssd_one (psd_ret pd_bl)) pssd_nil)
      (pssd_one (psd_ret (pd_callB (cd_all (by rfl)) (by rfl) t.nb_all (by decide +kernel) (pad_cons (pd_comp rfl (CScope.of (osc := defScope s__law_same) (N := N__law_same) (tN := ["_law_one", "_law_part"]) (capN := []) (caps := []) rfl rfl (by decide +kernel)) (pid_zipX (by rfl) t.nb_zip (pad_cons (pd_ixV (pv 0) pd_int (fun _ _ => rfl)) (pad_cons (pd_ixV (pv 1) pd_int (fun _ _ => rfl)) pad_nil))) (by decide) (fun cl C s3 H3 fp => (pgd_tup rfl (pgsd_cons (pgd_name ndc__law_same_1 rfl (.inl rfl)) (pgsd_cons (pgd_name ndc__law_same_1 rfl (.inl rfl)) pgsd_nil (fun _ a _ b => pgs_cons a b)) (fun _ a _ b => pgs_cons a b)))) (fun cl C s3 H3 fp => ptsd_nil) (fun cl C s3 H3 fp => (pd_call (ok__law_rows_same t) (hr.mono (by decide)) (by rfl) t.h__law_rows_same.gl t.h__law_rows_same.fu.kp t.h__law_rows_same.bi passX (pad_cons (qv 0) (pad_cons (qv 1) pad_nil)) (aCons_len (aCons_len aNil_len))))) pad_nil)))))))
theorem ok_law (t:Tx K mg) : FnOk P w K mg base (CX1 P w) 5 t.f_law t.fd_law P_law (spD mg 1 F_law) :=
  fn_D1 t.h_law.fu sc_law fun cdv A outer s H E hr =>
    have hu := hr.units
    (pssd_cons (psd_setV sc_law.nd rfl (.inl rfl) (pd_call (ok__law_cell_at t) (hr.mono (by decide)) (by rfl) t.h__law_cell_at.gl t.h__law_cell_at.fu.kp t.h__law_cell_at.bi passes1 (pad_cons (qv 0) (pad_cons pd_int pad_nil)) (aCons_len (aCons_len aNil_len))))
      (pssd_cons (psd_set sc_law.nd rfl (.inl rfl) (pd_lst (pad_cons (pd_op od_add pd_int (pd_call (ok__law_digit t) (hr.mono (by decide)) (by rfl) t.h__law_digit.gl t.h__law_digit.fu.kp t.h__law_digit.bi passes1 (pad_cons (qv 1) (pad_cons pd_int (pad_cons pd_int pad_nil))) (aCons_len (aCons_len (aCons_len aNil_len))))) (pad_cons (pd_op od_add pd_int (pd_call (ok__law_digit t) (hr.mono (by decide)) (by rfl) t.h__law_digit.gl t.h__law_digit.fu.kp t.h__law_digit.bi passes1 (pad_cons (qv 1) (pad_cons pd_int (pad_cons pd_int pad_nil))) (aCons_len (aCons_len (aCons_len aNil_len))))) pad_nil))))
      (pssd_cons (psd_setV sc_law.nd rfl (.inl rfl) (pd_call (ok__law_names t) (hr.mono (by decide)) (by rfl) t.h__law_names.gl t.h__law_names.fu.kp t.h__law_names.bi passes1 (pad_cons (pd_call (ok__law_cell_at t) (hr.mono (by decide)) (by rfl) t.h__law_cell_at.gl t.h__law_cell_at.fu.kp t.h__law_cell_at.bi passes1 (pad_cons (qv 0) (pad_cons pd_int pad_nil)) (aCons_len (aCons_len aNil_len))) pad_nil) (aCons_len aNil_len)))
      (pssd_cons (psd_setV sc_law.nd rfl (.inl rfl) (pd_call (ok__law_program t) (hr.mono (by decide)) (by rfl) t.h__law_program.gl t.h__law_program.fu.kp t.h__law_program.bi passes1 (pad_cons (pd_call (ok__law_cells t) (hr.mono (by decide)) (by rfl) t.h__law_cells.gl t.h__law_cells.fu.kp t.h__law_cells.bi passes1 (pad_cons (qv 0) (pad_cons (qv 1) pad_nil)) (aCons_len (aCons_len aNil_len))) (pad_cons (qv 2) (pad_cons (qv 3) (pad_cons (qv 1) pad_nil)))) (aCons_len (aCons_len (aCons_len (aCons_len aNil_len))))))
      (pssd_cons (psd_setV sc_law.nd rfl (.inl rfl) (pd_call (ok__law_program t) (hr.mono (by decide)) (by rfl) t.h__law_program.gl t.h__law_program.fu.kp t.h__law_program.bi passes1 (pad_cons (pd_call (ok__law_cells t) (hr.mono (by decide)) (by rfl) t.h__law_cells.gl t.h__law_cells.fu.kp t.h__law_cells.bi passes1 (pad_cons (qv 0) (pad_cons (qv 1) pad_nil)) (aCons_len (aCons_len aNil_len))) (pad_cons (qv 2) (pad_cons (qv 3) (pad_cons (qv 1) pad_nil)))) (aCons_len (aCons_len (aCons_len (aCons_len aNil_len))))))
      (pssd_cons (psd_for own1 rfl (pid_range1 (by rfl) t.nb_range (pad_cons (pd_callB (cd_minX (by rfl)) (by rfl) t.nb_min (by decide +kernel) (pad_cons (pd_callB cd_len (by rfl) t.nb_len (by decide +kernel) (pad_cons (qv 0) pad_nil)) (pad_cons pd_int pad_nil))) pad_nil)) (pgd_name sc_law.nd rfl (.inl rfl)) (pssd_one (psd_if (pt_notD (pt_tru (pd_call (ok__law_asked t) (hr.mono (by decide)) (by rfl) t.h__law_asked.gl t.h__law_asked.fu.kp t.h__law_asked.bi passes1 (pad_cons (qv 5) (pad_cons (qv 4) (pad_cons (pd_call (ok__law_cell_at t) (hr.mono (by decide)) (by rfl) t.h__law_cell_at.gl t.h__law_cell_at.fu.kp t.h__law_cell_at.bi passes1 (pad_cons (qv 0) (pad_cons (qv 6) pad_nil)) (aCons_len (aCons_len aNil_len))) pad_nil))) (aCons_len (aCons_len (aCons_len aNil_len)))))) (pssd_one (psd_ret pd_bl)) pssd_nil)))
      (pssd_one (psd_ret (pd_and (pd_call (ok__law_asked t) (hr.mono (by decide)) (by rfl) t.h__law_asked.gl t.h__law_asked.fu.kp t.h__law_asked.bi passes1 (pad_cons (qv 5) (pad_cons (qv 4) (pad_cons (pd_op od_add (qv 1) pd_int) pad_nil))) (aCons_len (aCons_len (aCons_len aNil_len)))) (pd_one (pd_call (ok__law_same t) (hr.mono (by decide)) (by rfl) t.h__law_same.gl t.h__law_same.fu.kp t.h__law_same.bi passes1 (pad_cons (qv 5) (pad_cons (qv 4) pad_nil)) (aCons_len (aCons_len aNil_len)))))))))))))
end
theorem tx_mk {K:PySem.W.Frag} {mg:Str -> Option Value} {h:Heap} (X:K.In h) (G:h.Ns mainGlobals mg)
    {f__law_cell_at:Addr} {od__law_cell_at an__law_cell_at:Option Addr} {sl__law_cell_at:Array (Option Value)} {oc__law_cell_at kV__law_cell_at dc__law_cell_at pm__law_cell_at cd__law_cell_at ct__law_cell_at:Value}
    (a__law_cell_at : PySem.W.nsIn K mainGlobals "_law_cell_at" = some (some (.ref f__law_cell_at))) (l__law_cell_at : K.lookup f__law_cell_at = some ⟨oc__law_cell_at, od__law_cell_at, .func (PySem.W.fnOf "_law_cell_at" "_law_cell_at" (defArgs s__law_cell_at) (defBody s__law_cell_at) (defScope s__law_cell_at) .none kV__law_cell_at dc__law_cell_at pm__law_cell_at an__law_cell_at cd__law_cell_at ct__law_cell_at), sl__law_cell_at⟩) (c__law_cell_at : PySem.W.codeIn K cd__law_cell_at "_law_cell_at" = true) (k__law_cell_at : PySem.W.keepIn K (.ref f__law_cell_at) = true)
    {f__law_digit:Addr} {od__law_digit an__law_digit:Option Addr} {sl__law_digit:Array (Option Value)} {oc__law_digit kV__law_digit dc__law_digit pm__law_digit cd__law_digit ct__law_digit:Value}
    (a__law_digit : PySem.W.nsIn K mainGlobals "_law_digit" = some (some (.ref f__law_digit))) (l__law_digit : K.lookup f__law_digit = some ⟨oc__law_digit, od__law_digit, .func (PySem.W.fnOf "_law_digit" "_law_digit" (defArgs s__law_digit) (defBody s__law_digit) (defScope s__law_digit) .none kV__law_digit dc__law_digit pm__law_digit an__law_digit cd__law_digit ct__law_digit), sl__law_digit⟩) (c__law_digit : PySem.W.codeIn K cd__law_digit "_law_digit" = true) (k__law_digit : PySem.W.keepIn K (.ref f__law_digit) = true)
    {f__law_names:Addr} {od__law_names an__law_names:Option Addr} {sl__law_names:Array (Option Value)} {oc__law_names kV__law_names dc__law_names pm__law_names cd__law_names ct__law_names:Value}
    (a__law_names : PySem.W.nsIn K mainGlobals "_law_names" = some (some (.ref f__law_names))) (l__law_names : K.lookup f__law_names = some ⟨oc__law_names, od__law_names, .func (PySem.W.fnOf "_law_names" "_law_names" (defArgs s__law_names) (defBody s__law_names) (defScope s__law_names) .none kV__law_names dc__law_names pm__law_names an__law_names cd__law_names ct__law_names), sl__law_names⟩) (c__law_names : PySem.W.codeIn K cd__law_names "_law_names" = true) (k__law_names : PySem.W.keepIn K (.ref f__law_names) = true)
    {f__law_row:Addr} {od__law_row an__law_row:Option Addr} {sl__law_row:Array (Option Value)} {oc__law_row kV__law_row dc__law_row pm__law_row cd__law_row ct__law_row:Value}
    (a__law_row : PySem.W.nsIn K mainGlobals "_law_row" = some (some (.ref f__law_row))) (l__law_row : K.lookup f__law_row = some ⟨oc__law_row, od__law_row, .func (PySem.W.fnOf "_law_row" "_law_row" (defArgs s__law_row) (defBody s__law_row) (defScope s__law_row) .none kV__law_row dc__law_row pm__law_row an__law_row cd__law_row ct__law_row), sl__law_row⟩) (c__law_row : PySem.W.codeIn K cd__law_row "_law_row" = true) (k__law_row : PySem.W.keepIn K (.ref f__law_row) = true)
    {f__law_program:Addr} {od__law_program an__law_program:Option Addr} {sl__law_program:Array (Option Value)} {oc__law_program kV__law_program dc__law_program pm__law_program cd__law_program ct__law_program:Value}
    (a__law_program : PySem.W.nsIn K mainGlobals "_law_program" = some (some (.ref f__law_program))) (l__law_program : K.lookup f__law_program = some ⟨oc__law_program, od__law_program, .func (PySem.W.fnOf "_law_program" "_law_program" (defArgs s__law_program) (defBody s__law_program) (defScope s__law_program) .none kV__law_program dc__law_program pm__law_program an__law_program cd__law_program ct__law_program), sl__law_program⟩) (c__law_program : PySem.W.codeIn K cd__law_program "_law_program" = true) (k__law_program : PySem.W.keepIn K (.ref f__law_program) = true)
    {f__law_cells:Addr} {od__law_cells an__law_cells:Option Addr} {sl__law_cells:Array (Option Value)} {oc__law_cells kV__law_cells dc__law_cells pm__law_cells cd__law_cells ct__law_cells:Value}
    (a__law_cells : PySem.W.nsIn K mainGlobals "_law_cells" = some (some (.ref f__law_cells))) (l__law_cells : K.lookup f__law_cells = some ⟨oc__law_cells, od__law_cells, .func (PySem.W.fnOf "_law_cells" "_law_cells" (defArgs s__law_cells) (defBody s__law_cells) (defScope s__law_cells) .none kV__law_cells dc__law_cells pm__law_cells an__law_cells cd__law_cells ct__law_cells), sl__law_cells⟩) (c__law_cells : PySem.W.codeIn K cd__law_cells "_law_cells" = true) (k__law_cells : PySem.W.keepIn K (.ref f__law_cells) = true)
    {f__law_stranger:Addr} {od__law_stranger an__law_stranger:Option Addr} {sl__law_stranger:Array (Option Value)} {oc__law_stranger kV__law_stranger dc__law_stranger pm__law_stranger cd__law_stranger ct__law_stranger:Value}
    (a__law_stranger : PySem.W.nsIn K mainGlobals "_law_stranger" = some (some (.ref f__law_stranger))) (l__law_stranger : K.lookup f__law_stranger = some ⟨oc__law_stranger, od__law_stranger, .func (PySem.W.fnOf "_law_stranger" "_law_stranger" (defArgs s__law_stranger) (defBody s__law_stranger) (defScope s__law_stranger) .none kV__law_stranger dc__law_stranger pm__law_stranger an__law_stranger cd__law_stranger ct__law_stranger), sl__law_stranger⟩) (c__law_stranger : PySem.W.codeIn K cd__law_stranger "_law_stranger" = true) (k__law_stranger : PySem.W.keepIn K (.ref f__law_stranger) = true)
    {f_point_of:Addr} {od_point_of an_point_of:Option Addr} {sl_point_of:Array (Option Value)} {oc_point_of kV_point_of dc_point_of pm_point_of cd_point_of ct_point_of:Value}
    (a_point_of : PySem.W.nsIn K mainGlobals "point_of" = some (some (.ref f_point_of))) (l_point_of : K.lookup f_point_of = some ⟨oc_point_of, od_point_of, .func (PySem.W.fnOf "point_of" "point_of" (defArgs s_point_of) (defBody s_point_of) (defScope s_point_of) .none kV_point_of dc_point_of pm_point_of an_point_of cd_point_of ct_point_of), sl_point_of⟩) (c_point_of : PySem.W.codeIn K cd_point_of "point_of" = true) (k_point_of : PySem.W.keepIn K (.ref f_point_of) = true)
    {f__law_point:Addr} {od__law_point an__law_point:Option Addr} {sl__law_point:Array (Option Value)} {oc__law_point kV__law_point dc__law_point pm__law_point cd__law_point ct__law_point:Value}
    (a__law_point : PySem.W.nsIn K mainGlobals "_law_point" = some (some (.ref f__law_point))) (l__law_point : K.lookup f__law_point = some ⟨oc__law_point, od__law_point, .func (PySem.W.fnOf "_law_point" "_law_point" (defArgs s__law_point) (defBody s__law_point) (defScope s__law_point) .none kV__law_point dc__law_point pm__law_point an__law_point cd__law_point ct__law_point), sl__law_point⟩) (c__law_point : PySem.W.codeIn K cd__law_point "_law_point" = true) (k__law_point : PySem.W.keepIn K (.ref f__law_point) = true)
    {f__law_whole:Addr} {od__law_whole an__law_whole:Option Addr} {sl__law_whole:Array (Option Value)} {oc__law_whole kV__law_whole dc__law_whole pm__law_whole cd__law_whole ct__law_whole:Value}
    (a__law_whole : PySem.W.nsIn K mainGlobals "_law_whole" = some (some (.ref f__law_whole))) (l__law_whole : K.lookup f__law_whole = some ⟨oc__law_whole, od__law_whole, .func (PySem.W.fnOf "_law_whole" "_law_whole" (defArgs s__law_whole) (defBody s__law_whole) (defScope s__law_whole) .none kV__law_whole dc__law_whole pm__law_whole an__law_whole cd__law_whole ct__law_whole), sl__law_whole⟩) (c__law_whole : PySem.W.codeIn K cd__law_whole "_law_whole" = true) (k__law_whole : PySem.W.keepIn K (.ref f__law_whole) = true)
    {f__law_asked:Addr} {od__law_asked an__law_asked:Option Addr} {sl__law_asked:Array (Option Value)} {oc__law_asked kV__law_asked dc__law_asked pm__law_asked cd__law_asked ct__law_asked:Value}
    (a__law_asked : PySem.W.nsIn K mainGlobals "_law_asked" = some (some (.ref f__law_asked))) (l__law_asked : K.lookup f__law_asked = some ⟨oc__law_asked, od__law_asked, .func (PySem.W.fnOf "_law_asked" "_law_asked" (defArgs s__law_asked) (defBody s__law_asked) (defScope s__law_asked) .none kV__law_asked dc__law_asked pm__law_asked an__law_asked cd__law_asked ct__law_asked), sl__law_asked⟩) (c__law_asked : PySem.W.codeIn K cd__law_asked "_law_asked" = true) (k__law_asked : PySem.W.keepIn K (.ref f__law_asked) = true)
    {f__law_row_same:Addr} {od__law_row_same an__law_row_same:Option Addr} {sl__law_row_same:Array (Option Value)} {oc__law_row_same kV__law_row_same dc__law_row_same pm__law_row_same cd__law_row_same ct__law_row_same:Value}
    (a__law_row_same : PySem.W.nsIn K mainGlobals "_law_row_same" = some (some (.ref f__law_row_same))) (l__law_row_same : K.lookup f__law_row_same = some ⟨oc__law_row_same, od__law_row_same, .func (PySem.W.fnOf "_law_row_same" "_law_row_same" (defArgs s__law_row_same) (defBody s__law_row_same) (defScope s__law_row_same) .none kV__law_row_same dc__law_row_same pm__law_row_same an__law_row_same cd__law_row_same ct__law_row_same), sl__law_row_same⟩) (c__law_row_same : PySem.W.codeIn K cd__law_row_same "_law_row_same" = true) (k__law_row_same : PySem.W.keepIn K (.ref f__law_row_same) = true)
    {f__law_rows_same:Addr} {od__law_rows_same an__law_rows_same:Option Addr} {sl__law_rows_same:Array (Option Value)} {oc__law_rows_same kV__law_rows_same dc__law_rows_same pm__law_rows_same cd__law_rows_same ct__law_rows_same:Value}
    (a__law_rows_same : PySem.W.nsIn K mainGlobals "_law_rows_same" = some (some (.ref f__law_rows_same))) (l__law_rows_same : K.lookup f__law_rows_same = some ⟨oc__law_rows_same, od__law_rows_same, .func (PySem.W.fnOf "_law_rows_same" "_law_rows_same" (defArgs s__law_rows_same) (defBody s__law_rows_same) (defScope s__law_rows_same) .none kV__law_rows_same dc__law_rows_same pm__law_rows_same an__law_rows_same cd__law_rows_same ct__law_rows_same), sl__law_rows_same⟩) (c__law_rows_same : PySem.W.codeIn K cd__law_rows_same "_law_rows_same" = true) (k__law_rows_same : PySem.W.keepIn K (.ref f__law_rows_same) = true)
    {f__law_same:Addr} {od__law_same an__law_same:Option Addr} {sl__law_same:Array (Option Value)} {oc__law_same kV__law_same dc__law_same pm__law_same cd__law_same ct__law_same:Value}
    (a__law_same : PySem.W.nsIn K mainGlobals "_law_same" = some (some (.ref f__law_same))) (l__law_same : K.lookup f__law_same = some ⟨oc__law_same, od__law_same, .func (PySem.W.fnOf "_law_same" "_law_same" (defArgs s__law_same) (defBody s__law_same) (defScope s__law_same) .none kV__law_same dc__law_same pm__law_same an__law_same cd__law_same ct__law_same), sl__law_same⟩) (c__law_same : PySem.W.codeIn K cd__law_same "_law_same" = true) (k__law_same : PySem.W.keepIn K (.ref f__law_same) = true)
    {f_law:Addr} {od_law an_law:Option Addr} {sl_law:Array (Option Value)} {oc_law kV_law dc_law pm_law cd_law ct_law:Value}
    (a_law : PySem.W.nsIn K mainGlobals "law" = some (some (.ref f_law))) (l_law : K.lookup f_law = some ⟨oc_law, od_law, .func (PySem.W.fnOf "law" "law" (defArgs s_law) (defBody s_law) (defScope s_law) .none kV_law dc_law pm_law an_law cd_law ct_law), sl_law⟩) (c_law : PySem.W.codeIn K cd_law "law" = true) (k_law : PySem.W.keepIn K (.ref f_law) = true)
    (z_all : PySem.W.nsIn K mainGlobals "all" = some none)
    (z_bool : PySem.W.nsIn K mainGlobals "bool" = some none)
    (z_enumerate : PySem.W.nsIn K mainGlobals "enumerate" = some none)
    (z_int : PySem.W.nsIn K mainGlobals "int" = some none)
    (z_isinstance : PySem.W.nsIn K mainGlobals "isinstance" = some none)
    (z_len : PySem.W.nsIn K mainGlobals "len" = some none)
    (z_list : PySem.W.nsIn K mainGlobals "list" = some none)
    (z_min : PySem.W.nsIn K mainGlobals "min" = some none)
    (z_range : PySem.W.nsIn K mainGlobals "range" = some none)
    (z_str : PySem.W.nsIn K mainGlobals "str" = some none)
    (z_sum : PySem.W.nsIn K mainGlobals "sum" = some none)
    (z_tuple : PySem.W.nsIn K mainGlobals "tuple" = some none)
    (z_zip : PySem.W.nsIn K mainGlobals "zip" = some none)
    {C_NoName : Addr} (b_NoName : PySem.W.nsIn K mainGlobals "NoName" = some (some (.ref C_NoName))) (e_NoName : PySem.W.excIn K C_NoName vMro "ValueError.__new__" = true)
    {C_NoRow : Addr} (b_NoRow : PySem.W.nsIn K mainGlobals "NoRow" = some (some (.ref C_NoRow))) (e_NoRow : PySem.W.excIn K C_NoRow vMro "ValueError.__new__" = true)
    (m_NoName_NoName:(mroK K C_NoName).contains (.ref C_NoName) = true)
    (m_T0a_NoRow:(mroK K C_NoRow).contains (.ref C_NoName) = false)
    (m_T0b_NoRow:(mroK K C_NoRow).contains (.ref C_NoRow) = true)
    : ∃ t:Tx K mg,t.f_law = f_law :=
  ⟨⟨f__law_cell_at,_,⟨fun_mk (st := s__law_cell_at) l__law_cell_at c__law_cell_at k__law_cell_at,(fun_mk (st := s__law_cell_at) l__law_cell_at c__law_cell_at k__law_cell_at).binds (ps := P__law_cell_at) fun _ _ _ _ _ _ us hl => match us,hl with | [_,_],_ => rfl,PySem.W.mg_of X G a__law_cell_at⟩,
    f__law_digit,_,⟨fun_mk (st := s__law_digit) l__law_digit c__law_digit k__law_digit,(fun_mk (st := s__law_digit) l__law_digit c__law_digit k__law_digit).binds (ps := P__law_digit) fun _ _ _ _ _ _ us hl => match us,hl with | [_,_,_],_ => rfl,PySem.W.mg_of X G a__law_digit⟩,
    f__law_names,_,⟨fun_mk (st := s__law_names) l__law_names c__law_names k__law_names,(fun_mk (st := s__law_names) l__law_names c__law_names k__law_names).binds (ps := P__law_names) fun _ _ _ _ _ _ us hl => match us,hl with | [_],_ => rfl,PySem.W.mg_of X G a__law_names⟩,
    f__law_row,_,⟨fun_mk (st := s__law_row) l__law_row c__law_row k__law_row,(fun_mk (st := s__law_row) l__law_row c__law_row k__law_row).binds (ps := P__law_row) fun _ _ _ _ _ _ us hl => match us,hl with | [_,_,_,_,_],_ => rfl,PySem.W.mg_of X G a__law_row⟩,
    f__law_program,_,⟨fun_mk (st := s__law_program) l__law_program c__law_program k__law_program,(fun_mk (st := s__law_program) l__law_program c__law_program k__law_program).binds (ps := P__law_program) fun _ _ _ _ _ _ us hl => match us,hl with | [_,_,_,_],_ => rfl,PySem.W.mg_of X G a__law_program⟩,
    f__law_cells,_,⟨fun_mk (st := s__law_cells) l__law_cells c__law_cells k__law_cells,(fun_mk (st := s__law_cells) l__law_cells c__law_cells k__law_cells).binds (ps := P__law_cells) fun _ _ _ _ _ _ us hl => match us,hl with | [_,_],_ => rfl,PySem.W.mg_of X G a__law_cells⟩,
    f__law_stranger,_,⟨fun_mk (st := s__law_stranger) l__law_stranger c__law_stranger k__law_stranger,(fun_mk (st := s__law_stranger) l__law_stranger c__law_stranger k__law_stranger).binds (ps := P__law_stranger) fun _ _ _ _ _ _ us hl => match us,hl with | [_],_ => rfl,PySem.W.mg_of X G a__law_stranger⟩,
    f_point_of,_,⟨fun_mk (st := s_point_of) l_point_of c_point_of k_point_of,(fun_mk (st := s_point_of) l_point_of c_point_of k_point_of).binds (ps := P_point_of) fun _ _ _ _ _ _ us hl => match us,hl with | [_,_,_],_ => rfl,PySem.W.mg_of X G a_point_of⟩,
    f__law_point,_,⟨fun_mk (st := s__law_point) l__law_point c__law_point k__law_point,(fun_mk (st := s__law_point) l__law_point c__law_point k__law_point).binds (ps := P__law_point) fun _ _ _ _ _ _ us hl => match us,hl with | [_,_,_],_ => rfl,PySem.W.mg_of X G a__law_point⟩,
    f__law_whole,_,⟨fun_mk (st := s__law_whole) l__law_whole c__law_whole k__law_whole,(fun_mk (st := s__law_whole) l__law_whole c__law_whole k__law_whole).binds (ps := P__law_whole) fun _ _ _ _ _ _ us hl => match us,hl with | [_],_ => rfl,PySem.W.mg_of X G a__law_whole⟩,
    f__law_asked,_,⟨fun_mk (st := s__law_asked) l__law_asked c__law_asked k__law_asked,(fun_mk (st := s__law_asked) l__law_asked c__law_asked k__law_asked).binds (ps := P__law_asked) fun _ _ _ _ _ _ us hl => match us,hl with | [_,_,_],_ => rfl,PySem.W.mg_of X G a__law_asked⟩,
    f__law_row_same,_,⟨fun_mk (st := s__law_row_same) l__law_row_same c__law_row_same k__law_row_same,(fun_mk (st := s__law_row_same) l__law_row_same c__law_row_same k__law_row_same).binds (ps := P__law_row_same) fun _ _ _ _ _ _ us hl => match us,hl with | [_,_],_ => rfl,PySem.W.mg_of X G a__law_row_same⟩,
    f__law_rows_same,_,⟨fun_mk (st := s__law_rows_same) l__law_rows_same c__law_rows_same k__law_rows_same,(fun_mk (st := s__law_rows_same) l__law_rows_same c__law_rows_same k__law_rows_same).binds (ps := P__law_rows_same) fun _ _ _ _ _ _ us hl => match us,hl with | [_,_],_ => rfl,PySem.W.mg_of X G a__law_rows_same⟩,
    f__law_same,_,⟨fun_mk (st := s__law_same) l__law_same c__law_same k__law_same,(fun_mk (st := s__law_same) l__law_same c__law_same k__law_same).binds (ps := P__law_same) fun _ _ _ _ _ _ us hl => match us,hl with | [_,_],_ => rfl,PySem.W.mg_of X G a__law_same⟩,
    f_law,_,⟨fun_mk (st := s_law) l_law c_law k_law,(fun_mk (st := s_law) l_law c_law k_law).binds (ps := P_law) fun _ _ _ _ _ _ us hl => match us,hl with | [_],_ => rfl,PySem.W.mg_of X G a_law⟩,
    PySem.W.mg_none_of X G z_all,
    PySem.W.mg_none_of X G z_bool,
    PySem.W.mg_none_of X G z_enumerate,
    PySem.W.mg_none_of X G z_int,
    PySem.W.mg_none_of X G z_isinstance,
    PySem.W.mg_none_of X G z_len,
    PySem.W.mg_none_of X G z_list,
    PySem.W.mg_none_of X G z_min,
    PySem.W.mg_none_of X G z_range,
    PySem.W.mg_none_of X G z_str,
    PySem.W.mg_none_of X G z_sum,
    PySem.W.mg_none_of X G z_tuple,
    PySem.W.mg_none_of X G z_zip,
    C_NoName,⟨PySem.W.mg_of X G b_NoName,e_NoName⟩,
    C_NoRow,⟨PySem.W.mg_of X G b_NoRow,e_NoRow⟩,
    m_NoName_NoName,
    m_T0a_NoRow,
    m_T0b_NoRow⟩,rfl⟩
theorem all_mk {l : PySem.W.OpenLaw} {w : World} {K : PySem.W.Frag} {mg : Str -> Option Value} {h : Heap} {fa : Addr} (X : K.In h) (G : h.Ns mainGlobals mg) (hfa : mg "law" = some (.ref fa)) (T : ∃ t : Tx K mg, True) :
    ∃ fd : FuncData, (∀ (s : Shared) (v : Value), BindsTo s fd ⟨[v], []⟩ [("_law_script", v)]) /\ ∀ base : Heap, K.In base -> base.Ns mainGlobals mg -> FnOk l.prog w K mg base (CX1 l.prog w) 5 fa fd ["_law_script"] (spT F_law) := by
  obtain ⟨t,_⟩ := T
  have e := hfa.symm.trans t.h_law.gl
  cases e
  obtain ⟨oc,od,kV,doc,pm,an,cdv,ct,osl,efd,lk,hcd⟩ := t.h_law.fu.ex
  exact ⟨t.fd_law,fun s v => by rw [efd]; exact .of_eq rfl,fun base _ _ => FnOk.top (ok_law t)⟩
end W
namespace W
open PySem L2 L3
theorem forD_find {α:Type} (g:α -> D) {asg:D -> Bool -> En -> Option En} {fr:Bool} {body:En -> Res Fl} (P:En -> Prop) (p:α -> Bool) (res:α -> R) : ∀ (xs:List α) (env:En),P env ->
    (∀ a ∈ xs,∀ env,P env -> ∃ env1,asg (g a) fr env = some env1 /\ ((p a = true /\ body env1 = .ok (.rt (res a))) \/ (p a = false /\ ∃ env2,body env1 = .ok (.nx env2) /\ P env2))) ->
    (∀ a,xs.find? p = some a -> forD asg fr body (xs.map g) env = .ok (.rt (res a))) /\ (xs.find? p = none -> ∃ env',forD asg fr body (xs.map g) env = .ok (.nx env') /\ P env')
  | [],env,h,_ => ⟨fun _ e => (by cases e),fun _ => ⟨env,rfl,h⟩⟩
  | a :: r,env,h,st => by
    obtain ⟨env1,h1,h2⟩ := st a (by simp) env h
    rw [List.find?_cons,List.map_cons]
    rcases h2 with ⟨hp,hb⟩ | ⟨hp,env2,hb,h3⟩
    · rw [hp]
      refine ⟨fun b e => ?_,fun e => (by cases e)⟩
      cases e
      unfold forD; rw [h1]; dsimp only; rw [hb]; rfl
    · rw [hp]
      obtain ⟨i1,i2⟩ := forD_find g P p res r env2 h3 fun b hb => st b (by simp [hb])
      refine ⟨fun b e => ?_,fun e => ?_⟩
      · rw [<- i1 b e]; conv => lhs; unfold forD
        rw [h1]; dsimp only; rw [hb]; rfl
      · obtain ⟨env',e1,e2⟩ := i2 e
        refine ⟨env',?_,e2⟩
        rw [<- e1]; conv => lhs; unfold forD
        rw [h1]; dsimp only; rw [hb]; rfl
end W
namespace W
open PySem L2 L3
def ten60:Int := 1000000000000000000000000000000000000000000000000000000000000
theorem t60:(0:Int) < 1000000000000000000000000000000000000000000000000000000000000 := by decide
def dg (c p n:Int) : Int := (c % ten60 * 48271 + 11) % p % n
theorem dg_nn (c p n:Int) (h:0 < n) : 0 <= dg c p n := Int.emod_nonneg _ (by omega)
theorem dg_lt (c p n:Int) (h:0 < n) : dg c p n < n := Int.emod_lt_of_pos _ h
theorem digit_ok (c p n:Int) (hp:0 < p) (hn:0 < n) : F__law_digit [.int c,.int p,.int n] = .ok (.val (.int (dg c p n)) true []) := by
  simp_arith [F__law_digit,B__law_digit,hp,hn,t60]
  rfl
def cel (ns:List Int) (k:Int) : Int := if k < ns.length then (atI ns k).getD 0 % ten60 else 0
theorem cel_at (ns:List Int) (k:Int) (h0:0 <= k) : F__law_cell_at [.lst (ns.map .int),.int k] = .ok (.val (.int (cel ns k)) true []) := by
  by_cases h:k < ns.length
  · have hd:decide (k < (ns.length:Int)) = true := decide_eq_true h
    obtain ⟨a,ea,_⟩ := atI_in h0 h
    have ha:atI (ns.map D.int) k = some (.int a) := by rw [atI_map,ea]; rfl
    simp_arith [F__law_cell_at,B__law_cell_at,List.length_map,hd,ha,t60]
    unfold cel; rw [if_pos h,ea]; rfl
  · have hd:decide (k < (ns.length:Int)) = false := decide_eq_false h
    simp_arith [F__law_cell_at,B__law_cell_at,List.length_map,hd]
    unfold cel; rw [if_neg h]
def Wd:D -> Prop
  | .str _ => True
  | .int _ => True
  | _ => False
theorem Wd.flat {d:D} (h:Wd d) : d.flat = true := by cases d <;> first | rfl | exact h.elim
theorem whole_int (i:Int) : F__law_whole [.int i] = .ok (.val (.bl true) true []) := by
  simp_arith [F__law_whole,B__law_whole]
end W
namespace W
open PySem L2 L3
theorem zip_same (ds:List D) : zipD ds ds = ds.map fun d => .tup [d,d] := by
  induction ds with
  | nil => rfl
  | cons d r ih => rw [List.map_cons]; unfold zipD; rw [ih]
theorem isT_si {x : Int} : isT "str" (.int x) = false := (rfl)
theorem isT_ss {x : Str} : isT "str" (.str x) = true := (rfl)
theorem isT_is {x : Str} : isT "int" (.str x) = false := (rfl)
def Row (ds:List D) : Prop := ds.length <= 4 /\ ∀ d ∈ ds,Wd d
theorem Row.flats {ds:List D} (h:Row ds) : D.flats ds = true := flats_of fun d hd => (h.2 d hd).flat
theorem Row.deps {ds:List D} (h:Row ds) : D.deps ds <= 0 := deps_le fun d hd => by
  have := h.2 d hd
  cases d <;> first | exact Nat.le_refl _ | exact this.elim
theorem row_turn {a b:Option Sl} {d:D} {f:Bool} (h:Wd d) : L__law_row_same_1 [a,b,some (.val d f),some (.val d f)] = .ok (.nx [a,b,some (.val d f),some (.val d f)]) := by
  cases d with
  | str x => simp_arith [L__law_row_same_1,isT_ss,isT_is]
  | int x => simp_arith [L__law_row_same_1,isT_si,isT_ii,whole_int]
  | _ => exact h.elim
theorem row_same (ds:List D) (h:Row ds) : F__law_row_same [.tup ds,.tup ds] = .ok (.val (.bl true) true []) := by
  have hfl := h.flats
  have hdp := h.deps
  obtain ⟨env',lp,e2,e3,rfl⟩ := forD_inv (fr := true) (asg := gT 2 (gsCons (gN 2) (gsCons (gN 3) gsNil))) (body := L__law_row_same_1) (fun d:D => D.tup [d,d]) (fun _ env => ∃ e2 e3,env = [some (.val (.tup ds) false),some (.val (.tup ds) false),e2,e3]) ds [] [some (.val (.tup ds) false),some (.val (.tup ds) false),none,none] ⟨_,_,rfl⟩
    (by
      rintro pre post d env _ ⟨e2,e3,rfl⟩ hd
      exact ⟨_,_,rfl,row_turn (h.2 d hd),_,_,rfl⟩)
  have hne:(((ds.length:Nat) : Int) == ((ds.length:Nat) : Int)) = true := beq_self_eq_true _
  have hdd:(D.tup ds).dep <= 50 := by rw [dep_tup]; omega
  simp_arith [F__law_row_same,B__law_row_same,e_ne,hne,zip_same,hfl]
  simp_arith [lp,hfl]
  rw [e_eq (a := .val (.tup ds) true []) (b := .val (.tup ds) true []) hdd hdd]
  simp_arith [eqD_refl]
end W
namespace W
open PySem L2 L3
abbrev Pr := Str × List (List D)
def prD (p:Pr) : D := .tup [.str p.1,.lst (p.2.map .tup)]
def pgD (s o:Int) (ps:List Pr) : D := .tup [.int s,.int o,.lst (ps.map prD)]
def PrOk (p:Pr) : Prop := p.1.length <= 20 /\ 0 < p.2.length /\ p.2.length <= 400 /\ ∀ r ∈ p.2,Row r
theorem rows_same (p:Pr) (h:PrOk p) : F__law_rows_same [prD p,prD p] = .ok (.val (.bl true) true []) := by
  obtain ⟨n,rs⟩ := p
  obtain ⟨_,_,h1,h2⟩ := h
  dsimp only at h1 h2
  have hne:((((rs.map D.tup).length:Nat) : Int) == (((rs.map D.tup).length:Nat) : Int)) = true := beq_self_eq_true _
  have hz:zipD (rs.map D.tup) (rs.map D.tup) = rs.map fun r => D.tup [D.tup r,D.tup r] := by rw [zip_same,List.map_map]; rfl
  have hc := compD_map (mk := fun d => gT 2 (gsCons (gN 0) (gsCons (gN 1) gsNil)) d false (envB [some (.val (prD (n,rs)) false),some (.val (prD (n,rs)) false)] 2 [])) (test := fun _ => .ok true) (elt := E__law_rows_same_1) (fun r:List D => D.tup [D.tup r,D.tup r]) (fun _ => .val (.bl true) true []) rs
    fun r hr => ⟨[some (.val (.tup r) false),some (.val (.tup r) false)],rfl,rfl,by simp_arith [E__law_rows_same_1,row_same r (h2 r hr),(h2 r hr).flats]⟩
  have hn:(n == n) = true := beq_self_eq_true n
  simp_arith [F__law_rows_same,B__law_rows_same,prD,isT_ss,e_ne,eqD_refl,hne,hz]
  rw [prD] at hc
  rw [e_kComp (by rw [List.length_map]; omega) hc,map_d (fun _ => D.bl true),e_mkLt (flats_map (fun _ => D.bl true) rs fun _ => rfl)]
  simp_arith [e_all,allD_true]
theorem prD_flat (p:Pr) : (prD p).flat = false := by unfold prD; simp only [flat_tup,flats_cons,flat_str,flat_lst,Bool.true_and,Bool.false_and]
theorem same_ok (s o:Int) (ps:List Pr) (hl:ps.length <= 400) (h:∀ p ∈ ps,PrOk p) : F__law_same [pgD s o ps,pgD s o ps] = .ok (.val (.bl true) true []) := by
  have hne:((((ps.map prD).length:Nat) : Int) == (((ps.map prD).length:Nat) : Int)) = true := beq_self_eq_true _
  have hz:zipD (ps.map prD) (ps.map prD) = ps.map fun p => D.tup [prD p,prD p] := by rw [zip_same,List.map_map]; rfl
  have hc := compD_map (mk := fun d => gT 2 (gsCons (gN 0) (gsCons (gN 1) gsNil)) d false (envB [some (.val (pgD s o ps) false),some (.val (pgD s o ps) false)] 2 [])) (test := fun _ => .ok true) (elt := E__law_same_1) (fun p:Pr => D.tup [prD p,prD p]) (fun _ => .val (.bl true) true []) ps
    fun p hp => ⟨[some (.val (prD p) false),some (.val (prD p) false)],rfl,rfl,by simp_arith [E__law_same_1,rows_same p (h p hp),prD_flat p]⟩
  have hcut:cutA [D.int s,D.int o,D.lst (ps.map prD)] none (some 2) = [D.int s,D.int o] := (rfl)
  simp_arith [F__law_same,B__law_same,pgD,whole_int,e_ne,eqD_refl,hne,hz,hcut]
  rw [pgD] at hc
  rw [e_kComp (by rw [List.length_map]; omega) hc,map_d (fun _ => D.bl true),e_mkLt (flats_map (fun _ => D.bl true) ps fun _ => rfl)]
  simp_arith [e_all,allD_true]
end W
namespace W
open PySem L2 L3
def bef (ps:List Pr) (k:Nat) : Int := ((ps.take k).map fun p => (p.2.length:Int)).sum
structure PtOk (s o:Int) (ps:List Pr) : Prop where
  no : ∀ (n : Str) (r : Int), n ∉ ps.map (·.1) -> F_point_of [pgD s o ps, .str n, .int r] = .exc "NoName"
  row : ∀ (k : Nat) (p : Pr) (r : Int), ps[k]? = some p -> (r < 0 \/ (p.2.length : Int) <= r) -> F_point_of [pgD s o ps, .str p.1, .int r] = .exc "NoRow"
  at_:∀ (k:Nat) (p:Pr) (r:Int),ps[k]? = some p -> 0 <= r -> r < p.2.length -> F_point_of [pgD s o ps,.str p.1,.int r] = .ok (.val (.int (bef ps k + r)) true [])
theorem pgD_flat (s o:Int) (ps:List Pr) : (pgD s o ps).flat = false := by unfold pgD; simp only [flat_tup,flats_cons,flat_int,flat_lst,Bool.true_and,Bool.false_and]
section
variable {s o:Int} {ps:List Pr}
theorem point_no (h : PtOk s o ps) {n : Str} (r : Int) (hn : n ∉ ps.map (·.1)) : F__law_point [pgD s o ps, .str n, .int r] = .ok (.val (.tup [.str "name", .non]) true []) := by
  simp_arith [F__law_point,B__law_point,pgD_flat]
  rw [h.no n r hn,e_kTryA2x (by decide)]
  simp_arith [L__law_point_1]
theorem point_row (h : PtOk s o ps) {k : Nat} {p : Pr} {r : Int} (e : ps[k]? = some p) (hr : r < 0 \/ (p.2.length : Int) <= r) : F__law_point [pgD s o ps, .str p.1, .int r] = .ok (.val (.tup [.str "row", .non]) true []) := by
  simp_arith [F__law_point,B__law_point,pgD_flat]
  rw [h.row k p r e hr,e_kTryA2y (by decide) (by decide)]
  simp_arith [L__law_point_2]
theorem point_at (h : PtOk s o ps) {k : Nat} {p : Pr} {r : Int} (e : ps[k]? = some p) (h0 : 0 <= r) (h1 : r < p.2.length) : F__law_point [pgD s o ps, .str p.1, .int r] = .ok (.val (.tup [.str "none", .int (bef ps k + r)]) true []) := by
  simp_arith [F__law_point,B__law_point,pgD_flat]
  rw [h.at_ k p r e h0 h1]
  simp_arith
end
end W
namespace W
open PySem L2 L3
theorem strs_dep (l:List Str) : D.deps (l.map D.str) <= 50 := Nat.le_trans (deps_map (n := 0) fun _ => Nat.le_refl 0) (Nat.zero_le _)
theorem strs_flat (l:List Str) : D.flats (l.map D.str) = true := flats_map _ _ fun _ => rfl
theorem inD_strs (neg:Bool) (x:Str) (l:List Str) : inDD neg (.str x) (.lst (l.map D.str)) = .ok (.val (.bl (if neg then !decide (x ∈ l) else decide (x ∈ l))) true []) := by
  show inD neg (.str x) (l.map D.str) = _
  unfold inD
  rw [if_pos ⟨strs_dep l,Nat.zero_le _⟩]
  have e:(l.map D.str).any (fun e => eqD e (.str x)) = decide (x ∈ l) := by
    rw [List.any_map,Bool.eq_iff_iff,List.any_eq_true,decide_eq_true_eq]
    constructor
    · rintro ⟨y,hy,h⟩
      have:y = x := by simpa [eqD] using h
      exact this ▸ hy
    · intro h
      exact ⟨x,h,by simp [eqD]⟩
  rw [e]
theorem notIn_strs (x:Str) (l:List Str) : inDD true (.str x) (.lst (l.map D.str)) = .ok (.val (.bl (!decide (x ∈ l))) true []) := inD_strs true x l
theorem e_kSumN {ns:List Int} {f:Bool} (hs:smallN ns = true) : kSum [.new (ns.map .int) f] = .ok (.val (.int ns.sum) true []) := by
  show (match intsD (ns.map .int) with | some ns => if smallN ns then Res.ok (R.val (.int ns.sum) true []) else .stuck | none => .stuck) = _
  rw [intsD_map]; exact if_pos hs
section
variable {s o:Int} {ps:List Pr}
theorem name_at {k:Nat} {p:Pr} (e:ps[k]? = some p) : atI ((ps.map (·.1)).map D.str) (k:Int) = some (.str p.1) := by
  have hk := (List.getElem?_eq_some_iff.mp e).1
  unfold atI ixN
  rw [if_pos (by omega),if_pos (by simpa using hk)]
  simp [e]
theorem part_at {k:Nat} {p:Pr} (e:ps[k]? = some p) : atI (ps.map prD) (k:Int) = some (prD p) := by
  have hk := (List.getElem?_eq_some_iff.mp e).1
  unfold atI ixN
  rw [if_pos (by omega),if_pos (by simpa using hk)]
  simp [e]
theorem tail_no (h:PtOk s o ps) {c k row many:Int} {n:Str} {g1 g2 g3 g4:Bool} {e9:Option Sl} (hn:n ∉ ps.map (·.1)) :
    B__law_asked_8 [some (.val (pgD s o ps) false),some (.val (pgD s o ps) false),some (.val (.int c) g1),some (.own ((ps.map (·.1)).map D.str) true),some (.val (.int k) g2),some (.val (.int many) g3),some (.val (.int row) g4),some (.val (.str n) true),none,e9] = .ok (.rt (.val (.bl true) true [])) := by
  have hd:decide (n ∈ ps.map (·.1)) = false := decide_eq_false hn
  simp_arith [B__law_asked_8,pgD_flat]
  rw [point_no h row hn]
  simp_arith [B__law_asked_9,notIn_strs,hd,Bool.not_false,e_eq,eqD_refl]
theorem tail_row (h:PtOk s o ps) {c row:Int} {k:Nat} {p:Pr} {g1 g2 g3 g4:Bool} {e9:Option Sl} (e:ps[k]? = some p) (hr:row < 0 \/ (p.2.length:Int) <= row) :
    B__law_asked_8 [some (.val (pgD s o ps) false),some (.val (pgD s o ps) false),some (.val (.int c) g1),some (.own ((ps.map (·.1)).map D.str) true),some (.val (.int k) g2),some (.val (.int p.2.length) g3),some (.val (.int row) g4),some (.val (.str p.1) true),none,e9] = .ok (.rt (.val (.bl true) true [])) := by
  have hd:decide (p.1 ∈ ps.map (·.1)) = true := decide_eq_true (List.mem_map.mpr ⟨p,List.mem_of_getElem? e,rfl⟩)
  simp_arith [B__law_asked_8,pgD_flat]
  rw [point_row h e hr]
  by_cases h0:row < 0
  · have d0:decide (row < 0) = true := decide_eq_true h0
    simp_arith [B__law_asked_9,notIn_strs,hd,Bool.not_true,B__law_asked_10,d0,e_eq,eqD_refl]
  · have d0:decide (row < 0) = false := decide_eq_false h0
    have d1:decide ((p.2.length:Int) <= row) = true := decide_eq_true (hr.resolve_left h0)
    simp_arith [B__law_asked_9,notIn_strs,hd,Bool.not_true,B__law_asked_10,d0,d1,e_eq,eqD_refl]
theorem bef_small (hl:ps.length <= 400) (h:∀ p ∈ ps,PrOk p) (k:Nat) : smallN ((ps.take k).map fun p => (p.2.length:Int)) = true := by
  unfold smallN
  simp only [Bool.and_eq_true,List.all_eq_true,decide_eq_true_eq]
  refine ⟨fun n hn => ?_,by rw [List.length_map,List.length_take]; unfold lim; omega⟩
  obtain ⟨p,hp,rfl⟩ := List.mem_map.mp hn
  have := (h p (List.mem_of_mem_take hp)).2.2.1
  omega
theorem tail_at (h:PtOk s o ps) (hl:ps.length <= 400) (hp:∀ p ∈ ps,PrOk p) {c row:Int} {k:Nat} {p:Pr} {g1 g2 g3 g4:Bool} {e9:Option Sl} (e:ps[k]? = some p) (h0:0 <= row) (h1:row < p.2.length) :
    B__law_asked_8 [some (.val (pgD s o ps) false),some (.val (pgD s o ps) false),some (.val (.int c) g1),some (.own ((ps.map (·.1)).map D.str) true),some (.val (.int k) g2),some (.val (.int p.2.length) g3),some (.val (.int row) g4),some (.val (.str p.1) true),none,e9] = .ok (.rt (.val (.bl true) true [])) := by
  have hd:decide (p.1 ∈ ps.map (·.1)) = true := decide_eq_true (List.mem_map.mpr ⟨p,List.mem_of_getElem? e,rfl⟩)
  have d0:decide (row < 0) = false := decide_eq_false (by omega)
  have d1:decide ((p.2.length:Int) <= row) = false := decide_eq_false (by omega)
  have hk := (List.getElem?_eq_some_iff.mp e).1
  have k1:-4611686018427387904 <= (k:Int) := by omega
  have k2:(k:Int) < 4611686018427387904 := by omega
  simp_arith [B__law_asked_8,pgD_flat]
  rw [point_at h e h0 h1]
  simp_arith [B__law_asked_9,notIn_strs,hd,Bool.not_true,B__law_asked_10,d0,d1,B__law_asked_11]
  rw [e_kR1 k1 k2,b_ok,Int.toNat_natCast,numsD_0]
  have hrow:∀ i ∈ List.range k,∃ q,ps[i]? = some q := fun i hi => ⟨ps[i]'(by have := List.mem_range.mp hi; omega),List.getElem?_eq_getElem _⟩
  have hc := fun env : En => compD_map (mk := fun d => gN 0 d true (envB (some (.val (pgD s o ps) false) :: some (.val (pgD s o ps) false) :: env) 1 [1])) (test := fun _ => .ok true) (elt := E__law_asked_2) (fun i : Nat => D.int (i : Int)) (fun i => .val (.int (((ps[i]?).getD ("", [])).2.length : Int)) true []) (List.range k)
    fun i hi => ⟨[some (.val (.int i) true),some (.val (pgD s o ps) false)],rfl,rfl,by
      obtain ⟨q,eq⟩ := hrow i hi
      rw [eq]
      simp_arith [E__law_asked_2,pgD,part_at eq,prD]
      rw [List.length_map]; rfl⟩
  rw [e_kComp (by rw [List.length_map, List.length_range]; omega) (hc _), b_ok, map_d (fun i : Nat => D.int (((ps[i]?).getD ("", [])).2.length : Int))]
  have es : (List.range k).map (fun i : Nat => D.int (((ps[i]?).getD ("", [])).2.length : Int)) = ((ps.take k).map fun p => (p.2.length : Int)).map D.int := by
    apply List.ext_getElem?
    intro i
    by_cases hi:i < k
    · have:i < ps.length := by omega
      simp [hi,this]
    · rw [List.getElem?_eq_none (by simp; omega),List.getElem?_eq_none (by simp; omega)]
  rw [es,e_mkLt (flats_ints _)]
  simp_arith [e_kSumN (bef_small hl hp k),B__law_asked_12,e_eq,eqD_refl,whole_int]
  show Res.ok (Fl.rt (R.val (D.bl (bef ps k + row == bef ps k + row)) true [])) = _
  rw [beq_self_eq_true]
theorem nodup_sub_len {α:Type} [DecidableEq α] : ∀ (l m:List α),l.Nodup -> (∀ x ∈ l,x ∈ m) -> l.length <= m.length
  | [],_,_,_ => Nat.zero_le _
  | x :: l,m,nd,h => by
    have hx := h x (by simp)
    obtain ⟨n1,n2⟩ := List.nodup_cons.mp nd
    have := nodup_sub_len l (m.erase x) n2 fun y hy => (List.mem_erase_of_ne (a := y) (b := x) (fun e => n1 (by rw [<- e]; exact hy))).mpr (h y (by simp [hy]))
    rw [List.length_erase_of_mem hx] at this
    have:0 < m.length := List.length_pos_of_mem hx
    rw [List.length_cons]; omega
def strange : List Str := ["mains", "mai", "o", "other", "zzzzzzzz", "maim"]
theorem stranger_ok (l:List Str) (hl:l.length <= 4) : ∃ n:Str,n ∉ l /\ F__law_stranger [.lst (l.map D.str)] = .ok (.val (.str n) true []) := by
  have lp := forD_find (fun x:Str => D.str x) (asg := gN 1) (fr := true) (body := L__law_stranger_1) (fun env => ∃ e,env = [some (.val (.lst (l.map D.str)) false),e]) (fun x => !decide (x ∈ l)) (fun x => .val (.str x) true []) strange [some (.val (.lst (l.map D.str)) false),none] ⟨_,rfl⟩
    (by
      rintro x _ env ⟨e,rfl⟩
      refine ⟨[some (.val (.lst (l.map D.str)) false),some (.val (.str x) true)],rfl,?_⟩
      cases hx:decide (x ∈ l) with
      | false => exact .inl ⟨rfl,by simp_arith [L__law_stranger_1,notIn_strs,hx,Bool.not_false]⟩
      | true => exact .inr ⟨rfl,[some (.val (.lst (l.map D.str)) false),some (.val (.str x) true)],by simp_arith [L__law_stranger_1,notIn_strs,hx,Bool.not_true],_,rfl⟩)
  cases hf:strange.find? (fun x => !decide (x ∈ l)) with
  | none =>
    exfalso
    have hall:∀ x ∈ strange,x ∈ l := fun x hx => by have := List.find?_eq_none.mp hf x hx; simpa using this
    have nd:strange.Nodup := by decide
    have := nodup_sub_len strange l nd hall
    have e6:strange.length = 6 := rfl
    omega
  | some n =>
    refine ⟨n,by have := List.find?_some hf; simpa using this,?_⟩
    have l1 := lp.1 n hf
    have hm : [D.str "mains", D.str "mai", D.str "o", D.str "other", D.str "zzzzzzzz", D.str "maim"] = strange.map fun x => D.str x := rfl
    simp_arith [F__law_stranger,B__law_stranger,hm]
    simp_arith [l1]
end
end W
namespace W
open PySem L2 L3
section
variable {s o:Int} {ps:List Pr}
theorem asked_ok (h:PtOk s o ps) (hl:ps.length <= 4) (h0:0 < ps.length) (hp:∀ p ∈ ps,PrOk p) (c:Int) : F__law_asked [pgD s o ps,pgD s o ps,.int c] = .ok (.val (.bl true) true []) := by
  have hlen:(((ps.map (·.1)).map D.str).length:Int) = ps.length := by simp
  have hn0:(0:Int) < ps.length := by omega
  have dn := dg_nn c 1171 ps.length hn0
  have dl := dg_lt c 1171 ps.length hn0
  obtain ⟨k,hk⟩ : ∃ k:Nat,dg c 1171 ps.length = k := ⟨(dg c 1171 ps.length).toNat,by omega⟩
  have hkl:k < ps.length := by omega
  have e:ps[k]? = some ps[k] := by simp [hkl]
  generalize ps[k] = p at e
  have hpp := hp p (List.mem_of_getElem? e)
  have hc := fun env:En => compD_map (mk := fun d => gN 0 d false (envB env 1 [])) (test := fun _ => .ok true) (elt := E__law_asked_1) prD (fun q => .val (.str q.1) true []) ps
    fun q hq => ⟨[some (.val (prD q) false)],rfl,rfl,by simp_arith [E__law_asked_1,prD]⟩
  have hm:(0:Int) < (p.2.length:Int) + 5 := by omega
  have hdig := digit_ok c 9941 ((p.2.length:Int) + 5) (by decide) hm
  have es:ps.map (fun q => D.str q.1) = (ps.map (·.1)).map D.str := by rw [List.map_map]; rfl
  simp_arith [F__law_asked,B__law_asked,pgD]
  rw [e_kComp (by rw [List.length_map]; omega) (hc _),map_d (fun q:Pr => D.str q.1),es,e_mkLt (strs_flat _)]
  simp_arith [B__law_asked_2,hlen,digit_ok c 1171 ps.length (by decide) hn0,hk]
  simp_arith [B__law_asked_3,part_at e,prD,List.length_map]
  simp_arith [B__law_asked_4,hdig]
  have fin:∀ (row:Int),B__law_asked_6 [some (.val (pgD s o ps) false),some (.val (pgD s o ps) false),some (.val (.int c) false),some (.own ((ps.map (·.1)).map D.str) true),some (.val (.int k) true),some (.val (.int p.2.length) true),some (.val (.int row) true),none,none,none] = .ok (.rt (.val (.bl true) true [])) := fun row => by
    simp_arith [B__law_asked_6,name_at e]
    by_cases h2:dg c 1187 5 = 2
    · obtain ⟨n,hn,hs⟩ := stranger_ok (ps.map (·.1)) (by simpa using hl)
      have b2:(dg c 1187 5 == 2) = true := by rw [h2]; rfl
      simp_arith [B__law_asked_7,digit_ok c 1187 5 (by decide) (by decide),e_eq,e_eqI,b2,hs]
      exact tail_no h hn
    · have b2:(dg c 1187 5 == 2) = false := beq_eq_false_iff_ne.mpr h2
      simp_arith [B__law_asked_7,digit_ok c 1187 5 (by decide) (by decide),e_eq,e_eqI,b2]
      by_cases hr:row < 0 \/ (p.2.length:Int) <= row
      · exact tail_row h e hr
      · exact tail_at h (by omega) hp e (by omega) (by omega)
  by_cases h3:dg c 1181 7 = 3
  · have b3:(dg c 1181 7 == 3) = true := by rw [h3]; rfl
    simp_arith [B__law_asked_5,digit_ok c 1181 7 (by decide) (by decide),e_eq,e_eqI,b3]
    have := fin 1000000000000000000000000000000000000000000000000000000000000
    rw [pgD] at this
    rw [this]
    simp_arith
  · have b3:(dg c 1181 7 == 3) = false := beq_eq_false_iff_ne.mpr h3
    simp_arith [B__law_asked_5,digit_ok c 1181 7 (by decide) (by decide),e_eq,e_eqI,b3]
    have := fin (dg c 9941 ((p.2.length:Int) + 5) - 2)
    rw [pgD] at this
    rw [this]
    simp_arith
end
end W
namespace W
open PySem L2 L3
theorem row1 (a:D) (h:Wd a) : Row [a] := ⟨by simp,fun d hd => by simp at hd; subst hd; exact h⟩
theorem row2 (a b:D) (h:Wd a) (h2:Wd b) : Row [a,b] := ⟨by simp,fun d hd => by simp at hd; rcases hd with rfl | rfl <;> assumption⟩
theorem row3 (a b c:D) (h:Wd a) (h2:Wd b) (h3:Wd c) : Row [a,b,c] := ⟨by simp,fun d hd => by simp at hd; rcases hd with rfl | rfl | rfl <;> assumption⟩
theorem row4 (a b c e:D) (h:Wd a) (h2:Wd b) (h3:Wd c) (h4:Wd e) : Row [a,b,c,e] := ⟨by simp,fun d hd => by simp at hd; rcases hd with rfl | rfl | rfl | rfl <;> assumption⟩
theorem row_tail {c many number goal side lot:Int} {e1:Option Sl} {e4:Option Sl} {names:List Str} {which:Str} (hl:0 < names.length) (h0:0 <= lot) (h1:lot < 14) :
    ∃ ds,Row ds /\ B__law_row_7 [some (.val (.int c) false),e1,some (.val (.int many) false),some (.val (.lst (names.map D.str)) false),e4,some (.val (.int lot) true),some (.val (.int side) true),some (.val (.str which) true),some (.val (.int number) true),some (.val (.int goal) true)] = .ok (.rt (.val (.tup ds) true [])) := by
  have hn0:(0:Int) < names.length := by omega
  have hlen:((names.map D.str).length:Int) = names.length := by simp
  have d1 := dg_nn c 1031 names.length hn0
  have d2 := dg_lt c 1031 names.length hn0
  obtain ⟨n,en,_⟩ := atI_in d1 d2
  have ha:atI (names.map D.str) (dg c 1031 names.length) = some (.str n) := by rw [atI_map,en]; rfl
  have:lot = 0 \/ lot = 1 \/ lot = 2 \/ lot = 3 \/ lot = 4 \/ lot = 5 \/ lot = 6 \/ lot = 7 \/ lot = 8 \/ lot = 9 \/ lot = 10 \/ lot = 11 \/ lot = 12 \/ lot = 13 := by omega
  have t:True := True.intro
  rcases this with rfl | rfl | rfl | rfl | rfl | rfl | rfl | rfl | rfl | rfl | rfl | rfl | rfl | rfl
  · exact ⟨[.str "skip"], row1 _ t, rfl⟩
  · exact ⟨[.str "set", .str which, .int number], row3 _ _ _ t t t, rfl⟩
  · exact ⟨[.str "set", .str which, .int number], row3 _ _ _ t t t, rfl⟩
  · exact ⟨[.str "any", .str which], row2 _ _ t t, rfl⟩
  · exact ⟨[.str "turn", .str which], row2 _ _ t t, rfl⟩
  · exact ⟨[.str "if", .str which, .int number, .int goal], row4 _ _ _ _ t t t t, rfl⟩
  · exact ⟨[.str "if", .str which, .int number, .int goal], row4 _ _ _ _ t t t t, rfl⟩
  · exact ⟨[.str "go", .int goal], row2 _ _ t t, rfl⟩
  · exact ⟨[.str "fork", .int goal], row2 _ _ t t, rfl⟩
  · exact ⟨[.str "fork", .int goal], row2 _ _ t t, rfl⟩
  · exact ⟨[.str "back"], row1 _ t, rfl⟩
  · exact ⟨[.str "stop"], row1 _ t, rfl⟩
  all_goals
    refine ⟨[.str "call", .str n], row2 _ _ t t, ?_⟩
    simp_arith [B__law_row_7,hlen,digit_ok c 1031 names.length (by decide) hn0,ha]
theorem row_ok {c sv ov many:Int} {names:List Str} {last:Bool} (hl:0 < names.length) (h1:0 < sv) (h2:0 < ov) (h3:0 < many) :
    ∃ ds,Row ds /\ F__law_row [.int c,.lst [.int sv,.int ov],.int many,.lst (names.map D.str),.bl last] = .ok (.val (.tup ds) true []) := by
  have s0 := dg_nn c 1013 2 (by decide)
  have s1 := dg_lt c 1013 2 (by decide)
  have l0 := dg_nn c 1009 14 (by decide)
  have l1 := dg_lt c 1009 14 (by decide)
  have m0 := dg_nn c 1009 3 (by decide)
  have m1 := dg_lt c 1009 3 (by decide)
  have step:∀ lot:Int,0 <= lot -> lot < 14 -> ∃ ds,Row ds /\ B__law_row_3 [some (.val (.int c) false),some (.val (.lst [.int sv,.int ov]) false),some (.val (.int many) false),some (.val (.lst (names.map D.str)) false),some (.val (.bl last) false),some (.val (.int lot) true),none,none,none,none] = .ok (.rt (.val (.tup ds) true [])) := fun lot a b => by
    have hs:dg c 1013 2 = 0 \/ dg c 1013 2 = 1 := by omega
    have i0 : atI [D.str "shared", D.str "own"] 0 = some (.str "shared") := rfl
    have i1 : atI [D.str "shared", D.str "own"] 1 = some (.str "own") := rfl
    have j0:atI [D.int sv,D.int ov] 0 = some (.int sv) := rfl
    have j1:atI [D.int sv,D.int ov] 1 = some (.int ov) := rfl
    rcases hs with hs | hs
    · obtain ⟨ds, r, e⟩ := row_tail (c := c) (many := many) (number := dg c 1019 sv) (goal := dg c 1021 many) (side := 0) (lot := lot) (e1 := some (.val (.lst [.int sv, .int ov]) false)) (e4 := some (.val (.bl last) false)) (which := "shared") hl a b
      refine ⟨ds,r,?_⟩
      rw [<- e]
      simp_arith [B__law_row_3,B__law_row_4,B__law_row_5,B__law_row_6,digit_ok c 1013 2 (by decide) (by decide),hs,i0,j0,digit_ok c 1019 sv (by decide) h1,digit_ok c 1021 many (by decide) h3]
    · obtain ⟨ds, r, e⟩ := row_tail (c := c) (many := many) (number := dg c 1019 ov) (goal := dg c 1021 many) (side := 1) (lot := lot) (e1 := some (.val (.lst [.int sv, .int ov]) false)) (e4 := some (.val (.bl last) false)) (which := "own") hl a b
      refine ⟨ds,r,?_⟩
      rw [<- e]
      simp_arith [B__law_row_3,B__law_row_4,B__law_row_5,B__law_row_6,digit_ok c 1013 2 (by decide) (by decide),hs,i1,j1,digit_ok c 1019 ov (by decide) h2,digit_ok c 1021 many (by decide) h3]
  cases last with
  | false =>
    obtain ⟨ds,r,e⟩ := step (dg c 1009 14) l0 l1
    refine ⟨ds,r,?_⟩
    simp_arith [F__law_row,B__law_row,digit_ok c 1009 14 (by decide) (by decide),B__law_row_2,e]
  | true =>
    have hm:∃ q:Int,0 <= q /\ q < 14 /\ atI [D.int 7,D.int 10,D.int 11] (dg c 1009 3) = some (.int q) := by
      have:dg c 1009 3 = 0 \/ dg c 1009 3 = 1 \/ dg c 1009 3 = 2 := by omega
      rcases this with h | h | h <;> rw [h]
      · exact ⟨7,by decide,by decide,rfl⟩
      · exact ⟨10,by decide,by decide,rfl⟩
      · exact ⟨11,by decide,by decide,rfl⟩
    obtain ⟨q,q0,q1,eq⟩ := hm
    obtain ⟨ds,r,e⟩ := step q q0 q1
    refine ⟨ds,r,?_⟩
    simp_arith [F__law_row,B__law_row,digit_ok c 1009 14 (by decide) (by decide),B__law_row_2,digit_ok c 1009 3 (by decide) (by decide),eq,e]
end W
namespace W
open PySem L2 L3
theorem cells_ok (ns:List Int) (hl:ns.length <= 63) (c:Int) : ∃ cs:List Int,cs.length <= 200 /\ F__law_cells [.lst (ns.map .int),.int c] = .ok (.val (.lst (cs.map .int)) true [2]) := by
  have hcut:cutA (ns.map D.int) (some 2) (some 102) = (cutA ns (some 2) (some 102)).map D.int := cutA_map D.int ns _ _
  have hcl := cutA_len ns (some 2) (some 102)
  by_cases h3:dg c 1049 8 = 3
  · have b3:(dg c 1049 8 == 3) = true := by rw [h3]; rfl
    have d0 := dg_nn c 1103 61 (by decide)
    have d1 := dg_lt c 1103 61 (by decide)
    obtain ⟨n,hn⟩ : ∃ n:Nat,40 + dg c 1103 61 = n := ⟨(40 + dg c 1103 61).toNat,by omega⟩
    have k1:-4611686018427387904 <= (n:Int) := by omega
    have k2:(n:Int) < 4611686018427387904 := by omega
    obtain ⟨env',lp,cs,e3,rfl,hcs⟩ := forD_at (fun k:Nat => D.int k) (asg := gN 3) (fr := true) (body := L__law_cells_1) (List.range n) (fun pre env => ∃ (cs:List Int) (e3:Option Sl),env = [some (.val (.lst (ns.map .int)) false),some (.val (.int c) false),some (.own (cs.map .int) true),e3] /\ cs.length <= 63 + pre.length) (List.range n) [] [some (.val (.lst (ns.map .int)) false),some (.val (.int c) false),some (.own ((cutA ns (some 2) (some 102)).map .int) true),none] rfl ⟨_,_,rfl,by simp; omega⟩
      (by
        rintro pre post k env ea ⟨cs,e3,rfl,hcs⟩
        have hpl:pre.length + post.length + 1 = n := by have := congrArg List.length ea; simp at this; omega
        have hk:k < n := List.mem_range.mp (by rw [ea]; simp)
        refine ⟨_,[some (.val (.lst (ns.map .int)) false),some (.val (.int c) false),some (.own ((cs ++ [c + 1051 * (k:Int) * k]).map .int) true),some (.val (.int k) true)],rfl,?_,cs ++ [c + 1051 * (k:Int) * k],_,rfl,by simp; omega⟩
        have hlen:(cs.map D.int).length < 1000000 := by rw [List.length_map]; omega
        generalize hz:((k:Nat) : Int) = z
        have k1:-18446744073709551616 < z := by omega
        have k2:z < 18446744073709551616 := by omega
        simp_arith [L__law_cells_1,k1,k2,e_kApp,hlen,List.map_append])
    refine ⟨cs,by simp at hcs; omega,?_⟩
    simp_arith [F__law_cells,B__law_cells,hcut,flats_ints,digit_ok c 1049 8 (by decide) (by decide),e_eq,e_eqI,b3,digit_ok c 1103 61 (by decide) (by decide),hn]
    rw [e_kR1 k1 k2,b_ok,Int.toNat_natCast,numsD_0]
    simp_arith [lp]
  · have b3:(dg c 1049 8 == 3) = false := beq_eq_false_iff_ne.mpr h3
    refine ⟨cutA ns (some 2) (some 102),by omega,?_⟩
    simp_arith [F__law_cells,B__law_cells,hcut,flats_ints,digit_ok c 1049 8 (by decide) (by decide),e_eq,e_eqI,b3]
end W
namespace W
open PySem L2 L3
def dsD (gs:List (List Int)) : List D := gs.map fun g => .lst (g.map .int)
theorem dsD_flat (gs:List (List Int)) : (dsD gs).all lstFlat = true := by
  rw [List.all_eq_true]
  intro d hd
  obtain ⟨g,_,rfl⟩ := List.mem_map.mp hd
  exact flats_ints g
theorem ixN_in {n:Nat} {k:Int} (h0:0 <= k) (h:k < n) : ixN n k = some k.toNat := by unfold ixN; rw [if_pos h0,if_pos h]
section
variable {cs:List Int} {sv ov seed:Int} {names:List Str}
abbrev e0 (cs:List Int) : Option Sl := some (.val (.lst (cs.map .int)) false)
abbrev e1 (sv ov:Int) : Option Sl := some (.val (.lst [.int sv,.int ov]) false)
abbrev e2 (names:List Str) : Option Sl := some (.val (.lst (names.map D.str)) false)
abbrev e3 (seed:Int) : Option Sl := some (.val (.int seed) false)
theorem deal_ok (hn:0 < names.length) (hc:cs.length <= 200) : ∃ (gs:List (List Int)) (x:Option Sl),gs.length = names.length /\ (∀ g ∈ gs,g.length <= 200) /\
    forD (gN 5) false L__law_program_1 (cs.map .int) [e0 cs,e1 sv ov,e2 names,e3 seed,some (.dis (.lst (dsD (names.map fun _ => [])))),none,none,none,none,none,none,none]
      = .ok (.nx [e0 cs,e1 sv ov,e2 names,e3 seed,some (.dis (.lst (dsD gs))),x,none,none,none,none,none,none]) := by
  obtain ⟨env',lp,gs,x,rfl,h1,h2⟩ := forD_at (fun k:Int => D.int k) (asg := gN 5) (fr := false) (body := L__law_program_1) cs (fun pre env => ∃ (gs:List (List Int)) (x:Option Sl),env = [e0 cs,e1 sv ov,e2 names,e3 seed,some (.dis (.lst (dsD gs))),x,none,none,none,none,none,none] /\ gs.length = names.length /\ ∀ g ∈ gs,g.length <= pre.length) cs []
    [e0 cs,e1 sv ov,e2 names,e3 seed,some (.dis (.lst (dsD (names.map fun _ => [])))),none,none,none,none,none,none,none] rfl ⟨_,_,rfl,by simp,fun g hg => by obtain ⟨_,_,rfl⟩ := List.mem_map.mp hg; exact Nat.le_refl _⟩
    (by
      rintro pre post c env ea ⟨gs,x,rfl,h1,h2⟩
      have hpl:pre.length + post.length + 1 = cs.length := by have := congrArg List.length ea; simp at this; omega
      have hn0:(0:Int) < names.length := by omega
      have hlen:((names.map D.str).length:Int) = names.length := by simp
      have d0 := dg_nn c 1051 names.length hn0
      have d1 := dg_lt c 1051 names.length hn0
      have hj:(dg c 1051 names.length).toNat < gs.length := by omega
      have eg:gs[(dg c 1051 names.length).toNat]? = some gs[(dg c 1051 names.length).toNat] := by simp [hj]
      generalize gs[(dg c 1051 names.length).toNat] = g at eg
      have hgl := h2 g (List.mem_of_getElem? eg)
      have ex:ixN (dsD gs).length (dg c 1051 names.length) = some (dg c 1051 names.length).toNat := ixN_in d0 (by unfold dsD; rw [List.length_map]; omega)
      have ed:(dsD gs)[(dg c 1051 names.length).toNat]? = some (.lst (g.map .int)) := by unfold dsD; rw [List.getElem?_map,eg]; rfl
      have es:(dsD gs).set (dg c 1051 names.length).toNat (.lst (g.map .int ++ [.int c])) = dsD (gs.set (dg c 1051 names.length).toNat (g ++ [c])) := by unfold dsD; rw [List.map_set]; simp
      have hgl2:(g.map D.int).length < 1000000 := by rw [List.length_map]; omega
      refine ⟨_,[e0 cs,e1 sv ov,e2 names,e3 seed,some (.dis (.lst (dsD (gs.set (dg c 1051 names.length).toNat (g ++ [c]))))),some (.val (.int c) false),none,none,none,none,none,none],rfl,?_,_,_,rfl,by simp [h1],fun g' hg' => ?_⟩
      · simp_arith [L__law_program_1,hlen,digit_ok c 1051 names.length (by decide) hn0]
        rw [e_kAppDis1 ex ed]
        simp_arith
        rw [e_kAppDis3 (r := .val (.int c) true []) rfl hgl2 (dsD_flat gs)]
        simp_arith [es]
      · rcases List.mem_or_eq_of_mem_set hg' with hg' | rfl
        · have := h2 g' hg'; simp; omega
        · simp; omega)
  exact ⟨gs,x,h1,fun g hg => Nat.le_trans (h2 g hg) hc,lp⟩
end
end W
namespace W
open PySem L2 L3
section
variable {cs:List Int} {sv ov seed:Int} {names:List Str}
theorem rows_loop (hn:0 < names.length) (h1:0 < sv) (h2:0 < ov) {ow:List Int} (hl:ow.length <= 300) (h0:0 < ow.length) {e4 e5 e6 e7 e8 e11:Option Sl} : ∃ (rs:List (List D)) (x y:Option Sl),rs.length = ow.length /\ (∀ r ∈ rs,Row r) /\
    forD (gT 2 (gsCons (gN 11) (gsCons (gN 5) gsNil))) true L__law_program_2 (enumD 0 (ow.map .int)) [e0 cs,e1 sv ov,e2 names,e3 seed,e4,e5,e6,e7,e8,some (.val (.lst (ow.map .int)) true),some (.own [] true),e11]
      = .ok (.nx [e0 cs,e1 sv ov,e2 names,e3 seed,e4,x,e6,e7,e8,some (.val (.lst (ow.map .int)) true),some (.own (rs.map .tup) true),y]) := by
  rw [enumD_map]
  obtain ⟨env', lp, rs, x, y, rfl, r1, r2⟩ := forD_at (fun p : Int × Nat => D.tup [.int (p.2 : Nat), .int p.1]) (asg := gT 2 (gsCons (gN 11) (gsCons (gN 5) gsNil))) (fr := true) (body := L__law_program_2) (ow.zipIdx 0) (fun pre env => ∃ (rs : List (List D)) (x y : Option Sl), env = [e0 cs, e1 sv ov, e2 names, e3 seed, e4, x, e6, e7, e8, some (.val (.lst (ow.map .int)) true), some (.own (rs.map .tup) true), y] /\ rs.length = pre.length /\ ∀ r ∈ rs, Row r) (ow.zipIdx 0) []
    [e0 cs,e1 sv ov,e2 names,e3 seed,e4,e5,e6,e7,e8,some (.val (.lst (ow.map .int)) true),some (.own [] true),e11] rfl ⟨[],_,_,rfl,rfl,fun _ z => by cases z⟩
    (by
      rintro pre post ⟨c,i⟩ env ea ⟨rs,x,y,rfl,r1,r2⟩
      have hpl:pre.length + post.length + 1 = ow.length := by have := congrArg List.length ea; simp at this; omega
      have hm:(0:Int) < ow.length := by omega
      have hlen:(((ow.map D.int).length:Nat) : Int) = ow.length := by simp
      obtain ⟨ds,rw_,er⟩ := row_ok (c := c) (sv := sv) (ov := ov) (many := ow.length) (names := names) (last := ((i:Int) == (ow.length:Int) - 1)) hn h1 h2 hm
      have hfl := rw_.flats
      have hrl:(rs.map D.tup).length < 1000000 := by rw [List.length_map]; omega
      refine ⟨_,[e0 cs,e1 sv ov,e2 names,e3 seed,e4,some (.val (.int c) true),e6,e7,e8,some (.val (.lst (ow.map .int)) true),some (.own ((rs ++ [ds]).map .tup) true),some (.val (.int (i:Nat)) true)],rfl,?_,rs ++ [ds],_,_,rfl,by simp [r1],fun r hr => ?_⟩
      · simp_arith [L__law_program_2,hlen,e_eq,e_eqI,er,e_kApp,hrl,hfl,List.map_append]
      · rcases List.mem_append.mp hr with hr | hr
        · exact r2 r hr
        · have:r = ds := by simpa using hr
          exact this ▸ rw_)
  refine ⟨rs,x,y,by rw [r1]; simp,r2,lp⟩
theorem procs_loop (hn:0 < names.length) (hn4:names.length <= 4) (hns:∀ n ∈ names,n.length <= 20) (h1:0 < sv) (h2:0 < ov) {gs:List (List Int)} (hg:gs.length = names.length) (hgl:∀ g ∈ gs,g.length <= 200) {x:Option Sl} : ∃ (ps:List Pr) (a b c d e f:Option Sl),ps.map (·.1) = names /\ (∀ p ∈ ps,PrOk p) /\
    forD (gT 2 (gsCons (gN 7) (gsCons (gN 8) gsNil))) false L__law_program_3 (enumD 0 (names.map D.str)) [e0 cs,e1 sv ov,e2 names,e3 seed,some (.dis (.lst (dsD gs))),x,some (.own [] true),none,none,none,none,none]
      = .ok (.nx [e0 cs,e1 sv ov,e2 names,e3 seed,some (.dis (.lst (dsD gs))),a,some (.own (ps.map prD) true),b,c,d,e,f]) := by
  rw [enumD_map]
  obtain ⟨env', lp, ps, a, b, c, d, e, f, rfl, r1, r2⟩ := forD_at (fun p : Str × Nat => D.tup [.int (p.2 : Nat), .str p.1]) (asg := gT 2 (gsCons (gN 7) (gsCons (gN 8) gsNil))) (fr := false) (body := L__law_program_3) (names.zipIdx 0) (fun pre env => ∃ (ps : List Pr) (a b c d e f : Option Sl), env = [e0 cs, e1 sv ov, e2 names, e3 seed, some (.dis (.lst (dsD gs))), a, some (.own (ps.map prD) true), b, c, d, e, f] /\ ps.map (·.1) = pre.map (·.1) /\ ∀ p ∈ ps, PrOk p) (names.zipIdx 0) []
    [e0 cs,e1 sv ov,e2 names,e3 seed,some (.dis (.lst (dsD gs))),x,some (.own [] true),none,none,none,none,none] rfl ⟨[],_,_,_,_,_,_,rfl,rfl,fun _ z => by cases z⟩
    (by
      rintro pre post ⟨n,k⟩ env ea ⟨ps,a,b,c,d,e,f,rfl,r1,r2⟩
      have hmem:(n,k) ∈ names.zipIdx 0 := by rw [ea]; simp
      have hkn:names[k]? = some n := by have := List.mem_zipIdx_iff_getElem?.mp hmem; simpa using this
      have hk := (List.getElem?_eq_some_iff.mp hkn).1
      have hkg:k < gs.length := by omega
      have eg:gs[k]? = some gs[k] := by simp [hkg]
      generalize gs[k] = g at eg
      have hgl' := hgl g (List.mem_of_getElem? eg)
      have ed:atI (dsD gs) (k:Int) = some (.lst (g.map .int)) := by
        unfold atI dsD
        rw [ixN_in (by omega) (by rw [List.length_map]; omega)]
        simp [eg]
      generalize hz:((k:Nat) : Int) = z at ed
      have k1:-18446744073709551616 < z := by omega
      have k2:z < 18446744073709551616 := by omega
      obtain ⟨rs,x',y',q1,q2,lp2⟩ := rows_loop (cs := cs) (seed := seed) hn h1 h2 (ow := g ++ [seed + 7 * z * z]) (by simp; omega) (by simp) (e4 := some (.dis (.lst (dsD gs)))) (e5 := a) (e6 := some (.own (ps.map prD) true)) (e7 := some (.val (.int z) false)) (e8 := some (.val (.str n) false)) (e11 := f)
      have q1':rs.length = g.length + 1 := by rw [q1]; simp
      have hpl:pre.length + post.length + 1 = names.length := by have := congrArg List.length ea; simp at this; omega
      have hpsl:ps.length = pre.length := by have := congrArg List.length r1; simpa using this
      have hplen:(ps.map prD).length < 1000000 := by rw [List.length_map]; omega
      have eo:g.map D.int ++ [D.int (seed + 7 * z * z)] = (g ++ [seed + 7 * z * z]).map D.int := by simp
      refine ⟨_,[e0 cs,e1 sv ov,e2 names,e3 seed,some (.dis (.lst (dsD gs))),x',some (.own ((ps ++ [(n,rs)]).map prD) true),some (.val (.int z) false),some (.val (.str n) false),some (.val (.lst ((g ++ [seed + 7 * z * z]).map .int)) true),some (.val (.lst (rs.map .tup)) true),y'],rfl,?_,ps ++ [(n,rs)],_,_,_,_,_,_,rfl,by simp [r1],fun p hp => ?_⟩
      · have hal:(g.map D.int).length + [D.int (seed + 7 * z * z)].length <= 1000000 := by simp; omega
        simp_arith [L__law_program_3,k1,k2,ed,flats_ints]
        rw [e_addL hal,eo,e_mkLt (flats_ints _)]
        simp_arith
        rw [show frz [e0 cs,e1 sv ov,e2 names,e3 seed,some (.dis (.lst (dsD gs))),a,some (.own (ps.map prD) true),some (.val (.int z) false),some (.val (.str n) false),some (.own ((g ++ [seed + 7 * z * z]).map .int) true),some (.own [] true),f] [9] = [e0 cs,e1 sv ov,e2 names,e3 seed,some (.dis (.lst (dsD gs))),a,some (.own (ps.map prD) true),some (.val (.int z) false),some (.val (.str n) false),some (.val (.lst ((g ++ [seed + 7 * z * z]).map .int)) true),some (.own [] true),f] from rfl,lp2]
        simp_arith [e_kApp,hplen,List.map_append]
        exact if_pos ⟨hplen,by simp⟩
      · rcases List.mem_append.mp hp with hp | hp
        · exact r2 p hp
        · have:p = (n,rs) := by simpa using hp
          subst this
          exact ⟨hns n (List.mem_of_getElem? hkn),by show 0 < rs.length; omega,by show rs.length <= 400; omega,q2⟩)
  refine ⟨ps,a,b,c,d,e,f,by rw [r1]; simp,r2,lp⟩
theorem program_ok (hn:0 < names.length) (hn4:names.length <= 4) (hns:∀ n ∈ names,n.length <= 20) (h1:0 < sv) (h2:0 < ov) (hc:cs.length <= 200) : ∃ ps:List Pr,ps.map (·.1) = names /\ (∀ p ∈ ps,PrOk p) /\
    F__law_program [.lst (cs.map .int),.lst [.int sv,.int ov],.lst (names.map D.str),.int seed] = .ok (.val (pgD sv ov ps) true [6]) := by
  obtain ⟨gs,x,g1,g2,lp1⟩ := deal_ok (cs := cs) (sv := sv) (ov := ov) (seed := seed) hn hc
  obtain ⟨ps,a,b,c,d,e,f,r1,r2,lp2⟩ := procs_loop (cs := cs) (seed := seed) (x := x) hn hn4 hns h1 h2 g1 g2
  refine ⟨ps,r1,r2,?_⟩
  have ed:(names.map D.str).map (fun _ => D.lst []) = dsD (names.map fun _ => []) := by unfold dsD; simp
  have hl:(names.map D.str).length <= 1000000 := by rw [List.length_map]; omega
  have i0:atI [D.int sv,D.int ov] 0 = some (.int sv) := rfl
  have i1:atI [D.int sv,D.int ov] 1 = some (.int ov) := rfl
  simp_arith [F__law_program,B__law_program,hl,ed]
  simp only [e0,e1,e2,e3] at lp1 lp2
  simp_arith [lp1]
  simp_arith [lp2]
  rfl
end
end W
namespace W
open PySem L2 L3
def lets : List Nat := ("bcdefghjklopqrstuvwxyz" : Str).cps.toList
def mainL : List Nat := ("main" : Str).cps.toList
theorem lets_len:lets.length = 22 := by decide
theorem lets_nodup:lets.Nodup := by decide
theorem lets_main:∀ x ∈ lets,x ∉ mainL := by decide
theorem idx_ne (c st:Int) (i j:Nat) (hi:i < 3) (hj:j < 3) (hij:i ≠ j) (h1:1 <= st) (h2:st <= 7) : (c + i * st) % 22 ≠ (c + j * st) % 22 := by
  have hi:i = 0 \/ i = 1 \/ i = 2 := by omega
  have hj:j = 0 \/ j = 1 \/ j = 2 := by omega
  rcases hi with rfl | rfl | rfl <;> rcases hj with rfl | rfl | rfl <;> first | exact (hij rfl).elim | (simp; omega)
def sgn (c:Int) (k:Nat) : Nat := lets.getD ((c + k * (1 + c / 22 % 7)) % 22).toNat 0
theorem sgn_mem (c:Int) (k:Nat) : sgn c k ∈ lets := by
  unfold sgn
  have h:((c + k * (1 + c / 22 % 7)) % 22).toNat < lets.length := by rw [lets_len]; omega
  rw [List.getD_eq_getElem?_getD,List.getElem?_eq_getElem h]
  exact List.getElem_mem h
theorem sgn_ne (c:Int) (i j:Nat) (hi:i < 3) (hj:j < 3) (hij:i ≠ j) : sgn c i ≠ sgn c j := by
  intro e
  have h := idx_ne c (1 + c / 22 % 7) i j hi hj hij (by omega) (by omega)
  unfold sgn at e
  have h1:((c + i * (1 + c / 22 % 7)) % 22).toNat < lets.length := by rw [lets_len]; omega
  have h2:((c + j * (1 + c / 22 % 7)) % 22).toNat < lets.length := by rw [lets_len]; omega
  rw [List.getD_eq_getElem?_getD,List.getElem?_eq_getElem h1,List.getD_eq_getElem?_getD,List.getElem?_eq_getElem h2] at e
  have := (List.getElem?_inj (i := ((c + i * (1 + c / 22 % 7)) % 22).toNat) (j := ((c + j * (1 + c / 22 % 7)) % 22).toNat) h1 lets_nodup).mp (by rw [List.getElem?_eq_getElem h1,List.getElem?_eq_getElem h2]; exact congrArg some e)
  generalize (c + i * (1 + c / 22 % 7)) = x at *
  generalize (c + j * (1 + c / 22 % 7)) = y at *
  omega
def nml (lot:Int) (bl:List Nat) (sp:Nat) (c:Int) (k:Nat) : List Nat := if lot = 3 then mainL.take (1 + k) else if lot = 2 then mainL ++ [sgn c k] else bl.take sp ++ [sgn c k] ++ bl.drop (sp + 1)
theorem nml_at {bl:List Nat} {sp:Nat} {x:Nat} (h:sp < bl.length) : (bl.take sp ++ [x] ++ bl.drop (sp + 1))[sp]? = some x := by
  have hl:(bl.take sp).length = sp := by rw [List.length_take]; omega
  rw [List.append_assoc,List.getElem?_append_right (by omega),hl]
  simp
theorem nml_main (lot:Int) (bl:List Nat) (sp:Nat) (c:Int) (k:Nat) (h:sp < bl.length) (hk:k < 3) : nml lot bl sp c k ≠ mainL := by
  unfold nml
  have h4:mainL.length = 4 := by decide
  split
  · intro e; have := congrArg List.length e; rw [List.length_take] at this; omega
  · split
    · intro e; have := congrArg List.length e; simp at this
    · intro e
      have := nml_at (x := sgn c k) h
      rw [e] at this
      exact lets_main _ (sgn_mem c k) (List.mem_of_getElem? this)
theorem nml_ne (lot:Int) (bl:List Nat) (sp:Nat) (c:Int) (i j:Nat) (h:sp < bl.length) (hi:i < 3) (hj:j < 3) (hij:i ≠ j) : nml lot bl sp c i ≠ nml lot bl sp c j := by
  unfold nml
  have h4:mainL.length = 4 := by decide
  have hs := sgn_ne c i j hi hj hij
  split
  · intro e; have := congrArg List.length e; rw [List.length_take,List.length_take] at this; omega
  · split
    · intro e; exact hs (by simpa using e)
    · intro e
      have e1 := nml_at (x := sgn c i) h
      have e2 := nml_at (x := sgn c j) h
      rw [e,e2] at e1
      exact hs (Option.some.inj e1).symm
end W
namespace W
open PySem L2 L3
abbrev T (l:List Nat) : Str := ⟨l.toArray⟩
theorem T_len (l:List Nat) : (T l).length = l.length := by show l.toArray.size = _; simp
theorem T_cat (a b:List Nat) : T a ++ T b = T (a ++ b) := by
  show (⟨a.toArray ++ b.toArray⟩ : Str) = ⟨(a ++ b).toArray⟩
  simp
theorem T_of (s:Str) : s = T s.cps.toList := by cases s; rfl
theorem T_inj {a b:List Nat} (h:T a = T b) : a = b := by
  have h2:(T a).cps.toList = (T b).cps.toList := by rw [h]
  exact h2
theorem e_addS {x y:Str} {f g:Bool} {al bl:List Nat} (h:x.length + y.length <= 1000000) : oAdd (.val (.str x) f al) (.val (.str y) g bl) = .ok (.val (.str (x ++ y)) true []) := if_pos h
theorem e_addT {a b:List Nat} {f g:Bool} {al bl:List Nat} (h:a.length + b.length <= 1000000) : oAdd (.val (.str (T a)) f al) (.val (.str (T b)) g bl) = .ok (.val (.str (T (a ++ b))) true []) := by
  rw [e_addS (by rw [T_len,T_len]; exact h),T_cat]
theorem e_ixS {z:Str} {k:Int} {f:Bool} {al:List Nat} {c:Nat} (h:z.length <= 1000000) (h2:atI z.cps.toList k = some c) : ixDD (.str z) (.int k) f al = .ok (.val (.str (T [c])) true []) := by
  show (if z.length <= lim then (match atI z.cps.toList k with
    | some c => (Res.ok (.val (.str ⟨#[c]⟩) true []) : Res R)
    | none => .stuck) else .stuck) = _
  rw [if_pos (show z.length <= lim from h),h2]
theorem sl_to (bl:List Nat) (k:Nat) (h:k <= bl.length) : Txt.slice (T bl) none (some (k:Int)) = T (bl.take k) := by
  have := StrLaws.sliceText_to (x := T bl) (j := (k:Int)) ⟨by omega,by show (k:Int) <= bl.toArray.toList.length; simp; omega⟩
  refine (Eq.trans ?_ this).trans ?_
  · rfl
  · show (⟨((bl.toArray.toList.drop 0).take ((k:Int) - 0).toNat).toArray⟩ : Str) = _
    simp
theorem sl_from (bl:List Nat) (k:Nat) (h:k <= bl.length) : Txt.slice (T bl) (some (k:Int)) none = T (bl.drop k) := by
  have := StrLaws.sliceText_from (x := T bl) (i := (k:Int)) ⟨by omega,by show (k:Int) <= bl.toArray.toList.length; simp; omega⟩
  refine (Eq.trans ?_ this).trans ?_
  · rfl
  · show (⟨((bl.toArray.toList.drop (k:Int).toNat).take ((bl.toArray.toList.length:Int) - k).toNat).toArray⟩ : Str) = _
    have e:((bl.length:Int) - k).toNat = (bl.drop k).length := by rw [List.length_drop]; omega
    rw [show (bl.toArray.toList.length:Int) = bl.length by simp,show ((k:Int).toNat) = k by omega,e,List.toList_toArray,List.take_length]
theorem cut_takeD (ns:List D) (k:Nat) : cutA ns none (some ((k:Nat) : Int)) = ns.take k := by
  unfold cutA
  have h1:HT.sIx ns.length ns.length (some ((k:Nat) : Int)) = min k ns.length := HT.sIx_nat ns.length ns.length k
  have h2:HT.sIx ns.length 0 none = 0 := rfl
  rw [h1,h2,List.drop_zero,Nat.sub_zero,List.take_eq_take_iff]; omega
theorem cut_dropD (ns:List D) (k:Nat) : cutA ns (some ((k:Nat) : Int)) none = ns.drop k := by
  unfold cutA
  have h1:HT.sIx ns.length 0 (some ((k:Nat) : Int)) = min k ns.length := HT.sIx_nat ns.length 0 k
  have h2:HT.sIx ns.length ns.length none = ns.length := rfl
  rw [h1,h2]
  by_cases h:k <= ns.length
  · rw [Nat.min_eq_left h,List.take_of_length_le (by rw [List.length_drop]; omega)]
  · rw [Nat.min_eq_right (by omega),List.drop_of_length_le (Nat.le_refl _),List.drop_of_length_le (by omega),List.take_nil]
def abc : List Nat := ("abcdefghijklmnopqrstuvwxyz" : Str).cps.toList
theorem abc_at {k : Int} (h0 : 0 <= k) (h : k < 26) : ∃ a, atI ("abcdefghijklmnopqrstuvwxyz" : Str).cps.toList k = some a := by
  have hl:abc.length = 26 := by decide
  obtain ⟨a,ea,_⟩ := atI_in (xs := abc) h0 (by omega)
  exact ⟨a,ea⟩
theorem abc_len : ("abcdefghijklmnopqrstuvwxyz" : Str).length <= 1000000 := by decide
theorem lets_len' : ("bcdefghjklopqrstuvwxyz" : Str).length <= 1000000 := by decide
theorem lets_at (c : Int) (k : Nat) : atI ("bcdefghjklopqrstuvwxyz" : Str).cps.toList ((c + k * (1 + c / 22 % 7)) % 22) = some (sgn c k) := by
  have h:((c + k * (1 + c / 22 % 7)) % 22).toNat < lets.length := by rw [lets_len]; omega
  obtain ⟨a,ea,eb⟩ := atI_in (xs := lets) (k := (c + k * (1 + c / 22 % 7)) % 22) (by omega) (by rw [lets_len]; omega)
  unfold sgn
  rw [List.getD_eq_getElem?_getD,eb]
  exact ea
theorem main_T : ("main" : Str) = T mainL := T_of _
theorem base_loop (c sz:Int) {n:Nat} (hn:n <= 8) {e1 e4:Option Sl} : ∃ (bl:List Nat) (x:Option Sl),bl.length = n /\
    forD (gN 4) true L__law_names_1 ((List.range n).map fun k => D.int (k : Nat)) [some (.val (.int c) false), e1, some (.val (.int sz) true), some (.val (.str "") true), e4, none, none, none, none, none]
      = .ok (.nx [some (.val (.int c) false),e1,some (.val (.int sz) true),some (.val (.str (T bl)) true),x,none,none,none,none,none]) := by
  obtain ⟨env',lp,bl,x,rfl,hb⟩ := forD_at (fun k:Nat => D.int k) (asg := gN 4) (fr := true) (body := L__law_names_1) (List.range n) (fun pre env => ∃ (bl:List Nat) (x:Option Sl),env = [some (.val (.int c) false),e1,some (.val (.int sz) true),some (.val (.str (T bl)) true),x,none,none,none,none,none] /\ bl.length = pre.length) (List.range n) []
    [some (.val (.int c) false), e1, some (.val (.int sz) true), some (.val (.str "") true), e4, none, none, none, none, none] rfl ⟨[], _, by rw [T_of ""]; rfl, rfl⟩
    (by
      rintro pre post k env ea ⟨bl,x,rfl,hb⟩
      have hl:pre.length + post.length + 1 = n := by have := congrArg List.length ea; simp at this; omega
      have hk:k < n := by
        have:k ∈ List.range n := by rw [ea]; simp
        exact List.mem_range.mp this
      generalize hz:((k:Nat) : Int) = z
      have k1:-18446744073709551616 < z := by omega
      have k2:z < 18446744073709551616 := by omega
      obtain ⟨a,ha⟩ := abc_at (dg_nn (c + 5 * z * z) 1093 26 (by decide)) (dg_lt (c + 5 * z * z) 1093 26 (by decide))
      have hlen:bl.length + [a].length <= 1000000 := by simp; omega
      refine ⟨[some (.val (.int c) false),e1,some (.val (.int sz) true),some (.val (.str (T bl)) true),some (.val (.int z) true),none,none,none,none,none],[some (.val (.int c) false),e1,some (.val (.int sz) true),some (.val (.str (T (bl ++ [a]))) true),some (.val (.int z) true),none,none,none,none,none],rfl,?_,bl ++ [a],_,rfl,by simp [hb]⟩
      simp_arith [L__law_names_1,k1,k2,digit_ok (c + 5 * z * z) 1093 26 (by decide) (by decide),e_ixS abc_len ha,e_addT hlen])
  exact ⟨bl,x,by rw [hb]; simp,lp⟩
theorem two_loop (c sz lot:Int) {bl:List Nat} {sp m:Nat} (hs:sp < bl.length) (hb:bl.length <= 8) (hm:m <= 3) {e4:Option Sl} : ∃ (x y z:Option Sl),
    forD (gN 4) true L__law_names_2 ((List.range m).map fun k => D.int (k:Nat)) [some (.val (.int c) false),some (.own [] true),some (.val (.int sz) true),some (.val (.str (T bl)) true),e4,some (.val (.int (sp:Nat)) true),some (.val (.int lot) true),none,none,none]
      = .ok (.nx [some (.val (.int c) false),some (.own ((List.range m).map fun k => D.str (T (nml lot bl sp c k))) true),some (.val (.int sz) true),some (.val (.str (T bl)) true),x,some (.val (.int (sp:Nat)) true),some (.val (.int lot) true),y,z,none]) := by
  obtain ⟨env', lp, x, y, z, rfl⟩ := forD_at (fun k : Nat => D.int k) (asg := gN 4) (fr := true) (body := L__law_names_2) (List.range m) (fun pre env => ∃ (x y z : Option Sl), env = [some (.val (.int c) false), some (.own (pre.map fun k => D.str (T (nml lot bl sp c k))) true), some (.val (.int sz) true), some (.val (.str (T bl)) true), x, some (.val (.int (sp : Nat)) true), some (.val (.int lot) true), y, z, none]) (List.range m) []
    [some (.val (.int c) false),some (.own [] true),some (.val (.int sz) true),some (.val (.str (T bl)) true),e4,some (.val (.int (sp:Nat)) true),some (.val (.int lot) true),none,none,none] rfl ⟨_,_,_,rfl⟩
    (by
      rintro pre post k env ea ⟨x,y,z,rfl⟩
      have hl:pre.length + post.length + 1 = m := by have := congrArg List.length ea; simp at this; omega
      have hk:k < m := by
        have:k ∈ List.range m := by rw [ea]; simp
        exact List.mem_range.mp this
      have k1:-18446744073709551616 < (1 + c / 22 % 7) := by omega
      have k2:(1 + c / 22 % 7) < 18446744073709551616 := by omega
      have hT:(T bl).length <= 1000000 := by rw [T_len]; omega
      have hM : ("main" : Str).length <= 1000000 := by decide
      have a1:(bl.take sp).length + [sgn c k].length <= 1000000 := by simp; omega
      have a2:(bl.take sp ++ [sgn c k]).length + (bl.drop (sp + 1)).length <= 1000000 := by simp; omega
      have a3:mainL.length + [sgn c k].length <= 1000000 := by
        have:mainL.length = 4 := by decide
        simp; omega
      have s1 := sl_to bl sp (by omega)
      have s2:Txt.slice (T bl) (some ((sp:Int) + 1)) none = T (bl.drop (sp + 1)) := sl_from bl (sp + 1) (by omega)
      have s3 : Txt.slice ("main" : Str) none (some (1 + (k : Int))) = T (mainL.take (1 + k)) := by
        have h4:mainL.length = 4 := by decide
        rw [main_T,show (1 + (k:Int)) = ((1 + k:Nat) : Int) by omega]; exact sl_to mainL (1 + k) (by omega)
      have hp:(pre.map fun k => D.str (T (nml lot bl sp c k))).length < 1000000 := by rw [List.length_map]; omega
      refine ⟨[some (.val (.int c) false),some (.own (pre.map fun k => D.str (T (nml lot bl sp c k))) true),some (.val (.int sz) true),some (.val (.str (T bl)) true),some (.val (.int (k:Nat)) true),some (.val (.int (sp:Nat)) true),some (.val (.int lot) true),y,z,none],[some (.val (.int c) false),some (.own ((pre ++ [k]).map fun k => D.str (T (nml lot bl sp c k))) true),some (.val (.int sz) true),some (.val (.str (T bl)) true),some (.val (.int (k:Nat)) true),some (.val (.int (sp:Nat)) true),some (.val (.int lot) true),some (.val (.str (T [sgn c k])) true),some (.val (.str (T (nml lot bl sp c k))) true),none],rfl,?_,_,_,_,rfl⟩
      by_cases h3:lot = 3
      · subst h3
        have en:nml 3 bl sp c k = mainL.take (1 + k) := if_pos rfl
        simp_arith [L__law_names_2,k1,k2,e_ixS lets_len' (lets_at c k),hT,hM,s1,s2,s3,e_addT a1,e_addT a2,e_eq,e_eqI,hp,e_kApp,List.map_append,en]
      · by_cases h2 : lot = 2
        · subst h2
          have en:nml 2 bl sp c k = mainL ++ [sgn c k] := rfl
          simp_arith [L__law_names_2,k1,k2,e_ixS lets_len' (lets_at c k),hT,hM,s1,s2,s3,main_T,e_addT a1,e_addT a2,e_addT a3,e_eq,e_eqI,hp,e_kApp,List.map_append,en]
        · have b2:(lot == 2) = false := by simpa using h2
          have b3:(lot == 3) = false := by simpa using h3
          have en:nml lot bl sp c k = bl.take sp ++ [sgn c k] ++ bl.drop (sp + 1) := by unfold nml; rw [if_neg h3,if_neg h2]
          simp_arith [L__law_names_2,k1,k2,e_ixS lets_len' (lets_at c k),hT,hM,s1,s2,s3,e_addT a1,e_addT a2,e_eq,e_eqI,b2,b3,hp,e_kApp,List.map_append,en])
  exact ⟨x,y,z,lp⟩
theorem names_ok (c:Int) : ∃ names:List Str,0 < names.length /\ names.length <= 4 /\ names.Nodup /\ (∀ n ∈ names,n.length <= 20) /\ F__law_names [.int c] = .ok (.new (names.map D.str) true) := by
  have s0 := dg_nn c 1063 8 (by decide)
  have s1 := dg_lt c 1063 8 (by decide)
  obtain ⟨n,hn⟩ : ∃ n:Nat,1 + dg c 1063 8 = n := ⟨(1 + dg c 1063 8).toNat,by omega⟩
  have hn0:(0:Int) < n := by omega
  obtain ⟨bl,x4,hbl,lp1⟩ := base_loop c n (n := n) (by omega) (e1 := some (.own [] true)) (e4 := none)
  have p0 := dg_nn c 1069 n hn0
  have p1 := dg_lt c 1069 n hn0
  obtain ⟨sp,hsp⟩ : ∃ sp:Nat,dg c 1069 n = sp := ⟨(dg c 1069 n).toNat,by omega⟩
  have m0 := dg_nn c 1061 4 (by decide)
  have m1 := dg_lt c 1061 4 (by decide)
  obtain ⟨m,hm⟩ : ∃ m:Nat,dg c 1061 4 = m := ⟨(dg c 1061 4).toNat,by omega⟩
  obtain ⟨y4,y7,y8,lp2⟩ := two_loop c n (dg c 1087 4) (bl := bl) (sp := sp) (m := m) (by omega) (by omega) (by omega) (e4 := x4)
  generalize hlot:dg c 1087 4 = lot at lp2
  generalize hoth:((List.range m).map fun k => T (nml lot bl sp c k)) = oth at *
  have hod:((List.range m).map fun k => D.str (T (nml lot bl sp c k))) = oth.map D.str := by rw [<- hoth,List.map_map]; rfl
  have hol:oth.length = m := by rw [<- hoth]; simp
  rw [hod] at lp2
  have hk0:(0:Int) < (m:Int) + 1 := by omega
  have q0 := dg_nn c 1091 ((m:Int) + 1) hk0
  have q1 := dg_lt c 1091 ((m:Int) + 1) hk0
  obtain ⟨k,hk⟩ : ∃ k:Nat,dg c 1091 ((m:Int) + 1) = k := ⟨(dg c 1091 ((m:Int) + 1)).toNat,by omega⟩
  have ond:oth.Nodup := by
    rw [<- hoth]
    rw [List.Nodup,List.pairwise_map]
    refine List.Pairwise.imp_of_mem (R := (· ≠ ·)) (fun {i j} hi hj hij e => ?_) (List.nodup_range (n := m))
    have hi := List.mem_range.mp hi
    have hj := List.mem_range.mp hj
    exact nml_ne lot bl sp c i j (by omega) (by omega) (by omega) hij (T_inj e)
  have omn : ("main" : Str) ∉ oth := by
    rw [<- hoth]
    intro h
    obtain ⟨i,hi,e⟩ := List.mem_map.mp h
    have hi := List.mem_range.mp hi
    rw [main_T] at e
    exact nml_main lot bl sp c i (by omega) (by omega) (T_inj e)
  have ol:∀ x ∈ oth,x.length <= 20 := by
    rw [<- hoth]
    intro x hx
    obtain ⟨i,hi,rfl⟩ := List.mem_map.mp hx
    have h4:mainL.length = 4 := by decide
    rw [T_len]
    unfold nml
    split
    · rw [List.length_take]; omega
    · split
      · rw [List.length_append,h4]; simp
      · simp; omega
  refine ⟨oth.take k ++ ("main" : Str) :: oth.drop k, by simp; omega, by simp; omega, ?_, ?_, ?_⟩
  · have : (oth.take k ++ ("main" : Str) :: oth.drop k).Perm (("main" : Str) :: oth) := by
      refine List.perm_middle.trans ?_
      rw [List.take_append_drop]
    exact this.nodup_iff.mpr (List.nodup_cons.mpr ⟨omn,ond⟩)
  · intro x hx
    rcases List.mem_append.mp hx with h | h
    · exact ol x (List.mem_of_mem_take h)
    · rcases List.mem_cons.mp h with rfl | h
      · decide
      · exact ol x (List.mem_of_mem_drop h)
  · have k1:-4611686018427387904 <= (n:Int) := by omega
    have k2:(n:Int) < 4611686018427387904 := by omega
    have k3:-4611686018427387904 <= (m:Int) := by omega
    have k4:(m:Int) < 4611686018427387904 := by omega
    have hlm:(((oth.map D.str).length:Nat) : Int) = m := by simp [hol]
    simp_arith [F__law_names,B__law_names,digit_ok c 1063 8 (by decide) (by decide),hn]
    rw [e_kR1 k1 k2,b_ok,Int.toNat_natCast,numsD_0]
    simp_arith [lp1,digit_ok c 1069 n (by decide) hn0,digit_ok c 1087 4 (by decide) (by decide),digit_ok c 1061 4 (by decide) (by decide),hsp,hlot,hm]
    rw [e_kR1 k3 k4,b_ok,Int.toNat_natCast,numsD_0]
    have fl1:D.flats ((oth.map D.str).take k) = true := flats_of fun d hd => by obtain ⟨a,_,rfl⟩ := List.mem_map.mp (List.mem_of_mem_take hd); rfl
    have fl2:D.flats ((oth.map D.str).drop k) = true := flats_of fun d hd => by obtain ⟨a,_,rfl⟩ := List.mem_map.mp (List.mem_of_mem_drop hd); rfl
    have fl3 : D.flats ((oth.map D.str).take k ++ [D.str "main"]) = true := flats_of fun d hd => by
      rcases List.mem_append.mp hd with h | h
      · obtain ⟨a,_,rfl⟩ := List.mem_map.mp (List.mem_of_mem_take h); rfl
      · rw [List.mem_singleton.mp h]; rfl
    have fl4 : D.flats ((oth.map D.str).take k ++ [D.str "main"] ++ (oth.map D.str).drop k) = true := flats_of fun d hd => by
      rcases List.mem_append.mp hd with h | h
      · rcases List.mem_append.mp h with h | h
        · obtain ⟨a,_,rfl⟩ := List.mem_map.mp (List.mem_of_mem_take h); rfl
        · rw [List.mem_singleton.mp h]; rfl
      · obtain ⟨a,_,rfl⟩ := List.mem_map.mp (List.mem_of_mem_drop h); rfl
    have ln1 : ((oth.map D.str).take k).length + [D.str "main"].length <= 1000000 := by simp; omega
    have ln2 : ((oth.map D.str).take k ++ [D.str "main"]).length + ((oth.map D.str).drop k).length <= 1000000 := by simp; omega
    simp_arith [lp2,hlm,digit_ok c 1091 ((m:Int) + 1) (by decide) hk0,hk,cut_takeD,cut_dropD,e_mkLt fl1,e_mkLt fl2,e_addL ln1,e_mkLt fl3,e_addL ln2,e_mkLt fl4]
    simp
end W
namespace W
open PySem L2 L3
section
variable {P:Option Sl} {n:Str} {r f:Int} {p:Pr}
theorem pt_next (hne:p.1 ≠ n) (hp:PrOk p) : L_point_of_1 [P,some (.val (.str n) false),some (.val (.int r) false),some (.val (.int f) true),some (.val (.str p.1) false),some (.val (.lst (p.2.map .tup)) false)] = .ok (.nx [P,some (.val (.str n) false),some (.val (.int r) false),some (.val (.int (f + p.2.length)) true),some (.val (.str p.1) false),some (.val (.lst (p.2.map .tup)) false)]) := by
  have b:eqD (.str p.1) (.str n) = false := by show (p.1 == n) = false; simpa using hne
  have hl:(((p.2.map D.tup).length:Nat) : Int) = p.2.length := by simp
  simp_arith [L_point_of_1,e_eq,b,hl]
theorem pt_row (hr : r < 0 \/ (p.2.length : Int) <= r) : L_point_of_1 [P, some (.val (.str p.1) false), some (.val (.int r) false), some (.val (.int f) true), some (.val (.str p.1) false), some (.val (.lst (p.2.map .tup)) false)] = .exc "NoRow" := by
  have hl:(((p.2.map D.tup).length:Nat) : Int) = p.2.length := by simp
  by_cases h0:r < 0
  · have d:decide (r < 0) = true := decide_eq_true h0
    simp_arith [L_point_of_1,e_eq,eqD_refl,d]
  · have d:decide (r < 0) = false := decide_eq_false h0
    have d2:decide ((p.2.length:Int) <= r) = true := decide_eq_true (by omega)
    simp_arith [L_point_of_1,e_eq,eqD_refl,d,hl,d2]
theorem pt_at (h0:0 <= r) (h1:r < p.2.length) : L_point_of_1 [P,some (.val (.str p.1) false),some (.val (.int r) false),some (.val (.int f) true),some (.val (.str p.1) false),some (.val (.lst (p.2.map .tup)) false)] = .ok (.rt (.val (.int (f + r)) true [])) := by
  have hl:(((p.2.map D.tup).length:Nat) : Int) = p.2.length := by simp
  have d:decide (r < 0) = false := decide_eq_false (by omega)
  have d2:decide ((p.2.length:Int) <= r) = false := decide_eq_false (by omega)
  simp_arith [L_point_of_1,e_eq,eqD_refl,d,hl,d2]
abbrev asgP:D -> Bool -> En -> Option En := gT 2 (gsCons (gN 4) (gsCons (gN 5) gsNil))
theorem pt_step {q:Pr} {e4 e5:Option Sl} : asgP (prD q) false [P,some (.val (.str n) false),some (.val (.int r) false),some (.val (.int f) true),e4,e5] = some [P,some (.val (.str n) false),some (.val (.int r) false),some (.val (.int f) true),some (.val (.str q.1) false),some (.val (.lst (q.2.map .tup)) false)] := rfl
end
theorem pt_miss {P:Option Sl} {n:Str} {r:Int} : ∀ (qs:List Pr) (f:Int) (e4 e5:Option Sl),(∀ q ∈ qs,PrOk q) -> n ∉ qs.map (·.1) -> ∃ (f':Int) (x y:Option Sl),forD asgP false L_point_of_1 (qs.map prD) [P,some (.val (.str n) false),some (.val (.int r) false),some (.val (.int f) true),e4,e5] = .ok (.nx [P,some (.val (.str n) false),some (.val (.int r) false),some (.val (.int f') true),x,y])
  | [],f,e4,e5,_,_ => ⟨f,e4,e5,rfl⟩
  | q :: qs,f,e4,e5,h,hn => by
    rw [List.map_cons,List.mem_cons,not_or] at hn
    obtain ⟨f',x,y,ih⟩ := pt_miss qs (f + q.2.length) _ _ (fun a ha => h a (by simp [ha])) hn.2
    refine ⟨f',x,y,?_⟩
    rw [List.map_cons]
    unfold forD
    rw [pt_step]; dsimp only
    rw [pt_next (Ne.symm hn.1) (h q (by simp))]
    exact ih
theorem pt_hit {P:Option Sl} {r:Int} : ∀ (qs:List Pr) (f:Int) (e4 e5:Option Sl) (k:Nat) (p:Pr),(∀ q ∈ qs,PrOk q) -> (qs.map (·.1)).Nodup -> qs[k]? = some p ->
    ((r < 0 \/ (p.2.length : Int) <= r) -> forD asgP false L_point_of_1 (qs.map prD) [P, some (.val (.str p.1) false), some (.val (.int r) false), some (.val (.int f) true), e4, e5] = .exc "NoRow") /\
    (0 <= r -> r < p.2.length -> forD asgP false L_point_of_1 (qs.map prD) [P,some (.val (.str p.1) false),some (.val (.int r) false),some (.val (.int f) true),e4,e5] = .ok (.rt (.val (.int (f + bef qs k + r)) true [])))
  | [],f,e4,e5,k,p,_,_,e => by simp at e
  | q :: qs,f,e4,e5,0,p,h,nd,e => by
    have:q = p := by simpa using e
    subst this
    refine ⟨fun hr => ?_,fun h0 h1 => ?_⟩
    · rw [List.map_cons]; unfold forD
      rw [pt_step]; dsimp only
      rw [pt_row hr]; rfl
    · rw [List.map_cons]; unfold forD
      rw [pt_step]; dsimp only
      rw [pt_at h0 h1]
      have:bef (q :: qs) 0 = 0 := rfl
      rw [this,Int.add_zero]; rfl
  | q :: qs,f,e4,e5,k + 1,p,h,nd,e => by
    rw [List.map_cons,List.nodup_cons] at nd
    have e':qs[k]? = some p := by simpa using e
    have hm:p.1 ∈ qs.map (·.1) := List.mem_map_of_mem (List.mem_of_getElem? e')
    have hne:q.1 ≠ p.1 := fun z => nd.1 (z ▸ hm)
    obtain ⟨i1,i2⟩ := pt_hit (P := P) (r := r) qs (f + q.2.length) (some (.val (.str q.1) false)) (some (.val (.lst (q.2.map .tup)) false)) k p (fun a ha => h a (by simp [ha])) nd.2 e'
    have hb:bef (q :: qs) (k + 1) = q.2.length + bef qs k := by unfold bef; simp
    refine ⟨fun hr => ?_,fun h0 h1 => ?_⟩
    · rw [List.map_cons]; unfold forD
      rw [pt_step]; dsimp only
      rw [pt_next hne (h q (by simp))]
      exact i1 hr
    · rw [List.map_cons]; unfold forD
      rw [pt_step]; dsimp only
      rw [pt_next hne (h q (by simp))]
      rw [hb,<- Int.add_assoc f]
      exact i2 h0 h1
theorem ptok {s o:Int} {ps:List Pr} (nd:(ps.map (·.1)).Nodup) (hl:ps.length <= 4) (h:∀ p ∈ ps,PrOk p) : PtOk s o ps where
  no := by
    intro n r hn
    obtain ⟨f',x,y,lp⟩ := pt_miss (P := some (.val (pgD s o ps) false)) (n := n) (r := r) ps 0 none none h hn
    have lp := lp
    unfold asgP at lp
    simp_arith [F_point_of,B_point_of,pgD]
    rw [pgD] at lp
    simp_arith [lp]
  row := by
    intro k p r e hr
    have lp := (pt_hit (P := some (.val (pgD s o ps) false)) (r := r) ps 0 none none k p h nd e).1 hr
    unfold asgP at lp
    simp_arith [F_point_of,B_point_of,pgD]
    rw [pgD] at lp
    simp_arith [lp]
  at_ := by
    intro k p r e h0 h1
    have lp := (pt_hit (P := some (.val (pgD s o ps) false)) (r := r) ps 0 none none k p h nd e).2 h0 h1
    unfold asgP at lp
    simp_arith [F_point_of,B_point_of,pgD]
    rw [pgD] at lp
    simp_arith [lp]
    simp
end W
namespace W
open PySem L2 L3
theorem law_ok (ns:List Int) (hl:ns.length <= 63) : F_law [.lst (ns.map .int)] = .ok (.val (.bl true) true []) := by
  obtain ⟨cs,c1,ec⟩ := cells_ok ns hl (cel ns 0)
  obtain ⟨names,n1,n2,n3,n4,en⟩ := names_ok (cel ns 1)
  have v1 := dg_nn (cel ns 0) 1033 4 (by decide)
  have v2 := dg_nn (cel ns 0) 1039 4 (by decide)
  obtain ⟨ps,r1,r2,ep⟩ := program_ok (cs := cs) (seed := cel ns 0) (sv := 1 + dg (cel ns 0) 1033 4) (ov := 1 + dg (cel ns 0) 1039 4) n1 n2 n4 (by omega) (by omega) c1
  have hps:ps.length = names.length := by rw [<- r1]; simp
  have P:PtOk (1 + dg (cel ns 0) 1033 4) (1 + dg (cel ns 0) 1039 4) ps := ptok (by rw [r1]; exact n3) (by omega) r2
  have ask := fun c => asked_ok P (by omega) (by omega) r2 c
  have sm := same_ok (1 + dg (cel ns 0) 1033 4) (1 + dg (cel ns 0) 1039 4) ps (by omega) r2
  simp_arith [F_law,B_law,cel_at ns 0 (by decide),B_law_2,digit_ok (cel ns 0) 1033 4 (by decide) (by decide),digit_ok (cel ns 0) 1039 4 (by decide) (by decide)]
  simp_arith [B_law_3,cel_at ns 1 (by decide),en,e_callRn,strs_flat]
  have hlf:(D.lst (cs.map D.int)).flat = false := rfl
  simp_arith [B_law_4,ec,e_callRf,hlf,ep,pgD_flat]
  simp_arith [B_law_5,ec,e_callRf,hlf,ep,pgD_flat]
  generalize hS:(1 + dg (cel ns 0) 1033 4) = sv at *
  generalize hO:(1 + dg (cel ns 0) 1039 4) = ov at *
  have hlen:(((ns.map D.int).length:Nat) : Int) = ns.length := by simp
  obtain ⟨n,hn,hn2⟩ : ∃ n:Nat,(if (20:Int) < (ns.length:Int) then (20:Int) else (ns.length:Int)) = n /\ n <= 20 := by
    by_cases h:(20:Int) < ns.length
    · exact ⟨20,by rw [if_pos h]; rfl,Nat.le_refl _⟩
    · exact ⟨ns.length,by rw [if_neg h],by omega⟩
  have k1:-4611686018427387904 <= (n:Int) := by omega
  have k2:(n:Int) < 4611686018427387904 := by omega
  obtain ⟨env',lp,x,rfl⟩ := forD_inv (fun k:Nat => D.int k) (asg := gN 6) (fr := true) (body := L_law_1) (fun _ env => ∃ x:Option Sl,env = [some (.val (.lst (ns.map .int)) false),some (.val (.int (cel ns 0)) true),some (.own [.int sv,.int ov] true),some (.val (.lst (names.map D.str)) true),some (.val (pgD sv ov ps) true),some (.val (pgD sv ov ps) true),x]) (List.range n) []
    [some (.val (.lst (ns.map .int)) false),some (.val (.int (cel ns 0)) true),some (.own [.int sv,.int ov] true),some (.val (.lst (names.map D.str)) true),some (.val (pgD sv ov ps) true),some (.val (pgD sv ov ps) true),none] ⟨_,rfl⟩
    (by
      rintro pre post k env _ ⟨x,rfl⟩ hk
      refine ⟨_,[some (.val (.lst (ns.map .int)) false),some (.val (.int (cel ns 0)) true),some (.own [.int sv,.int ov] true),some (.val (.lst (names.map D.str)) true),some (.val (pgD sv ov ps) true),some (.val (pgD sv ov ps) true),some (.val (.int k) true)],rfl,?_,_,rfl⟩
      simp_arith [L_law_1,cel_at ns k (by omega),pgD_flat,ask])
  simp_arith [B_law_6,hlen,e_minX2,e_min,hn]
  rw [e_kR1 k1 k2,b_ok,Int.toNat_natCast,numsD_0]
  simp_arith [lp]
  simp_arith [B_law_7,pgD_flat,ask,sm]
end W
open PySem PySem.W PyProof.Rows
set_option maxRecDepth 100000 in
set_option maxHeartbeats 0 in
theorem PySem.Challenge.cw_callwalk_k54_points_holds : PySem.Challenge.rw_callwalk_k54_points.Holds := by
  w_on; o_law; k_head; (case hw => w_witness2)
  k_fill
  refine L2.walk_of (l := PySem.Challenge.rw_callwalk_k54_points) (n := 63) (k := 5) (x := "_law_script") (CX := fun w => L2.CX1 PySem.Challenge.pw_callwalk_k54_points w) (sp := fun _ => L3.spT W.F_law) rfl (by decide) rfl ⟨rfl, by decide, by decide⟩ (fun w h Y => PySem.W.kIn_of Y) ?F ?S ?C
  case F =>
    intro w mg fa h KX G hmg
    refine W.all_mk KX G hmg ?_
    refine' Exists.imp (fun _ _ => True.intro) (W.tx_mk KX G ?a__law_cell_at ?l__law_cell_at ?c__law_cell_at ?k__law_cell_at ?a__law_digit ?l__law_digit ?c__law_digit ?k__law_digit ?a__law_names ?l__law_names ?c__law_names ?k__law_names ?a__law_row ?l__law_row ?c__law_row ?k__law_row ?a__law_program ?l__law_program ?c__law_program ?k__law_program ?a__law_cells ?l__law_cells ?c__law_cells ?k__law_cells ?a__law_stranger ?l__law_stranger ?c__law_stranger ?k__law_stranger ?a_point_of ?l_point_of ?c_point_of ?k_point_of ?a__law_point ?l__law_point ?c__law_point ?k__law_point ?a__law_whole ?l__law_whole ?c__law_whole ?k__law_whole ?a__law_asked ?l__law_asked ?c__law_asked ?k__law_asked ?a__law_row_same ?l__law_row_same ?c__law_row_same ?k__law_row_same ?a__law_rows_same ?l__law_rows_same ?c__law_rows_same ?k__law_rows_same ?a__law_same ?l__law_same ?c__law_same ?k__law_same ?a_law ?l_law ?c_law ?k_law ?z_all ?z_bool ?z_enumerate ?z_int ?z_isinstance ?z_len ?z_list ?z_min ?z_range ?z_str ?z_sum ?z_tuple ?z_zip ?b_NoName ?e_NoName ?b_NoRow ?e_NoRow ?m_NoName_NoName ?m_T0a_NoRow ?m_T0b_NoRow)
    (case a__law_cell_at => k_is)
    (case l__law_cell_at => k_is)
    (case c__law_cell_at => k_is)
    (case k__law_cell_at => k_is)
    (case a__law_digit => k_is)
    (case l__law_digit => k_is)
    (case c__law_digit => k_is)
    (case k__law_digit => k_is)
    (case a__law_names => k_is)
    (case l__law_names => k_is)
    (case c__law_names => k_is)
    (case k__law_names => k_is)
    (case a__law_row => k_is)
    (case l__law_row => k_is)
    (case c__law_row => k_is)
    (case k__law_row => k_is)
    (case a__law_program => k_is)
    (case l__law_program => k_is)
    (case c__law_program => k_is)
    (case k__law_program => k_is)
    (case a__law_cells => k_is)
    (case l__law_cells => k_is)
    (case c__law_cells => k_is)
    (case k__law_cells => k_is)
    (case a__law_stranger => k_is)
    (case l__law_stranger => k_is)
    (case c__law_stranger => k_is)
    (case k__law_stranger => k_is)
    (case a_point_of => k_is)
    (case l_point_of => k_is)
    (case c_point_of => k_is)
    (case k_point_of => k_is)
    (case a__law_point => k_is)
    (case l__law_point => k_is)
    (case c__law_point => k_is)
    (case k__law_point => k_is)
    (case a__law_whole => k_is)
    (case l__law_whole => k_is)
    (case c__law_whole => k_is)
    (case k__law_whole => k_is)
    (case a__law_asked => k_is)
    (case l__law_asked => k_is)
    (case c__law_asked => k_is)
    (case k__law_asked => k_is)
    (case a__law_row_same => k_is)
    (case l__law_row_same => k_is)
    (case c__law_row_same => k_is)
    (case k__law_row_same => k_is)
    (case a__law_rows_same => k_is)
    (case l__law_rows_same => k_is)
    (case c__law_rows_same => k_is)
    (case k__law_rows_same => k_is)
    (case a__law_same => k_is)
    (case l__law_same => k_is)
    (case c__law_same => k_is)
    (case k__law_same => k_is)
    (case a_law => k_is)
    (case l_law => k_is)
    (case c_law => k_is)
    (case k_law => k_is)
    (case z_all => k_is)
    (case z_bool => k_is)
    (case z_enumerate => k_is)
    (case z_int => k_is)
    (case z_isinstance => k_is)
    (case z_len => k_is)
    (case z_list => k_is)
    (case z_min => k_is)
    (case z_range => k_is)
    (case z_str => k_is)
    (case z_sum => k_is)
    (case z_tuple => k_is)
    (case z_zip => k_is)
    (case b_NoName => k_is)
    (case e_NoName => k_exc)
    (case b_NoRow => k_is)
    (case e_NoRow => k_exc)
    (case m_NoName_NoName => rfl)
    (case m_T0a_NoRow => rfl)
    (case m_T0b_NoRow => rfl)
  case S => exact fun w H a ns hl hO hS => L3.spT_of (fun ns hn => ⟨_,_,W.law_ok ns hn⟩) (by rfl) H a ns hl hO hS
  case C => exact fun _ _ _ _ _ z => L3.cx1_no z
