import PyProof.Rows.All
import Wide.All
import OpenK.AllK
import Wide.FinOn
import Lean
import PyProof.EqAt
import PyProof.EqKinds
import PyProof.TupleCall
import PyProof.ZipIter
import PyProof.AttrMissHeap
import PyProof.Walks
import PyProof.WalksS
import PySem.SetTable
import KE.KSortTup
import KE.KRevIter
import PyProof.Rows.SetFrom
import PyProof.CollectWalk
import PyProof.DictWalks
import PyProof.Draws
import PyProof.EnumMake
import PyProof.ConsumeWalk
import PySem.Challenge.RW_callwalk_k11_takes
set_option Elab.async false
set_option linter.all false
set_option maxRecDepth 100000
set_option maxHeartbeats 4000000

namespace L2
open PySem PySem.Spec PyProof.Rows
abbrev Key := Sum Int Str
def keyIs:Key -> Value -> Bool
  | .inl k, v => Value.isInt k v
  | .inr x, v => Value.isStrOf x v
def keyH (w:World) : Key -> Int
  | .inl k => hashInt k
  | .inr x => hashStr w x
theorem keyIs_shape:∀ {k:Key} {v:Value}, keyIs k v = true -> (∃ i t, k = Sum.inl i /\ v = Value.int i t) \/ (∃ x t, k = Sum.inr x /\ v = Value.str x t)
  | .inl i, v, h => by
    obtain ⟨t, e⟩ := Value.isInt_shape (k := i) (v := v) h
    exact .inl ⟨i, t, rfl, e⟩
  | .inr x, v, h => by
    obtain ⟨t, e⟩ := Value.isStrOf_shape (x := x) (v := v) h
    exact .inr ⟨x, t, rfl, e⟩
theorem keyIs_int (i:Int) (t:Tok) : keyIs (.inl i) (.int i t) = true := by simp [keyIs, Value.isInt]
theorem keyIs_str (x:Str) (t:Tok) : keyIs (.inr x) (.str x t) = true := by simp [keyIs, Value.isStrOf]
theorem key_ll (a b:Int) : decide ((Sum.inl a:Key) = Sum.inl b) = (a == b) := by
  by_cases e:a = b
  · subst e; simp
  · have h:¬ (Sum.inl a:Key) = Sum.inl b := fun q => e (Sum.inl.inj q)
    rw [decide_eq_false h]
    exact (beq_eq_false_iff_ne.mpr e).symm
theorem key_rr (a b:Str) : decide ((Sum.inr a:Key) = Sum.inr b) = decide (a = b) := by
  by_cases e:a = b
  · subst e; simp
  · have h:¬ (Sum.inr a:Key) = Sum.inr b := fun q => e (Sum.inr.inj q)
    rw [decide_eq_false h, decide_eq_false e]
theorem key_lr (a:Int) (b:Str) : decide ((Sum.inl a:Key) = Sum.inr b) = false := decide_eq_false (fun q => nomatch q)
theorem key_rl (a:Str) (b:Int) : decide ((Sum.inr a:Key) = Sum.inl b) = false := decide_eq_false (fun q => nomatch q)
def mixKind (prog:Program) (w:World) : PySem.KeyKind prog w Key where
  is := keyIs
  hash := keyH w
  inj := fun v a b ha hb => by
    rcases keyIs_shape ha with ⟨i, t, rfl, rfl⟩ | ⟨x, t, rfl, rfl⟩
    · rcases keyIs_shape hb with ⟨j, u, rfl, e⟩ | ⟨y, u, rfl, e⟩
      · injection e with e1 _; rw [e1]
      · exact nomatch e
    · rcases keyIs_shape hb with ⟨j, u, rfl, e⟩ | ⟨y, u, rfl, e⟩
      · exact nomatch e
      · injection e with e1 _; rw [e1]
  byValue := fun k v h => by
    rcases keyIs_shape h with ⟨i, t, rfl, rfl⟩ | ⟨x, t, rfl, rfl⟩ <;> rfl
  pyHash := fun hv h => by
    rcases keyIs_shape hv with ⟨i, t, rfl, rfl⟩ | ⟨x, t, rfl, rfl⟩
    · exact wpAny_pyHash_int h
    · exact wpAny_pyHash_str h
  eqBool := fun hu hv h => by
    rcases keyIs_shape hu with ⟨i, t, rfl, rfl⟩ | ⟨x, t, rfl, rfl⟩
    · rcases keyIs_shape hv with ⟨j, u, rfl, rfl⟩ | ⟨y, u, rfl, rfl⟩
      · rw [key_ll] at h; exact wpAny_eqBool_int h
      · rw [key_lr] at h; exact SeqAt.EqAt.int_str i t y u _ _ _ _ h
    · rcases keyIs_shape hv with ⟨j, u, rfl, rfl⟩ | ⟨y, u, rfl, rfl⟩
      · rw [key_rl] at h; exact SeqAt.EqAt.str_int x t j u _ _ _ _ h
      · rw [key_rr] at h; exact wpAny_eqBool_str h
  «strs» := fun k x t v h => by
    rcases keyIs_shape h with ⟨i, u, rfl, e⟩ | ⟨y, u, rfl, e⟩
    · exact nomatch e
    · injection e with e1 _
      subst e1
      cases v <;> rfl
theorem mixKind_int (prog:Program) (w:World) (i:Int) (t:Tok) : (mixKind prog w).is (.inl i) (.int i t) = true := keyIs_int i t
theorem mixKind_str (prog:Program) (w:World) (x:Str) (t:Tok) : (mixKind prog w).is (.inr x) (.str x t) = true := keyIs_str x t
end L2
namespace L2
open PySem PySem.Spec PyProof.Rows
inductive V where
  | non | bl (b:Bool) | int (i:Int) | str (x:Str) | byt (b:Array UInt8) | flt (b:UInt64) | ref (a:Addr) | ty (n:String)
  deriving DecidableEq
def RelV:V -> Value -> Prop
  | .non, u => u = Value.none
  | .bl b, u => u = Value.bool b
  | .int i, u => ∃ t, u = Value.int i t
  | .str x, u => ∃ t, u = Value.str x t
  | .byt b, u => ∃ t, u = Value.bytes b t
  | .flt b, u => ∃ t, u = Value.float b t
  | .ref a, u => u = Value.ref a
  | .ty n, u => u = Value.type n
abbrev Vals:List V -> List Value -> Prop := Paired RelV
theorem Vals.length {xs:List V} {us:List Value} (r:Vals xs us) : xs.length = us.length := Paired.length r
theorem Vals.get:∀ {xs:List V} {us:List Value} {i:Nat} {x:V}, Vals xs us -> xs[i]? = some x -> ∃ u, us[i]? = some u /\ RelV x u
  | _, _, _, _, .nil, e => by simp at e
  | _, _, 0, _, .cons r _, e => by simp at e; subst e; exact ⟨_, rfl, r⟩
  | _, _, i + 1, x, .cons _ t, e => by
    obtain ⟨u, h1, h2⟩ := Vals.get (i := i) (x := x) t (by simpa using e)
    exact ⟨u, by simpa using h1, h2⟩
theorem Vals.set {x:V} {u:Value} (r:RelV x u) : ∀ {xs:List V} {us:List Value} (i:Nat), Vals xs us -> Vals (xs.set i x) (us.set i u)
  | _, _, _, .nil => .nil
  | _, _, 0, .cons _ t => .cons r t
  | _, _, i + 1, .cons q t => .cons q (Vals.set r i t)
theorem Vals.append:∀ {xs ys:List V} {us ws:List Value}, Vals xs us -> Vals ys ws -> Vals (xs ++ ys) (us ++ ws)
  | _, _, _, _, .nil, s => s
  | _, _, _, _, .cons r t, s => .cons r (Vals.append t s)
theorem Vals.take:∀ {xs:List V} {us:List Value} (n:Nat), Vals xs us -> Vals (xs.take n) (us.take n)
  | _, _, 0, _ => .nil
  | _, _, _ + 1, .nil => .nil
  | _, _, n + 1, .cons r t => .cons r (Vals.take n t)
theorem Vals.drop:∀ {xs:List V} {us:List Value} (n:Nat), Vals xs us -> Vals (xs.drop n) (us.drop n)
  | _, _, 0, r => r
  | _, _, _ + 1, .nil => .nil
  | _, _, n + 1, .cons _ t => Vals.drop n t
def RelO:Option V -> Option Value -> Prop
  | some v, some u => RelV v u
  | none, none => True
  | _, _ => False
def KV {κ:Type} : List (κ × V) -> List (κ × Value) -> Prop := Paired fun (p:κ × V) (q:κ × Value) => p.1 = q.1 /\ RelV p.2 q.2
def kV:Key -> V
  | .inl i => .int i
  | .inr x => .str x
inductive HO where
  
  | lst (xs:List V)
  
  | tup (xs:List V)
  
  | dK (kvs:List (Key × V)) | dT (kvs:List (List Key × V))
  
  | set (S:Int -> Bool) (n:Nat)
  
  | ins (C dx:Addr) (fs:List (Str × V))
  
  | own (x:Addr)
  
  | xd (fs:List (Str × V))
  
  | met (f x:Addr)
  
  | rng (lo hi:Int)
  
  | frz (o:Obj) (u:HO)
  
  | tbl (ps:Array Value)
  
  | ext (φ:Heap -> Prop)
abbrev Hp := Addr -> Option HO
def upd (H:Hp) (a:Addr) (o:HO) : Hp := fun b => if b = a then some o else H b
theorem upd_same {H:Hp} {a:Addr} {o:HO} : upd H a o a = some o := by unfold upd; rw [if_pos rfl]
theorem upd_ne {H:Hp} {a b:Addr} {o:HO} (h:b ≠ a) : upd H a o b = H b := by unfold upd; rw [if_neg h]
theorem upd_upd {H:Hp} {a:Addr} {o u:HO} : upd (upd H a o) a u = upd H a u := by
  funext b; unfold upd; split <;> rfl
theorem ne_of {H:Hp} {a b:Addr} {o u:HO} (h:H a = some o) (h':H b = some u) (d:o ≠ u) : a ≠ b := by
  intro e; subst e; rw [h] at h'; exact d (Option.some.inj h')
theorem ne_of_none {H:Hp} {a b:Addr} {o:HO} (h:H a = some o) (h':H b = none) : a ≠ b := by
  intro e; subst e; rw [h] at h'; cases h'
section
variable (P:Program) (w:World)
def ObjOk (H:Hp) (h:Heap) (a:Addr) : HO -> Prop
  | .lst xs => xs.length <= sizeLine /\ ∃ (its : List Value) (n : Nat), Vals xs its /\ h.get? a = some { cls := .type "list", data := .seq its.toArray n }
  | .tup xs => xs.length <= sizeLine /\ ∃ its:List Value, Vals xs its /\ IsTup h a its.toArray
  | .dK kvs => kvs.length <= sizeLine /\ (a == sysModules) = false /\ ∃ vs, KV kvs vs /\ h.DictOf (mixKind P w) a vs
  | .dT kvs => kvs.length <= sizeLine /\ (a == sysModules) = false /\ ∃ xs:List (List Key × Addr × Value),
      Paired (fun (p:List Key × V) (q:List Key × Addr × Value) => p.1 = q.1 /\ H q.2.1 = some (.tup (p.1.map kV)) /\ RelV p.2 q.2.2) kvs xs /\
      ∃ o es ep, h.get? a = some o /\ o.ExactDict /\ o.data = .dict es ep /\ es.toList = xs.map (entryOfKey (tupleKind (mixKind P w))) /\ (xs.map (·.1)).Nodup
  | .set S n => h.SetOf (intKind P w) a S n
  | .ins C dx fs => H dx = some (.own a) /\ fs.length <= 1000 /\ dx ≠ a /\ h.get? a = some (PySem.W.instObj C dx) /\
      ∃ mA, h.Ns1 dx mA /\ (∀ f, RelO (fs.lookup f) (mA f)) /\ PySem.Within mA (fs.map (·.1))
  | .own _ => ∃ o, h.get? a = some o
  | .xd fs => ∃ mA, h.Ns1 a mA /\ ∀ f, RelO (fs.lookup f) (mA f)
  | .rng lo hi => ∃ t u v, h.get? a = some { cls := .type "range", data := .fields #[.int lo t, .int hi u, .int 1 v] }
  | .frz o u => h.get? a = some o /\ ObjOk H h a u
  | .tbl ps => h.get? a = some { cls := .none, data := .fields ps }
  | .met f x => h.get? a = some (PySem.W.methodObj (.ref f) (.ref x))
  | .ext φ => φ h /\ (∃ o, h.get? a = some o) /\ ∀ h1 h2:Heap, φ h1 -> (∀ o, h1.get? a = some o -> h2.get? a = some o) -> φ h2
def HOk (H:Hp) (h:Heap) : Prop := ∀ a o, H a = some o -> ObjOk P w H h a o
end
section
variable {P:Program} {w:World} {H H':Hp} {h h':Heap} {a:Addr} {o:HO}
theorem ObjOk.lt (x:ObjOk P w H h a o) : a < h.objs.size := by
  cases o with
  | lst xs => obtain ⟨_, _, _, _, e⟩ := x; exact Heap.lt_size e
  | tup xs => obtain ⟨_, _, _, p⟩ := x; exact p.lt
  | dK kvs => obtain ⟨_, _, _, _, o, _, _, e, _⟩ := x; exact Heap.lt_size e
  | dT kvs => obtain ⟨_, _, _, _, o, _, _, e, _⟩ := x; exact Heap.lt_size e
  | set S n => obtain ⟨o, _, _, _, e, _⟩ := x; exact Heap.lt_size e
  | ins C dx fs => obtain ⟨_, _, _, e, _⟩ := x; exact Heap.lt_size e
  | own y => obtain ⟨_, e⟩ := x; exact Heap.lt_size e
  | xd fs => obtain ⟨_, ⟨_, _, _, e, _⟩, _⟩ := x; exact Heap.lt_size e
  | rng lo hi => obtain ⟨_, _, _, e⟩ := x; exact Heap.lt_size e
  | frz ob u => obtain ⟨e, _⟩ := x; exact Heap.lt_size e
  | tbl ps => exact Heap.lt_size (show h.get? a = some _ from x)
  | met f y => exact Heap.lt_size (show h.get? a = some _ from x)
  | ext φ => obtain ⟨_, ⟨_, e⟩, _⟩ := x; exact Heap.lt_size e
theorem Paired.mapP {α β:Type} {F G:α -> β -> Prop} : ∀ {l₁:List α} {l₂:List β}, Paired F l₁ l₂ -> (∀ a b, F a b -> G a b) -> Paired G l₁ l₂
  | _, _, .nil, _ => .nil
  | _, _, .cons r t, f => .cons (f _ _ r) (Paired.mapP t f)
theorem ObjOk.stay (x:ObjOk P w H h a o) (k:∀ b u, (b = a \/ H b = some (.own a)) -> h.get? b = some u -> h'.get? b = some u)
    (ho:∀ b, H b = some (.own a) -> H' b = some (.own a)) (ht:∀ b xs, H b = some (.tup xs) -> H' b = some (.tup xs)) : ObjOk P w H' h' a o := by
  induction o with
  | lst xs => obtain ⟨z, its, n, r, e⟩ := x; exact ⟨z, its, n, r, k _ _ (.inl rfl) e⟩
  | tup xs => obtain ⟨z, its, r, ob, e, c⟩ := x; exact ⟨z, its, r, ob, k _ _ (.inl rfl) e, c⟩
  | dK kvs => obtain ⟨z, y, vs, r, ob, es, ep, e, c⟩ := x; exact ⟨z, y, vs, r, ob, es, ep, k _ _ (.inl rfl) e, c⟩
  | dT kvs =>
    obtain ⟨z, y, xs, r, ob, es, ep, e, c⟩ := x
    exact ⟨z, y, xs, Paired.mapP r fun p q z => ⟨z.1, ht _ _ z.2.1, z.2.2⟩, ob, es, ep, k _ _ (.inl rfl) e, c⟩
  | set S n => obtain ⟨ob, es, ep, t, e, c⟩ := x; exact ⟨ob, es, ep, t, k _ _ (.inl rfl) e, c⟩
  | ins C dx fs =>
    obtain ⟨d, z, ne, e, mA, ⟨od, es, ep, e2, c⟩, r⟩ := x
    exact ⟨ho _ d, z, ne, k _ _ (.inl rfl) e, mA, ⟨od, es, ep, k _ _ (.inr d) e2, c⟩, r⟩
  | own y => obtain ⟨ob, e⟩ := x; exact ⟨ob, k _ _ (.inl rfl) e⟩
  | xd fs => obtain ⟨mA, ⟨od, es, ep, e, c⟩, r⟩ := x; exact ⟨mA, ⟨od, es, ep, k _ _ (.inl rfl) e, c⟩, r⟩
  | rng lo hi => obtain ⟨t, u, v, e⟩ := x; exact ⟨t, u, v, k _ _ (.inl rfl) e⟩
  | frz ob u ih => obtain ⟨e, q⟩ := x; exact ⟨k _ _ (.inl rfl) e, ih q⟩
  | tbl ps =>
    have e:h.get? a = some { cls := .none, data := .fields ps } := x
    show h'.get? a = some { cls := .none, data := .fields ps }
    exact k a _ (.inl rfl) e
  | met f y =>
    have e:h.get? a = some (PySem.W.methodObj (.ref f) (.ref y)) := x
    show h'.get? a = some (PySem.W.methodObj (.ref f) (.ref y))
    exact k a _ (.inl rfl) e
  | ext φ => obtain ⟨p, ⟨o, e⟩, st⟩ := x; exact ⟨st _ _ p fun o q => k _ _ (.inl rfl) q, ⟨o, k _ _ (.inl rfl) e⟩, st⟩
theorem HOk.lt (x:HOk P w H h) (e:H a = some o) : a < h.objs.size := (x a o e).lt
theorem HOk.fresh (x:HOk P w H h) (e:h.objs.size <= a) : H a = none := by
  cases q:H a with
  | none => rfl
  | some u => exact absurd (Nat.lt_of_lt_of_le (x.lt q) e) (Nat.lt_irrefl _)
theorem HOk.kept (x:HOk P w H h) (k:∀ b u, h.get? b = some u -> h'.get? b = some u) : HOk P w H h' := fun a o e =>
  (x a o e).stay (fun b u _ q => k b u q) (fun _ q => q) fun _ _ q => q
theorem HOk.laid (x:HOk P w H h) (k:∀ b u, h.get? b = some u -> h'.get? b = some u) (hp:h.objs.size <= a) (new:ObjOk P w (upd H a o) h' a o) : HOk P w (upd H a o) h' := fun b u e => by
  have hn := x.fresh hp
  by_cases hb:b = a
  · subst hb; rw [upd_same] at e; cases e; exact new
  · rw [upd_ne hb] at e
    exact (x b u e).stay (fun c v _ q => k c v q) (fun c q => by rw [upd_ne (ne_of_none q hn)]; exact q) fun c xs q => by rw [upd_ne (ne_of_none q hn)]; exact q
end
def Rd (H:Hp) (a:Addr) (u:HO) : Prop := H a = some u \/ ∃ o, H a = some (.frz o u)
theorem Rd.of {H:Hp} {a:Addr} {u:HO} (h:H a = some u) : Rd H a u := .inl h
theorem Rd.ok {P:Program} {w:World} {H:Hp} {h:Heap} {a:Addr} {u:HO} (r:Rd H a u) (x:HOk P w H h) : ObjOk P w H h a u := by
  rcases r with r | ⟨o, r⟩
  · exact x a u r
  · obtain ⟨_, q⟩ := x a _ r
    exact q
def Mut:Option HO -> Prop
  | some (.lst _) => True
  | some (.dK _) => True
  | some (.dT _) => True
  | some (.set _ _) => True
  | some (.ins _ _ _) => True
  | some (.ext _) => True
  | _ => False
section
variable {P:Program} {w:World} {H:Hp} {h h':Heap} {x e:Addr} {o':HO}
theorem HOk.write (ok:HOk P w H h) (mu:Mut (H x)) (he:e = x \/ H e = some (.own x)) (k:∀ b u, b ≠ e -> h.get? b = some u -> h'.get? b = some u) (heo:∃ u, h'.get? e = some u)
    (new:ObjOk P w (upd H x o') h' x o') : HOk P w (upd H x o') h' := fun b u q => by
  have nown:∀ c y, H c = some (.own y) -> c ≠ x := fun c y r z => by subst z; rw [r] at mu; exact mu
  have ntup:∀ c xs, H c = some (.tup xs) -> c ≠ x := fun c xs r z => by subst z; rw [r] at mu; exact mu
  by_cases hb:b = x
  · subst hb; rw [upd_same] at q; cases q; exact new
  · rw [upd_ne hb] at q
    by_cases hbe:b = e
    · have q':H b = some (.own x) := by
        rcases he with z | z
        · exact absurd (hbe.trans z) hb
        · rw [hbe]; exact z
      rw [q] at q'; cases q'
      obtain ⟨v, hv⟩ := heo
      exact ⟨v, by rw [hbe]; exact hv⟩
    · refine (ok b u q).stay (fun c v hc r => k c v ?_ r) (fun c r => by rw [upd_ne (nown c b r)]; exact r) fun c xs r => by rw [upd_ne (ntup c xs r)]; exact r
      rcases hc with rfl | hc
      · exact hbe
      · rintro rfl
        rcases he with z | z
        · exact nown c b hc z
        · rw [hc] at z; cases z; exact hb rfl
end
structure Un (fs ex:List Addr) (H H':Hp) (h h':Heap) : Prop where
  keep:∀ b o, h.get? b = some o -> H b = none -> b ∉ fs -> b ∉ ex -> h'.get? b = some o
  slot:∀ b o, h.get? b = some o -> H b = none -> b ∈ fs -> b ∉ ex -> ∃ sl, h'.get? b = some { o with slots := sl }
  free:∀ b o, h.get? b = some o -> H b = none -> b ∉ ex -> H' b = none
  there:∀ b o, h.get? b = some o -> b ∉ ex -> ∃ o', h'.get? b = some o'
  tups:∀ b xs, H b = some (.tup xs) -> H' b = some (.tup xs)
  frzs:∀ b o u, H b = some (.frz o u) -> H' b = some (.frz o u)
  tbls:∀ b ps, H b = some (.tbl ps) -> ∃ more, H' b = some (.tbl (ps ++ more))
section
variable {fs fs' ex ex':List Addr} {H H1 H2:Hp} {h h1 h2 h':Heap} {a x e:Addr} {o:HO}
theorem Un.any (u:Un fs ex H H1 h h1) {b:Addr} {ob:Obj} (q:h.get? b = some ob) (n:H b = none) (hx:b ∉ ex) : ∃ sl, h1.get? b = some { ob with slots := sl } := by
  by_cases hb:b ∈ fs
  · exact u.slot b ob q n hb hx
  · exact ⟨ob.slots, u.keep b ob q n hb hx⟩
theorem Un.trans (a:Un fs ex H H1 h h1) (b:Un fs ex H1 H2 h1 h2) : Un fs ex H H2 h h2 where
  keep := fun c ob q n hc hx => b.keep c ob (a.keep c ob q n hc hx) (a.free c ob q n hx) hc hx
  slot := fun c ob q n hc hx => by
    obtain ⟨sl, e1⟩ := a.slot c ob q n hc hx
    obtain ⟨sl', e2⟩ := b.slot c _ e1 (a.free c ob q n hx) hc hx
    exact ⟨sl', e2⟩
  free := fun c ob q n hx => by
    obtain ⟨o', e1⟩ := a.there c ob q hx
    exact b.free c o' e1 (a.free c ob q n hx) hx
  there := fun c ob q hx => by
    obtain ⟨o', e1⟩ := a.there c ob q hx
    exact b.there c o' e1 hx
  tups := fun c xs q => b.tups c xs (a.tups c xs q)
  frzs := fun c ob xs q => b.frzs c ob xs (a.frzs c ob xs q)
  tbls := fun c ps q => by
    obtain ⟨m1, e1⟩ := a.tbls c ps q
    obtain ⟨m2, e2⟩ := b.tbls c _ e1
    exact ⟨m1 ++ m2, by rw [e2, Array.append_assoc]⟩
theorem Un.kept (k:∀ b u, h.get? b = some u -> h'.get? b = some u) : Un fs ex H H h h' :=
  ⟨fun b ob q _ _ _ => k b ob q, fun b ob q _ _ _ => ⟨ob.slots, k b ob q⟩, fun _ _ _ n _ => n, fun b ob q _ => ⟨ob, k b ob q⟩, fun _ _ q => q, fun _ _ _ q => q, fun _ ps q => ⟨#[], by rw [q]; simp⟩⟩
theorem Un.refl:Un fs ex H H h h := Un.kept fun _ _ q => q
theorem Un.laid (k:∀ b u, h.get? b = some u -> h'.get? b = some u) (hp:h.objs.size <= a) (hn:H a = none) : Un fs ex H (upd H a o) h h' where
  keep := fun b u q _ _ _ => k b u q
  slot := fun b u q _ _ _ => ⟨u.slots, k b u q⟩
  free := fun b u q n _ => by rw [upd_ne (Nat.ne_of_lt (Nat.lt_of_lt_of_le (Heap.lt_size q) hp))]; exact n
  there := fun b u q _ => ⟨u, k b u q⟩
  tups := fun b xs q => by rw [upd_ne (ne_of_none q hn)]; exact q
  frzs := fun b u xs q => by rw [upd_ne (ne_of_none q hn)]; exact q
  tbls := fun b ps q => ⟨#[], by rw [upd_ne (ne_of_none q hn), q]; simp⟩
theorem Un.write (mu:Mut (H x)) (he:e = x \/ H e = some (.own x)) (k:∀ b u, b ≠ e -> h.get? b = some u -> h'.get? b = some u) (heo:∃ u, h'.get? e = some u) : Un fs ex H (upd H x o) h h' := by
  have hx:∀ b, H b = none -> b ≠ x := fun b n z => by subst z; rw [n] at mu; exact mu
  have hb:∀ b, H b = none -> b ≠ e := fun b n z => by
    subst z
    rcases he with r | r
    · exact hx b n r
    · rw [n] at r; cases r
  have hm:∀ b u, H b = some u -> ¬ Mut (some u) -> b ≠ x := fun b u q nm z => by subst z; rw [q] at mu; exact nm mu
  refine ⟨fun b u q n _ _ => k b u (hb b n) q, fun b u q n _ _ => ⟨u.slots, k b u (hb b n) q⟩, fun b u q n _ => by rw [upd_ne (hx b n)]; exact n, fun b u q _ => ?_,
    fun b xs q => by rw [upd_ne (hm b _ q fun z => z)]; exact q, fun b u xs q => by rw [upd_ne (hm b _ q fun z => z)]; exact q, fun b ps q => ⟨#[], by rw [upd_ne (hm b _ q fun z => z), q]; simp⟩⟩
  by_cases hbe:b = e
  · subst hbe; exact heo
  · exact ⟨u, k b u hbe q⟩
theorem Un.mono (u:Un fs ex H H1 h h1) (hs:∀ b ∈ fs, b ∈ fs') (hx:∀ b ∈ ex, b ∈ ex') : Un fs' ex' H H1 h h1 :=
  ⟨fun b ob q n hb he => u.keep b ob q n (fun z => hb (hs b z)) fun z => he (hx b z), fun _ _ q n _ he => u.any q n fun z => he (hx _ z), fun b ob q n he => u.free b ob q n fun z => he (hx b z), fun b ob q he => u.there b ob q fun z => he (hx b z), u.tups, u.frzs, u.tbls⟩
end
def trk (h:Heap) (H:Hp) : List Addr := (List.range h.objs.size).filter fun a => (H a).isSome
def hidT (h:Heap) (H:Hp) : Heap := PySem.W.hideAll h (trk h H)
theorem hidT_size (h:Heap) (H:Hp) : (hidT h H).objs.size = h.objs.size := PySem.W.hideAll_size _ _
theorem hidT_get {h:Heap} {H:Hp} {b:Addr} {o:Obj} (e:h.get? b = some o) (n:H b = none) : (hidT h H).get? b = some o :=
  PySem.W.hideAll_get _ e fun hm => by
    have q:(H b).isSome = true := (List.mem_filter.mp hm).2
    rw [n] at q; simp at q
theorem of_hidT {h:Heap} {H:Hp} {b:Addr} {o:Obj} (e:(hidT h H).get? b = some o) : h.get? b = some o /\ H b = none := by
  have e':h.get? b = some o := PySem.W.of_hideAll (trk h H) e
  refine ⟨e', ?_⟩
  cases q:H b with
  | none => rfl
  | some x =>
    have hm:b ∈ trk h H := List.mem_filter.mpr ⟨List.mem_range.mpr (Heap.lt_size e'), by simp [q]⟩
    have z:(hidT h H).get? b = none := PySem.W.hideAll_none (trk h H) hm
    rw [z] at e; cases e
def allNews (g h:Heap) (L:Addr) : List (Addr × Obj) := (List.range h.objs.size).filterMap fun a => if a = L \/ (g.get? a).isSome = true then none else (h.get? a).map fun o => (a, o)
def rest (g h:Heap) (L d:Addr) : List (Addr × Obj) := (allNews g h L).filter fun p => decide (p.1 ≠ d)
end L2
namespace L2
open PySem PySem.Spec PyProof.Rows
structure Mod (K:PySem.W.Frag) (mg:Str -> Option Value) (base:Heap) : Prop where
  kin:K.In base
  glob:base.Ns mainGlobals mg
  blt : ∃ mb, base.Ns builtinsNs mb /\ ∀ x : Str, x ≠ "__name__" -> mb x = bootBuiltins x
  nolimit:base.NoLimit
structure Cx where
  prog:Program
  w:World
  K:PySem.W.Frag
  mg:Str -> Option Value
  base:Heap
  A:Around
  N:List Str
  s₀:Shared
  H₀:Hp
  env:Env
  outer:List Env
  stack:List Env
  ex:List Addr
  fn:Str -> Bool
  calm:Bool
  pn:List (Addr × Obj)
  xe:Value -> Shared -> Prop
def frs (l:List Env) : List Addr := l.filterMap (·.frame)
abbrev Cx.fs (X:Cx) : List Addr := frs X.outer
def Vis (sc:Scope) (x:Str) : Prop := sc.names.lookup x = some .local \/ sc.names.lookup x = some .cell \/ sc.names.lookup x = some .free
def Loc (sc:Scope) (x:Str) : Prop := sc.names.lookup x = some .local \/ sc.names.lookup x = some .cell
def Look (env:Env) (h:Heap) (m:Str -> Option Value) (x:Str) (u:Value) : Prop :=
  (env.kindOf x = some .local /\ m x = some u) \/ ((env.kindOf x = some .cell \/ env.kindOf x = some .free) /\ ∃ c, env.cells.lookup x = some c /\ h.IsCell c (some u))
structure Cx.Ok (X:Cx) : Prop where
  mod:Mod X.K X.mg X.base
  kind:X.env.scope.kind = .function
  glob:X.env.globals = mainGlobals
  blt:X.env.builtins = builtinsNs
  above:X.s₀.heap.objs.size <= X.env.locals
  inj:∀ x y c, X.env.cells.lookup x = some c -> X.env.cells.lookup y = some c -> x = y
  has:∀ x, (X.env.kindOf x = some .cell \/ X.env.kindOf x = some .free) -> ∃ c, X.env.cells.lookup x = some c
  cab:∀ x c, X.fn x = true -> X.env.cells.lookup x = some c -> X.s₀.heap.objs.size <= c
  hd:X.calm = true -> X.A.handled = none
  frames:X.A.frames = some X.stack
  stk:X.stack = X.outer \/ (X.stack = X.env :: X.outer /\ X.env.frame = some X.env.locals)
  exf:∀ b ∈ X.ex, b ≠ X.env.locals /\ ∀ x c, X.env.cells.lookup x = some c -> c ≠ b
  bs:∀ b o, X.base.get? b = some o -> X.s₀.heap.get? b = some o /\ X.H₀ b = none
  bsz:X.base.objs.size <= X.s₀.heap.objs.size
  noex:∀ b o, X.base.get? b = some o -> b ∉ X.ex
  exfs:∀ b ∈ X.ex, b ∉ X.fs
  funs:X.s₀.heap.FunFrames X.base X.outer
  frf:∀ b ∈ X.fs, X.H₀ b = none
structure Inv (X:Cx) (pins:List (Addr × Obj)) (σ:List (Option V)) (H:Hp) (s:Shared) : Prop where
  ok:X.Ok
  os:s.os = X.s₀.os
  bare:AllBare s.gens
  base:Un X.fs X.ex X.H₀ H X.s₀.heap s.heap
  loc:∃ m, s.heap.Ns X.env.locals m /\ ∀ (i:Nat) (x:Str) (v:V), X.N[i]? = some x -> σ[i]? = some (some v) -> Vis X.env.scope x -> ∃ u, RelV v u /\ Look X.env s.heap m x u
  cell:∀ x c, X.env.cells.lookup x = some c -> ∃ v, s.heap.IsCell c v
  free:H X.env.locals = none
  freeC:∀ x c, X.env.cells.lookup x = some c -> H c = none
  pin:∀ p ∈ X.pn ++ pins, s.heap.get? p.1 = some p.2 /\ H p.1 = none /\ p.1 ≠ X.env.locals /\ p.1 ∉ X.fs /\ ∀ v, p.2.data ≠ .cell v
  hok:HOk X.prog X.w H s.heap
  len:σ.length = X.N.length
section
variable {X:Cx} {pins:List (Addr × Obj)} {σ:List (Option V)} {H H':Hp} {s:Shared} {h':Heap}
theorem Cx.Ok.nofr (ok:X.Ok) {b:Addr} {o:Obj} (e:X.base.get? b = some o) : b ∉ X.fs := fun hb => by
  have := (ok.funs.mem hb).1
  rw [e] at this; cases this
theorem Inv.bs (I:Inv X pins σ H s) : ∀ b o, X.base.get? b = some o -> s.heap.get? b = some o /\ H b = none := fun b o e =>
  ⟨I.base.keep b o (I.ok.bs b o e).1 (I.ok.bs b o e).2 (I.ok.nofr e) (I.ok.noex b o e), I.base.free b o (I.ok.bs b o e).1 (I.ok.bs b o e).2 (I.ok.noex b o e)⟩
theorem Inv.bk (I:Inv X pins σ H s) : ∀ b o, X.base.get? b = some o -> s.heap.get? b = some o := fun b o e => (I.bs b o e).1
theorem Inv.mod (I:Inv X pins σ H s) : Mod X.K X.mg X.base := I.ok.mod
theorem Inv.kIn (I:Inv X pins σ H s) : X.K.In s.heap := I.ok.mod.kin.keeps I.bk
theorem Inv.nolimit (I:Inv X pins σ H s) : s.heap.NoLimit := I.ok.mod.nolimit.keeps I.bk
theorem Inv.fr (I:Inv X pins σ H s) : ∃ m, Fr X.base X.env.locals s.heap m :=
  let ⟨m, hn, _⟩ := I.loc
  ⟨m, hn, I.bk, Nat.le_trans I.ok.bsz I.ok.above⟩
theorem Inv.lt (I:Inv X pins σ H s) : X.env.locals < s.heap.objs.size := let ⟨_, hn, _⟩ := I.loc; hn.lt
theorem Inv.sz (I:Inv X pins σ H s) : X.s₀.heap.objs.size <= s.heap.objs.size := Nat.le_trans I.ok.above (Nat.le_of_lt I.lt)
theorem Inv.nofs (I:Inv X pins σ H s) {a:Addr} (h:s.heap.objs.size <= a) : a ∉ X.fs := fun hb => by
  obtain ⟨_, o, ho, _⟩ := I.ok.funs.mem hb
  exact absurd (Nat.lt_of_lt_of_le (Heap.lt_size ho) (Nat.le_trans I.sz h)) (Nat.lt_irrefl _)
theorem Inv.cne (I:Inv X pins σ H s) : ∀ x c, X.env.cells.lookup x = some c -> c ≠ X.env.locals := fun x c e z => by
  obtain ⟨v, o, ho, hd⟩ := I.cell x c e
  obtain ⟨m, ⟨o', es, ep, ho', hd', _⟩, _⟩ := I.loc
  rw [z, ho'] at ho; cases ho; rw [hd'] at hd; cases hd
theorem Inv.funs (I:Inv X pins σ H s) : s.heap.FunFrames X.base X.outer := by
  have all:∀ (l:List Env), (∀ b ∈ frs l, b ∈ X.fs) -> X.s₀.heap.FunFrames X.base l -> s.heap.FunFrames X.base l := by
    intro l
    induction l with
    | nil => intro _ _; trivial
    | cons env r ih =>
      intro hs hl
      obtain ⟨hk, ⟨L, o, hf, hn, ho, hd⟩, hr⟩ := hl
      have hL:L ∈ X.fs := hs L (by unfold frs; rw [List.filterMap_cons, hf]; exact List.mem_cons_self)
      obtain ⟨sl, e⟩ := I.base.slot L o ho (I.ok.frf L hL) hL fun z => I.ok.exfs L z hL
      exact ⟨hk, ⟨L, _, hf, hn, e, hd⟩, ih (fun b hb => hs b (by unfold frs; rw [List.filterMap_cons, hf]; exact List.mem_cons_of_mem _ hb)) hr⟩
  exact all X.outer (fun _ hb => hb) I.ok.funs
theorem Inv.stack (I:Inv X pins σ H s) : s.heap.FunFrames X.base X.stack := by
  rcases I.ok.stk with e | ⟨e, hf⟩
  · rw [e]; exact I.funs
  · rw [e]
    obtain ⟨m, hn, _⟩ := I.loc
    refine .cons (by rw [I.ok.kind]; decide) hf hn ?_ I.funs
    exact Heap.get?_none_of_le (Nat.le_trans I.ok.bsz I.ok.above)
theorem Inv.stkSub (I:Inv X pins σ H s) : ∀ b ∈ frs X.stack, b ∈ X.env.locals :: X.fs := fun b hb => by
  rcases I.ok.stk with e | ⟨e, hf⟩
  · rw [e] at hb; exact List.mem_cons_of_mem _ hb
  · rw [e] at hb
    unfold frs at hb
    rw [List.filterMap_cons, hf] at hb
    exact hb
theorem Inv.stkFree (I:Inv X pins σ H s) : ∀ b ∈ frs X.stack, H b = none := fun b hb => by
  rcases List.mem_cons.mp (I.stkSub b hb) with e | hb
  · rw [e]; exact I.free
  · obtain ⟨_, o, ho, _⟩ := I.ok.funs.mem hb
    exact I.base.free b o ho (I.ok.frf b hb) fun z => I.ok.exfs b z hb
theorem Inv.step {g':Array GenState} {t':Nat} {d':Drawn} {ch:List Addr} (I:Inv X pins σ H s)
    (hch:∀ b ∈ ch, (b ∈ X.ex \/ X.s₀.heap.objs.size <= b) /\ b ≠ X.env.locals /\ (∀ x c, X.env.cells.lookup x = some c -> c ≠ b) /\ ∀ p ∈ X.pn ++ pins, p.1 ≠ b)
    (keep:∀ b o, b ≠ X.env.locals -> b ∉ X.fs -> b ∉ ch -> s.heap.get? b = some o -> H b = none -> h'.get? b = some o)
    (slot:∀ b o, b ≠ X.env.locals -> b ∈ X.fs -> b ∉ ch -> s.heap.get? b = some o -> H b = none -> ∃ sl, h'.get? b = some { o with slots := sl }) (free:∀ b o, b ∉ ch -> s.heap.get? b = some o -> H b = none -> H' b = none)
    (there:∀ b o, b ∉ ch -> s.heap.get? b = some o -> ∃ o', h'.get? b = some o')
    (tups:∀ b xs, H b = some (.tup xs) -> H' b = some (.tup xs)) (frzs:∀ b o u, H b = some (.frz o u) -> H' b = some (.frz o u)) (tbls:∀ b ps, H b = some (.tbl ps) -> ∃ more, H' b = some (.tbl (ps ++ more)))
    (ns:∀ m, s.heap.Ns X.env.locals m -> h'.Ns X.env.locals m) (hok:HOk X.prog X.w H' h') (hg:AllBare g') :
    Inv X pins σ H' { s with heap := h', gens := g', drawn := d', toks := t' } := by
  have neL:∀ b o, X.s₀.heap.get? b = some o -> b ≠ X.env.locals := fun b o e => Nat.ne_of_lt (Nat.lt_of_lt_of_le (Heap.lt_size e) I.ok.above)
  have neC:∀ b o, X.s₀.heap.get? b = some o -> b ∉ X.ex -> b ∉ ch := fun b o e hx hb => by
    rcases (hch b hb).1 with z | z
    · exact hx z
    · exact absurd (Nat.lt_of_lt_of_le (Heap.lt_size e) z) (Nat.lt_irrefl _)
  have cellK:∀ x c, X.env.cells.lookup x = some c -> ∀ v, s.heap.IsCell c v -> h'.IsCell c v := fun x c e v ⟨o, ho, hd⟩ => by
    have nch:c ∉ ch := fun z => (hch c z).2.2.1 x c e rfl
    by_cases hc:c ∈ X.fs
    · obtain ⟨sl, q⟩ := slot c o (I.cne x c e) hc nch ho (I.freeC x c e)
      exact ⟨_, q, hd⟩
    · exact ⟨o, keep c o (I.cne x c e) hc nch ho (I.freeC x c e), hd⟩
  refine ⟨I.ok, I.os, hg, ⟨fun b o e n hb hx => ?_, fun b o e n hb hx => ?_, fun b o e n hx => ?_, fun b o e hx => ?_, fun b xs e => tups b xs (I.base.tups b xs e), fun b o xs e => frzs b o xs (I.base.frzs b o xs e), fun b ps e => ?_⟩, ?_, fun x c e => ?_, ?_, fun x c e => ?_, fun p hp => ?_, hok, I.len⟩
  · exact keep b o (neL b o e) hb (neC b o e hx) (I.base.keep b o e n hb hx) (I.base.free b o e n hx)
  · obtain ⟨sl, e1⟩ := I.base.slot b o e n hb hx
    obtain ⟨sl', e2⟩ := slot b _ (neL b o e) hb (neC b o e hx) e1 (I.base.free b o e n hx)
    exact ⟨sl', e2⟩
  · obtain ⟨o', e1⟩ := I.base.there b o e hx
    exact free b o' (neC b o e hx) e1 (I.base.free b o e n hx)
  · obtain ⟨o', e1⟩ := I.base.there b o e hx
    exact there b o' (neC b o e hx) e1
  · obtain ⟨m1, e1⟩ := I.base.tbls b ps e
    obtain ⟨m2, e2⟩ := tbls b _ e1
    exact ⟨m1 ++ m2, by rw [e2, Array.append_assoc]⟩
  · obtain ⟨m, hn, hl⟩ := I.loc
    refine ⟨m, ns m hn, fun i x v e1 e2 e3 => ?_⟩
    obtain ⟨u, r, l⟩ := hl i x v e1 e2 e3
    refine ⟨u, r, ?_⟩
    rcases l with l | ⟨k, c, e, z⟩
    · exact .inl l
    · exact .inr ⟨k, c, e, cellK x c e _ z⟩
  · obtain ⟨v, z⟩ := I.cell x c e
    exact ⟨v, cellK x c e v z⟩
  · obtain ⟨m, ⟨o, _, _, ho, _⟩, _⟩ := I.loc
    exact free _ o (fun z => (hch _ z).2.1 rfl) ho I.free
  · obtain ⟨v, o, ho, hd⟩ := I.cell x c e
    exact free c o (fun z => (hch c z).2.2.1 x c e rfl) ho (I.freeC x c e)
  · obtain ⟨e, n, ne, nf, d⟩ := I.pin p hp
    have nch:p.1 ∉ ch := fun z => (hch p.1 z).2.2.2 p hp rfl
    exact ⟨keep p.1 p.2 ne nf nch e n, free p.1 p.2 nch e n, ne, nf, d⟩
theorem Inv.un {t':Nat} (I:Inv X pins σ H s) (u:Un X.fs [] H H' s.heap h') (hok:HOk X.prog X.w H' h') : Inv X pins σ H' { s with heap := h', toks := t' } := by
  obtain ⟨m, ⟨o, es, ep, ho, r⟩, _⟩ := id I.loc
  obtain ⟨sl, hL⟩ := u.any ho I.free (by simp)
  exact I.step (g' := s.gens) (d' := s.drawn) (ch := []) (fun _ z => nomatch z) (fun b o _ hb _ e n => u.keep b o e n hb (by simp)) (fun b o _ hb _ e n => u.slot b o e n hb (by simp)) (fun b o _ e n => u.free b o e n (by simp)) (fun b o _ e => u.there b o e (by simp)) u.tups u.frzs u.tbls (fun m' hm => by
    obtain ⟨o', es', ep', ho', r'⟩ := hm
    rw [ho] at ho'; cases ho'
    exact ⟨_, es', ep', hL, r'⟩) hok I.bare
theorem Inv.call {g':Array GenState} {t':Nat} {d':Drawn} {ch:List Addr} (I:Inv X pins σ H s) (u:Un (frs X.stack) ch H H' s.heap h') (hok:HOk X.prog X.w H' h') (hg:AllBare g')
    (hch:∀ b ∈ ch, (b ∈ X.ex \/ X.s₀.heap.objs.size <= b) /\ b ≠ X.env.locals /\ (∀ x c, X.env.cells.lookup x = some c -> c ≠ b) /\ ∀ p ∈ X.pn ++ pins, p.1 ≠ b) :
    Inv X pins σ H' { s with heap := h', gens := g', drawn := d', toks := t' } := by
  obtain ⟨m, ⟨o, es, ep, ho, r⟩, _⟩ := id I.loc
  obtain ⟨sl, hL⟩ := u.any ho I.free fun z => (hch _ z).2.1 rfl
  exact I.step (ch := ch) hch (fun b o hL hb hc e n => u.keep b o e n (fun z => (List.mem_cons.mp (I.stkSub b z)).elim hL hb) hc) (fun b o _ _ hc e n => u.any e n hc) (fun b o hc e n => u.free b o e n hc) (fun b o hc e => u.there b o e hc) u.tups u.frzs u.tbls (fun m' hm => by
    obtain ⟨o', es', ep', ho', r'⟩ := hm
    rw [ho] at ho'; cases ho'
    exact ⟨_, es', ep', hL, r'⟩) hok hg
theorem Inv.turned {t':Nat} {it:Addr} (I:Inv X pins σ H s) (k:∀ b o, b ≠ it -> s.heap.get? b = some o -> h'.get? b = some o) (hn:H it = none) (hL:it ≠ X.env.locals)
    (h1:it ∈ X.ex \/ X.s₀.heap.objs.size <= it) (h2:∀ x c, X.env.cells.lookup x = some c -> c ≠ it) (h3:∀ p ∈ X.pn ++ pins, p.1 ≠ it) : Inv X pins σ H { s with heap := h', toks := t' } := by
  have nit:∀ b u, H b = some u -> b ≠ it := fun b u e z => by rw [z, hn] at e; cases e
  refine I.step (g' := s.gens) (d' := s.drawn) (ch := [it]) (fun b hb => ?_) (fun b o _ _ hc e _ => k b o (fun z => hc (by simp [z])) e) (fun b o _ _ hc e _ => ⟨o.slots, k b o (fun z => hc (by simp [z])) e⟩) (fun _ _ _ _ n => n)
    (fun b o hc e => ⟨o, k b o (fun z => hc (by simp [z])) e⟩) (fun _ _ e => e) (fun _ _ _ e => e) (fun b ps e => ⟨#[], by rw [e]; simp⟩) (fun m hm => ?_) (fun b u e => ?_) I.bare
  · have e:b = it := by simpa using hb
    subst e
    exact ⟨h1, hL, h2, h3⟩
  · obtain ⟨o, es, ep, ho, r⟩ := hm
    exact ⟨o, es, ep, k _ o (Ne.symm hL) ho, r⟩
  · refine (I.hok b u e).stay (fun c v hc q => k c v ?_ q) (fun _ q => q) fun _ _ q => q
    rcases hc with z | z
    · rw [z]; exact nit b u e
    · exact nit c _ z
theorem Inv.tok (I:Inv X pins σ H s) (t:Nat) : Inv X pins σ H { s with toks := t } := I.un (h' := s.heap) (t' := t) Un.refl I.hok
theorem Inv.kept {t':Nat} (I:Inv X pins σ H s) (k:∀ b u, s.heap.get? b = some u -> h'.get? b = some u) : Inv X pins σ H { s with heap := h', toks := t' } := I.un (Un.kept k) (I.hok.kept k)
theorem Inv.laid {a:Addr} {o:HO} {t':Nat} (I:Inv X pins σ H s) (k:∀ b u, s.heap.get? b = some u -> h'.get? b = some u) (hp:s.heap.objs.size <= a) (new:ObjOk X.prog X.w (upd H a o) h' a o) :
    Inv X pins σ (upd H a o) { s with heap := h', toks := t' } := I.un (Un.laid k hp (I.hok.fresh hp)) (I.hok.laid k hp new)
theorem Inv.write {x e:Addr} {o:HO} {t':Nat} (I:Inv X pins σ H s) (mu:Mut (H x)) (he:e = x \/ H e = some (.own x)) (k:∀ b u, b ≠ e -> s.heap.get? b = some u -> h'.get? b = some u) (heo:∃ u, h'.get? e = some u)
    (new:ObjOk X.prog X.w (upd H x o) h' x o) : Inv X pins σ (upd H x o) { s with heap := h', toks := t' } := I.un (Un.write mu he k heo) (I.hok.write mu he k heo new)
theorem Inv.weak {σ':List (Option V)} (I:Inv X pins σ H s) (hl:σ'.length = σ.length) (w:∀ (i:Nat) v, σ'[i]? = some (some v) -> σ[i]? = some (some v)) : Inv X pins σ' H s :=
  ⟨I.ok, I.os, I.bare, I.base, let ⟨m, hn, hl'⟩ := I.loc; ⟨m, hn, fun i x v e1 e2 e3 => hl' i x v e1 (w i v e2) e3⟩, I.cell, I.free, I.freeC, I.pin, I.hok, hl.trans I.len⟩
theorem Inv.pins_of {pins':List (Addr × Obj)} (I:Inv X pins σ H s) (h:∀ p ∈ pins', s.heap.get? p.1 = some p.2 /\ H p.1 = none /\ p.1 ≠ X.env.locals /\ p.1 ∉ X.fs /\ ∀ v, p.2.data ≠ .cell v) : Inv X pins' σ H s :=
  ⟨I.ok, I.os, I.bare, I.base, I.loc, I.cell, I.free, I.freeC, fun p hp => (List.mem_append.mp hp).elim (fun z => I.pin p (List.mem_append_left _ z)) (h p), I.hok, I.len⟩
theorem nodup_ix {N:List Str} (hN:N.Nodup) {i j:Nat} {x:Str} (a:N[i]? = some x) (b:N[j]? = some x) : i = j := by
  obtain ⟨h1, e1⟩ := List.getElem?_eq_some_iff.mp a
  obtain ⟨h2, e2⟩ := List.getElem?_eq_some_iff.mp b
  exact (List.getElem_inj hN).mp (e1.trans e2.symm)
theorem store_ok2 {M:Model} {A:Around} {E:Value -> Shared -> Prop} {i:Nat} {x:Str} {v:V} {u:Value} {Q:Unit -> Shared -> Prop} (I:Inv X pins σ H s) (hN:X.N.Nodup) (hi:X.N[i]? = some x) (hx:Loc X.env.scope x) (r:RelV v u)
    (h:∀ s', Inv X pins (σ.set i (some v)) H s' -> (∃ a, Heap.SameBut a s.heap s'.heap /\ (a = X.env.locals \/ X.env.cells.lookup x = some a)) -> Q () s') (hf:X.fn x = true \/ X.env.scope.names.lookup x = some .local := by first | exact .inl rfl | exact .inr rfl | assumption) : wpAny M A (storeName X.env x u) Q E s := by
  obtain ⟨m, hn, hl⟩ := id I.loc
  have hcls:(X.env.scope.kind == .class || (X.env.scope.kind == .module && X.env.locals != X.env.globals)) = false := by rw [I.ok.kind]; rfl
  have hiσ:i < σ.length := by rw [I.len]; exact (List.getElem?_eq_some_iff.mp hi).1
  have cne := I.cne
  have tracked:∀ {a:Addr} {h':Heap}, (∃ o, s.heap.get? a = some o /\ H a = none) -> Heap.SameBut a s.heap h' -> HOk X.prog X.w H h' := fun {a h'} ha hs b ob e => by
    obtain ⟨_, _, hfree⟩ := ha
    refine (I.hok b ob e).stay (fun c w' hc q => (hs.2 c ?_).trans q) (fun _ q => q) fun _ _ q => q
    rintro rfl
    rcases hc with rfl | hc
    · rw [hfree] at e; cases e
    · rw [hfree] at hc; cases hc
  rcases hx with hk | hk
  · refine wpAny_storeName_local hk hn (fun h' hn' hs => ?_) hcls
    obtain ⟨oL, _, _, hoL, _⟩ := id hn
    refine h _ ⟨I.ok, I.os, I.bare, ⟨fun b o e n hb hx => ?_, fun b o e n hb hx => ?_, I.base.free, fun b o e hx => ?_, I.base.tups, I.base.frzs, I.base.tbls⟩, ⟨_, hn', fun j y v' e1 e2 e3 => ?_⟩, fun y c e => ?_, I.free, I.freeC, fun p hp => ?_, tracked ⟨oL, hoL, I.free⟩ hs, by simpa using I.len⟩ ⟨_, hs, .inl rfl⟩
    · exact (hs.2 b (Nat.ne_of_lt (Nat.lt_of_lt_of_le (Heap.lt_size e) I.ok.above))).trans (I.base.keep b o e n hb hx)
    · obtain ⟨sl, e1⟩ := I.base.slot b o e n hb hx
      exact ⟨sl, (hs.2 b (Nat.ne_of_lt (Nat.lt_of_lt_of_le (Heap.lt_size e) I.ok.above))).trans e1⟩
    · obtain ⟨o', e1⟩ := I.base.there b o e hx
      exact ⟨o', (hs.2 b (Nat.ne_of_lt (Nat.lt_of_lt_of_le (Heap.lt_size e) I.ok.above))).trans e1⟩
    · by_cases hj : j = i
      · subst hj
        rw [hi] at e1; cases e1
        rw [List.getElem?_set_self hiσ] at e2
        cases e2
        exact ⟨u, r, .inl ⟨hk, by simp⟩⟩
      · rw [List.getElem?_set_ne (Ne.symm hj)] at e2
        obtain ⟨u', r', q⟩ := hl j y v' e1 e2 e3
        refine ⟨u', r', ?_⟩
        rcases q with ⟨k, e⟩ | ⟨k, c, e, z⟩
        · refine .inl ⟨k, ?_⟩
          have:y ≠ x := fun e => hj (nodup_ix hN e1 (e ▸ hi))
          simp [this, e]
        · exact .inr ⟨k, c, e, z.sameBut hs (cne y c e)⟩
    · obtain ⟨w', z⟩ := I.cell y c e
      exact ⟨w', z.sameBut hs (cne y c e)⟩
    · obtain ⟨e, n, ne, nf, d⟩ := I.pin p hp
      exact ⟨(hs.2 p.1 ne).trans e, n, ne, nf, d⟩
  · have hfn:X.fn x = true := by
      rcases hf with z | z
      · exact z
      · rw [z] at hk; cases hk
    obtain ⟨c, hc⟩ := I.ok.has x (.inl hk)
    obtain ⟨w', z⟩ := I.cell x c hc
    refine wpAny_storeName_cell I.ok.kind hk hc z (fun h' hc' hs => ?_)
    obtain ⟨oc, hoc, hocd⟩ := id z
    refine h { s with heap := h' } ⟨I.ok, I.os, I.bare, ⟨fun b o e n hb hx => ?_, fun b o e n hb hx => ?_, I.base.free, fun b o e hx => ?_, I.base.tups, I.base.frzs, I.base.tbls⟩, ⟨m, hn.sameBut hs (Ne.symm (cne x c hc)), fun j y v' e1 e2 e3 => ?_⟩, fun y c' e => ?_, I.free, I.freeC, fun p hp => ?_, tracked ⟨oc, hoc, I.freeC x c hc⟩ hs, by simpa using I.len⟩ ⟨c, hs, .inr hc⟩
    · exact (hs.2 b (Nat.ne_of_lt (Nat.lt_of_lt_of_le (Heap.lt_size e) (I.ok.cab x c hfn hc)))).trans (I.base.keep b o e n hb hx)
    · obtain ⟨sl, e1⟩ := I.base.slot b o e n hb hx
      exact ⟨sl, (hs.2 b (Nat.ne_of_lt (Nat.lt_of_lt_of_le (Heap.lt_size e) (I.ok.cab x c hfn hc)))).trans e1⟩
    · obtain ⟨o', e1⟩ := I.base.there b o e hx
      exact ⟨o', (hs.2 b (Nat.ne_of_lt (Nat.lt_of_lt_of_le (Heap.lt_size e) (I.ok.cab x c hfn hc)))).trans e1⟩
    · by_cases hj : j = i
      · subst hj
        rw [hi] at e1; cases e1
        rw [List.getElem?_set_self hiσ] at e2
        cases e2
        exact ⟨u, r, .inr ⟨.inl hk, c, hc, hc'⟩⟩
      · rw [List.getElem?_set_ne (Ne.symm hj)] at e2
        obtain ⟨u', r', q⟩ := hl j y v' e1 e2 e3
        refine ⟨u', r', ?_⟩
        rcases q with q | ⟨k, c', e, z'⟩
        · exact .inl q
        · refine .inr ⟨k, c', e, z'.sameBut hs ?_⟩
          rintro rfl
          exact hj (nodup_ix hN e1 (I.ok.inj _ _ _ e hc ▸ hi))
    · by_cases hcc : c' = c
      · subst hcc; exact ⟨_, hc'⟩
      · obtain ⟨w2, z2⟩ := I.cell y c' e
        exact ⟨w2, z2.sameBut hs hcc⟩
    · obtain ⟨e, n, ne, nf, d⟩ := I.pin p hp
      refine ⟨(hs.2 p.1 ?_).trans e, n, ne, nf, d⟩
      intro q
      rw [q, hoc] at e
      have q':oc = p.2 := Option.some.inj e
      exact d w' (by rw [<- q']; exact hocd)
theorem store_ok {M:Model} {A:Around} {E:Value -> Shared -> Prop} {i:Nat} {x:Str} {v:V} {u:Value} {Q:Unit -> Shared -> Prop} (I:Inv X pins σ H s) (hN:X.N.Nodup) (hi:X.N[i]? = some x) (hx:Loc X.env.scope x) (r:RelV v u)
    (h:∀ s', Inv X pins (σ.set i (some v)) H s' -> Q () s') (hf:X.fn x = true \/ X.env.scope.names.lookup x = some .local := by first | exact .inl rfl | exact .inr rfl | assumption) : wpAny M A (storeName X.env x u) Q E s :=
  store_ok2 I hN hi hx r (fun s' I' _ => h s' I') hf
theorem Inv.call' {s':Shared} {ch:List Addr} (I:Inv X pins σ H s) (ho:s'.os = s.os) (u:Un (frs X.stack) ch H H' s.heap s'.heap) (hok:HOk X.prog X.w H' s'.heap) (hg:AllBare s'.gens)
    (hch:∀ b ∈ ch, (b ∈ X.ex \/ X.s₀.heap.objs.size <= b) /\ b ≠ X.env.locals /\ (∀ x c, X.env.cells.lookup x = some c -> c ≠ b) /\ ∀ p ∈ X.pn ++ pins, p.1 ≠ b) : Inv X pins σ H' s' := by
  obtain ⟨h', g', d', t', o'⟩ := s'
  have e:o' = s.os := ho
  subst e
  exact I.call (g' := g') (t' := t') (d' := d') u hok hg hch
end
abbrev XK := Value -> Option Addr -> Hp -> Prop
abbrev St := List (Option V)
abbrev VK := V -> Hp -> Prop
abbrev TE := St -> Hp -> VK -> Prop
abbrev TT := St -> Hp -> (Bool -> Hp -> Prop) -> Prop
abbrev TA := St -> Hp -> (List V -> Hp -> Prop) -> Prop
structure Ends where
  nx:St -> Hp -> Prop
  rt:VK
  bk:St -> Hp -> Prop := fun _ _ => False
  ct:St -> Hp -> Prop := fun _ _ => False
abbrev TS := Ends -> St -> Hp -> Prop
def EP (X:Cx) (pins:List (Addr × Obj)) (σ:St) (Q:VK) (u:Value) (s':Shared) : Prop := ∃ v H', Inv X pins σ H' s' /\ RelV v u /\ Q v H'
def TP (X:Cx) (pins:List (Addr × Obj)) (σ:St) (Q:Bool -> Hp -> Prop) (b:Bool) (s':Shared) : Prop := ∃ H', Inv X pins σ H' s' /\ Q b H'
def AP (X:Cx) (pins:List (Addr × Obj)) (σ:St) (Q:List V -> Hp -> Prop) (us:List Value) (s':Shared) : Prop := ∃ vs H', Inv X pins σ H' s' /\ Vals vs us /\ Q vs H'
def SP (X:Cx) (pins:List (Addr × Obj)) (D:Ends) (f:Flow) (s':Shared) : Prop :=
  match f with
  | .next => ∃ σ' H', Inv X pins σ' H' s' /\ D.nx σ' H'
  | .brk => ∃ σ' H', Inv X pins σ' H' s' /\ D.bk σ' H'
  | .cont => ∃ σ' H', Inv X pins σ' H' s' /\ D.ct σ' H'
  | .ret u => ∃ v σ' H', Inv X pins σ' H' s' /\ RelV v u /\ D.rt v H'
def PE (X:Cx) (e:Expr) (t:TE) : Prop :=
  ∀ (pins:List (Addr × Obj)) (s:Shared) (σ:St) (H:Hp) (Q:VK), Inv X pins σ H s -> t σ H Q -> wpAny (model X.prog X.w) X.A (eval e X.env) (EP X pins σ Q) X.xe s
def PT (X:Cx) (e:Expr) (t:TT) : Prop :=
  ∀ (pins:List (Addr × Obj)) (s:Shared) (σ:St) (H:Hp) (Q:Bool -> Hp -> Prop), Inv X pins σ H s -> t σ H Q -> wpAny (model X.prog X.w) X.A (isTrue e X.env (eval e X.env)) (TP X pins σ Q) X.xe s
def PW (X:Cx) (e:Expr) (t:TT) : Prop :=
  ∀ (whole:Sem Value) (pins:List (Addr × Obj)) (s:Shared) (σ:St) (H:Hp) (Q:Bool -> Hp -> Prop), Inv X pins σ H s -> t σ H Q -> wpAny (model X.prog X.w) X.A (isTrue e X.env whole) (TP X pins σ Q) X.xe s
theorem PW.pt {X:Cx} {e:Expr} {t:TT} (h:PW X e t) : PT X e t := h _
def PA (X:Cx) (es:List Expr) (t:TA) : Prop :=
  ∀ (pos:Pos) (pins:List (Addr × Obj)) (s:Shared) (σ:St) (H:Hp) (Q:List V -> Hp -> Prop), Inv X pins σ H s -> t σ H Q -> wpAny (model X.prog X.w) X.A (spliced (backTo pos (starEach es X.env))) (AP X pins σ Q) X.xe s
def PS (X:Cx) (st:Stmt) (t:TS) : Prop :=
  ∀ (pins:List (Addr × Obj)) (s:Shared) (σ:St) (H:Hp) (D:Ends), Inv X pins σ H s -> t D σ H -> wpAny (model X.prog X.w) X.A (exec st X.env) (SP X pins D) X.xe s
def PSs (X:Cx) (st:List Stmt) (t:TS) : Prop :=
  ∀ (pins:List (Addr × Obj)) (s:Shared) (σ:St) (H:Hp) (D:Ends), Inv X pins σ H s -> t D σ H -> wpAny (model X.prog X.w) X.A (execs st X.env) (SP X pins D) X.xe s
theorem thn {α:Type} {t:Sem α} {Q Q':α -> Shared -> Prop} {M:Model} {A:Around} {E:Value -> Shared -> Prop} {s:Shared} (h:wpAny M A t Q E s) (hQ:∀ a s, Q a s -> Q' a s) : wpAny M A t Q' E s := wpAny_mono h hQ fun _ _ x => x
end L2
namespace L2
open PySem PySem.Spec PyProof.Rows
section
variable {X:Cx}
def tVar (i:Nat) : TE := fun σ H Q => ∃ v, σ[i]? = some (some v) /\ Q v H
def tC (v:V) : TE := fun _ H Q => Q v H
theorem pe_var {i : Nat} {x : Str} {pos : Pos} (hN : X.N[i]? = some x) (hv : Vis X.env.scope x) (hd : (x == ("__debug__" : Str)) = false := by decide) (hcd : (x == ("__classdict__" : Str)) = false := by decide) : PE X (.Name x pos) (tVar i) := by
  intro pins s σ H Q I h
  obtain ⟨v, e, h⟩ := h
  obtain ⟨m, hn, hl⟩ := I.loc
  obtain ⟨u, r, l⟩ := hl i x v hN e hv
  have fin:EP X pins σ Q u s := ⟨v, H, I, r, h⟩
  rcases l with ⟨hk, hm⟩ | ⟨hk, c, hc, hcell⟩
  · exact wpAny_Name (wpAny_loadName_local I.ok.kind hk hn hm fin) hd
  · rcases hk with hk | hk
    · exact wpAny_Name (wpAny_loadName_cell I.ok.kind hk hc hcell fin) hd
    · exact wpAny_Name (wpAny_loadName_free I.ok.kind hk hc hcell fin hcd) hd
theorem pe_int {i j pos} : PE X (.Constant (.int i) j pos) (tC (.int i)) := fun _ _ _ H _ I h => wpAny_Constant_int ⟨.int i, H, I.tok _, ⟨_, rfl⟩, h⟩
theorem pe_bl {b j pos} : PE X (.Constant (.bool b) j pos) (tC (.bl b)) := fun _ _ _ H _ I h => Constant_bool ⟨.bl b, H, I, rfl, h⟩
def Gl (X:Cx) (x:Str) : Prop := X.env.kindOf x = some .globalImplicit
theorem ld_glob {E:Value -> Shared -> Prop} {pins:List (Addr × Obj)} {s:Shared} {σ:St} {H:Hp} {x:Str} {u:Value} {pos:Pos} {Q:Value -> Shared -> Prop} (I:Inv X pins σ H s) (hg:Gl X x) (hm:X.mg x = some u) (h:Q u s)
    (hd : (x == ("__debug__" : Str)) = false := by decide) : wpAny (model X.prog X.w) X.A (eval (.Name x pos) X.env) Q E s :=
  Calls.Name_function_global I.ok.kind hg (Calls.loadGlobal_global (by rw [I.ok.glob]; exact I.mod.glob.keeps I.bk) hm h) hd
theorem ld_blt {E:Value -> Shared -> Prop} {pins:List (Addr × Obj)} {s:Shared} {σ:St} {H:Hp} {x:Str} {u:Value} {pos:Pos} {Q:Value -> Shared -> Prop} (I:Inv X pins σ H s) (hg:Gl X x) (hm:X.mg x = none) (hv:bootBuiltins x = some u) (h:Q u s)
    (hn : x ≠ "__name__" := by decide) (hd : (x == ("__debug__" : Str)) = false := by decide) : wpAny (model X.prog X.w) X.A (eval (.Name x pos) X.env) Q E s := by
  obtain ⟨mb, h1, h2⟩ := I.mod.blt
  exact Calls.Name_function_global I.ok.kind hg (Calls.loadGlobal_builtin (by rw [I.ok.glob]; exact I.mod.glob.keeps I.bk) hm (by rw [I.ok.blt]; exact h1.keeps I.bk) ((h2 x hn).trans hv) h) hd
theorem pe_bltn {x : Str} {v : V} {u : Value} {pos : Pos} (hg : Gl X x) (hm : X.mg x = none) (hv : bootBuiltins x = some u) (r : RelV v u) (hn : x ≠ "__name__" := by decide) (hd : (x == ("__debug__" : Str)) = false := by decide) : PE X (.Name x pos) (tC v) :=
  fun _ _ _ H _ I h => ld_blt I hg hm hv ⟨v, H, I, r, h⟩ hn hd
variable {a b:Expr} {ta tb:TE} {pos:Pos}
variable {tA tB':TT} {rest:List Expr}
def tAnd (t u:TT) : TT := fun σ H Q => t σ H fun c H1 => if c = true then u σ H1 Q else Q false H1
def tOr (t u:TT) : TT := fun σ H Q => t σ H fun c H1 => if c = true then Q true H1 else u σ H1 Q
def tNot (t:TT) : TT := fun σ H Q => t σ H fun c H1 => Q (!c) H1
theorem pw_and1 (ha:PT X a tA) : PW X (.BoolOp .And [a] pos) tA := by
  intro wh pins s σ H Q I h
  refine isTrue_and (thn (ha pins s σ H Q I h) fun c s1 e => ?_)
  cases c with
  | true => exact isTrue_and_nil e
  | false => exact e
theorem pw_or1 (ha:PT X a tA) : PW X (.BoolOp .Or [a] pos) tA := by
  intro wh pins s σ H Q I h
  refine isTrue_or (thn (ha pins s σ H Q I h) fun c s1 e => ?_)
  cases c with
  | false => exact isTrue_or_nil e
  | true => exact e
theorem pw_and (ha:PT X a tA) (hb:PW X (.BoolOp .And (b :: rest) pos) tB') : PW X (.BoolOp .And (a :: b :: rest) pos) (tAnd tA tB') := by
  intro wh pins s σ H Q I h
  refine isTrue_and (thn (ha pins s σ H _ I h) fun c s1 ⟨H1, I1, q1⟩ => ?_)
  cases c with
  | true => exact hb wh pins s1 σ H1 Q I1 q1
  | false => exact ⟨H1, I1, q1⟩
theorem pw_or (ha:PT X a tA) (hb:PW X (.BoolOp .Or (b :: rest) pos) tB') : PW X (.BoolOp .Or (a :: b :: rest) pos) (tOr tA tB') := by
  intro wh pins s σ H Q I h
  refine isTrue_or (thn (ha pins s σ H _ I h) fun c s1 ⟨H1, I1, q1⟩ => ?_)
  cases c with
  | true => exact ⟨H1, I1, q1⟩
  | false => exact hb wh pins s1 σ H1 Q I1 q1
theorem pt_not (ha:PT X a tA) : PT X (.UnaryOp .Not a pos) (tNot tA) := by
  intro pins s σ H Q I h
  exact isTrue_not (ha pins s σ H (fun c H1 => Q (!c) H1) I h)
end
end L2
namespace L2
open PySem PySem.Spec PyProof.Rows
def SqL (K:PySem.W.Frag) (H:Hp) (a:Addr) (xs:List V) : Prop :=
  Rd H a (.lst xs) \/
    ∃ (o : Obj) (its : Array Value) (n : Nat), K.lookup a = some o /\ o.cls = .type "list" /\ o.dict = none /\ o.data = .seq its n /\ its.size <= sizeLine /\ Vals xs its.toList
def SqT (K:PySem.W.Frag) (H:Hp) (a:Addr) (xs:List V) : Prop :=
  Rd H a (.tup xs) \/
    ∃ (o : Obj) (its : Array Value) (n : Nat), K.lookup a = some o /\ o.cls = .type "tuple" /\ o.data = .seq its n /\ its.size <= sizeLine /\ Vals xs its.toList
def absV:Value -> Option V
  | .none => some .non
  | .bool b => some (.bl b)
  | .int i _ => some (.int i)
  | .str x _ => some (.str x)
  | .bytes b _ => some (.byt b)
  | .float b _ => some (.flt b)
  | .ref a => some (.ref a)
  | .type n => some (.ty n)
  | _ => none
theorem RelV.abs {x:V} {u:Value} (r:RelV x u) : absV u = some x := by
  cases x with
  | non => cases r; rfl
  | bl _ => cases r; rfl
  | int _ => obtain ⟨t, rfl⟩ := r; rfl
  | str _ => obtain ⟨t, rfl⟩ := r; rfl
  | byt _ => obtain ⟨t, rfl⟩ := r; rfl
  | flt _ => obtain ⟨t, rfl⟩ := r; rfl
  | ref _ => cases r; rfl
  | ty _ => cases r; rfl
theorem RelV.inj {x y:V} {u:Value} (r:RelV x u) (q:RelV y u) : x = y := Option.some.inj (r.abs.symm.trans q.abs)
theorem Vals.inj:∀ {xs ys:List V} {us:List Value}, Vals xs us -> Vals ys us -> xs = ys
  | _, _, _, .nil, .nil => rfl
  | _, _, _, .cons r t, .cons r' t' => by rw [r.inj r', Vals.inj t t']
section
variable {X:Cx} {pins:List (Addr × Obj)} {σ:St} {H:Hp} {s:Shared} {a:Addr} {xs ys:List V}
theorem SqL.of {K:PySem.W.Frag} (h:H a = some (.lst xs)) : SqL K H a xs := .inl (.inl h)
theorem SqT.of {K:PySem.W.Frag} (h:H a = some (.tup xs)) : SqT K H a xs := .inl (.inl h)
theorem Inv.list (I:Inv X pins σ H s) (h:SqL X.K H a xs) : ∃ its:List Value, Vals xs its /\ PlainL s.heap a its.toArray /\ xs.length <= sizeLine := by
  rcases h with h | ⟨o, its, n, hk, hc, hd, hs, hz, r⟩
  · obtain ⟨z, its, n, r, e⟩ := h.ok I.hok
    exact ⟨its, r, ⟨_, n, e, rfl, rfl, rfl⟩, z⟩
  · refine ⟨its.toList, r, ⟨o, n, I.kIn a o hk, hc, hd, by simpa using hs⟩, ?_⟩
    have e := r.length
    simp only [Array.length_toList] at e
    omega
theorem Inv.tuple (I:Inv X pins σ H s) (h:SqT X.K H a xs) : ∃ its:List Value, Vals xs its /\ IsTup s.heap a its.toArray /\ xs.length <= sizeLine := by
  rcases h with h | ⟨o, its, n, hk, hc, hs, hz, r⟩
  · obtain ⟨z, its, r, p⟩ := h.ok I.hok
    exact ⟨its, r, p, z⟩
  · refine ⟨its.toList, r, ⟨o, I.kIn a o hk, hc, n, by simpa using hs⟩, ?_⟩
    have e := r.length
    simp only [Array.length_toList] at e
    omega
theorem Inv.list_inj (I:Inv X pins σ H s) (h:SqL X.K H a xs) (h':SqL X.K H a ys) : xs = ys := by
  obtain ⟨its, r, ⟨o, n, e, _, _, d⟩, _⟩ := I.list h
  obtain ⟨its', r', ⟨o', n', e', _, _, d'⟩, _⟩ := I.list h'
  rw [e] at e'; cases e'
  rw [d] at d'
  injection d' with d1 _
  have:its = its' := by simpa using congrArg Array.toList d1
  subst this
  exact r.inj r'
theorem Inv.tuple_inj (I:Inv X pins σ H s) (h:SqT X.K H a xs) (h':SqT X.K H a ys) : xs = ys := by
  obtain ⟨its, r, ⟨o, e, _, n, d⟩, _⟩ := I.tuple h
  obtain ⟨its', r', ⟨o', e', _, n', d'⟩, _⟩ := I.tuple h'
  rw [e] at e'; cases e'
  rw [d] at d'
  injection d' with d1 _
  have:its = its' := by simpa using congrArg Array.toList d1
  subst this
  exact r.inj r'
end
abbrev Cx.wish (X:Cx) (E:Value -> Shared -> Prop) : Cx := { X with xe := E }
abbrev Cx.nox (X:Cx) : Cx := X.wish fun _ _ => False
theorem Cx.Ok.wish {X:Cx} (ok:X.Ok) (E:Value -> Shared -> Prop) : (X.wish E).Ok :=
  ⟨ok.mod, ok.kind, ok.glob, ok.blt, ok.above, ok.inj, ok.has, ok.cab, ok.hd, ok.frames, ok.stk, ok.exf, ok.bs, ok.bsz, ok.noex, ok.exfs, ok.funs, ok.frf⟩
theorem Cx.Ok.unwish {X:Cx} {E:Value -> Shared -> Prop} (ok:(X.wish E).Ok) : X.Ok :=
  ⟨ok.mod, ok.kind, ok.glob, ok.blt, ok.above, ok.inj, ok.has, ok.cab, ok.hd, ok.frames, ok.stk, ok.exf, ok.bs, ok.bsz, ok.noex, ok.exfs, ok.funs, ok.frf⟩
section
variable {X:Cx} {pins:List (Addr × Obj)} {σ:St} {H:Hp} {s:Shared} {E:Value -> Shared -> Prop}
theorem Inv.wish (I:Inv X pins σ H s) (E:Value -> Shared -> Prop) : Inv (X.wish E) pins σ H s := ⟨I.ok.wish E, I.os, I.bare, I.base, I.loc, I.cell, I.free, I.freeC, I.pin, I.hok, I.len⟩
theorem Inv.unwish (I:Inv (X.wish E) pins σ H s) : Inv X pins σ H s := ⟨I.ok.unwish, I.os, I.bare, I.base, I.loc, I.cell, I.free, I.freeC, I.pin, I.hok, I.len⟩
theorem SP.unwish {D:Ends} {f:Flow} {s':Shared} (h:SP (X.wish E) pins D f s') : SP X pins D f s' := by
  cases f with
  | next => obtain ⟨σ', H', I, q⟩ := h; exact ⟨σ', H', I.unwish, q⟩
  | brk => obtain ⟨σ', H', I, q⟩ := h; exact ⟨σ', H', I.unwish, q⟩
  | cont => obtain ⟨σ', H', I, q⟩ := h; exact ⟨σ', H', I.unwish, q⟩
  | ret u => obtain ⟨v, σ', H', I, r, q⟩ := h; exact ⟨v, σ', H', I.unwish, r, q⟩
theorem PE.nox {e:Expr} {t:TE} (h:PE X.nox e t) : PE X e t := fun pins s σ H Q I hw =>
  wpAny_mono (h pins s σ H Q (I.wish _) hw) (fun _ _ ⟨v, H', I', r, q⟩ => ⟨v, H', I'.unwish, r, q⟩) fun _ _ z => False.elim z
theorem PT.nox {e:Expr} {t:TT} (h:PT X.nox e t) : PT X e t := fun pins s σ H Q I hw =>
  wpAny_mono (h pins s σ H Q (I.wish _) hw) (fun _ _ ⟨H', I', q⟩ => ⟨H', I'.unwish, q⟩) fun _ _ z => False.elim z
theorem PSs.nox {st:List Stmt} {t:TS} (h:PSs X.nox st t) : PSs X st t := fun pins s σ H D I hw =>
  wpAny_mono (h pins s σ H D (I.wish _) hw) (fun _ _ q => q.unwish) fun _ _ z => False.elim z
end
section
variable {X:Cx} {st:Stmt} {rest:List Stmt} {t u:TS} {e:Expr} {te:TE} {pos:Pos}
def tNext:TS := fun D σ H => D.nx σ H
def tSeq (t u:TS) : TS := fun D σ H => t { D with nx := u D } σ H
theorem pss_nil:PSs X [] tNext := fun _ _ σ H _ I h => wpAny_execs_nil ⟨σ, H, I, h⟩
theorem pss_cons (h1:PS X st t) (h2:PSs X rest u) : PSs X (st :: rest) (tSeq t u) := by
  intro pins s σ H D I h
  refine wpAny_execs_cons (thn (h1 pins s σ H { D with nx := u D } I h) fun f s1 q => ?_)
  cases f with
  | next =>
    obtain ⟨σ', H', I', q⟩ := q
    exact h2 pins s1 σ' H' D I' q
  | ret v => exact q
  | brk => exact q
  | cont => exact q
theorem pss_one (h1:PS X st t) : PSs X [st] t := by
  intro pins s σ H D I h
  refine wpAny_execs_cons (thn (h1 pins s σ H D I h) fun f s1 q => ?_)
  cases f with
  | next => exact wpAny_execs_nil q
  | ret v => exact q
  | brk => exact q
  | cont => exact q
theorem Inv.quiet {pins:List (Addr × Obj)} {σ:St} {H:Hp} {s:Shared} (I:Inv X pins σ H s) : interactive X.env = false := by simp [interactive, I.ok.kind]
def tDrop (te:TE) : TS := fun D σ H => te σ H fun _ H1 => D.nx σ H1
theorem ps_expr (he:PE X e te) (hs:swapsWith e none pos.line X.env = pure false := by rfl) : PS X (.Expr e pos) (tDrop te) := by
  intro pins s σ H D I h
  exact wpAny_Expr_any (thn (he pins s σ H _ I h) fun v s1 ⟨x, H1, I1, r1, q1⟩ => ⟨σ, H1, I1, q1⟩) I.quiet hs
def tRet (te:TE) : TS := fun D σ H => te σ H D.rt
theorem ps_ret (he:PE X e te) : PS X (.Return (some e) pos) (tRet te) := by
  intro pins s σ H D I h
  exact wpAny_Return_some (thn (he pins s σ H _ I h) fun v s1 ⟨x, H1, I1, r1, q1⟩ => ⟨x, σ, H1, I1, r1, q1⟩)
def tIfS (c:TT) (t u:TS) : TS := fun D σ H => c σ H fun b H1 => if b = true then t D σ H1 else u D σ H1
theorem ps_if {c:Expr} {a b:List Stmt} {tc:TT} (hc:PT X c tc) (ha:PSs X a t) (hb:PSs X b u) : PS X (.If c a b pos) (tIfS tc t u) := by
  intro pins s σ H D I h
  refine wpAny_If (thn (hc pins s σ H _ I h) fun d s1 ⟨H1, I1, q1⟩ => ?_)
  cases d with
  | true => exact ha pins s1 σ H1 D I1 q1
  | false => exact hb pins s1 σ H1 D I1 q1
end
abbrev TG := V -> St -> Hp -> (St -> Hp -> Prop) -> Prop
abbrev TGs := List V -> St -> Hp -> (St -> Hp -> Prop) -> Prop
def PG (X:Cx) (target:Expr) (t:TG) : Prop :=
  ∀ (pins:List (Addr × Obj)) (s:Shared) (σ:St) (H:Hp) (v:V) (u:Value) (Q:St -> Hp -> Prop), Inv X pins σ H s -> RelV v u -> t v σ H Q ->
    wpAny (model X.prog X.w) X.A (assign target X.env u) (fun _ s' => ∃ σ' H', Inv X pins σ' H' s' /\ Q σ' H') X.xe s
def PGs (X:Cx) (ts:List Expr) (t:TGs) : Prop :=
  ∀ (pins:List (Addr × Obj)) (s:Shared) (σ:St) (H:Hp) (vs:List V) (us:List Value) (Q:St -> Hp -> Prop), Inv X pins σ H s -> Vals vs us -> t vs σ H Q ->
    wpAny (model X.prog X.w) X.A (assignInOrder ((assignEach ts X.env).map (·.2)) us) (fun _ s' => ∃ σ' H', Inv X pins σ' H' s' /\ Q σ' H') X.xe s
abbrev TSet := V -> V -> V -> Hp -> (Hp -> Prop) -> Prop
def PSet (X:Cx) (t:TSet) : Prop :=
  ∀ (pins:List (Addr × Obj)) (s:Shared) (σ:St) (H:Hp) (o i v:V) (ov iv u:Value) (Q:Hp -> Prop), Inv X pins σ H s -> RelV o ov -> RelV i iv -> RelV v u -> t o i v H Q ->
    wpAny (model X.prog X.w) X.A (setItem ov iv u) (fun _ s' => ∃ H', Inv X pins σ H' s' /\ Q H') X.xe s
section
variable {X:Cx} {pos:Pos}
def gName (i:Nat) : TG := fun v σ H Q => Q (σ.set i (some v)) H
theorem pg_name {i:Nat} {x:Str} (hN:X.N.Nodup) (hi:X.N[i]? = some x) (hx:Loc X.env.scope x) (hf:X.fn x = true \/ X.env.scope.names.lookup x = some .local := by first | exact .inl rfl | exact .inr rfl | assumption) : PG X (.Name x pos) (gName i) := by
  intro pins s σ H v u Q I r h
  exact wpAny_assign_Name (store_ok I hN hi hx r (fun s' I' => ⟨_, H, I', h⟩) hf)
def gNil:TGs := fun vs σ H Q => vs = [] /\ Q σ H
def gCons (t:TG) (u:TGs) : TGs := fun vs σ H Q => ∃ v r, vs = v :: r /\ t v σ H fun σ' H' => u r σ' H' Q
theorem pgs_nil:PGs X [] gNil := by
  intro pins s σ H vs us Q I r h
  obtain ⟨e, h⟩ := h
  subst e
  cases r
  exact assignInOrder_nil ⟨σ, H, I, h⟩
theorem pgs_cons {e:Expr} {es:List Expr} {t:TG} {u:TGs} (h1:PG X e t) (h2:PGs X es u)
    (hs:(assignEach (e :: es) X.env).map (·.2) = assign e X.env :: (assignEach es X.env).map (·.2) := by rfl) : PGs X (e :: es) (gCons t u) := by
  intro pins s σ H vs us Q I r h
  obtain ⟨v, vr, e1, h⟩ := h
  subst e1
  cases r with
  | cons r rr =>
    rw [hs]
    refine assignInOrder_cons (thn (h1 pins s σ H _ _ _ I r h) fun _ s1 ⟨σ1, H1, I1, q1⟩ => ?_)
    exact h2 pins s1 σ1 H1 _ _ Q I1 rr q1
def gTup (K:PySem.W.Frag) (n:Nat) (t:TGs) : TG := fun v σ H Q => ∃ a xs, v = .ref a /\ SqT K H a xs /\ xs.length = n /\ t xs σ H Q
theorem pg_tup {es:List Expr} {k:Nat} {t:TGs} {n:Nat} (hc:X.calm = true) (h:PGs X es t)
    (hn:(assignEach es X.env).length = n := by rfl) (hst:(assignEach es X.env).findIdx? (·.1) = none := by rfl) : PG X (.Tuple es k pos) (gTup X.K n t) := by
  intro pins s σ H v u Q I r hw
  obtain ⟨a, xs, e1, hq, hl, hw⟩ := hw
  subst e1
  cases r
  obtain ⟨its, rv, ht, hz⟩ := I.tuple hq
  refine assign_Tuple_tuple (I.ok.hd hc) ht (by simp [hn, <- hl, rv.length]) hst fun h' hx => ?_
  have I1:Inv X pins σ H { s with heap := h' } := I.kept (t' := s.toks) fun b o e => hx b o (Nat.ne_of_lt (Heap.lt_size e)) e
  exact h pins _ σ H xs _ Q I1 (by simpa using rv) hw
def gSub (to ti:TE) (t:TSet) : TG := fun v σ H Q => to σ H fun o H1 => ti σ H1 fun i H2 => t o i v H2 fun H3 => Q σ H3
theorem pg_sub {o i:Expr} {to ti:TE} {t:TSet} (ho:PE X o to) (hi:PE X i ti) (hs:PSet X t)
    (ha:∀ v, assign (.Subscript o i pos) X.env v = (do
      let ov <- holding [v] (eval o X.env)
      let iv <- holding [v, ov] (eval i X.env)
      standAt pos
      holding [v, ov, iv] (setItem ov iv v)
      release [v, ov, iv] []) := by intro _; rfl) : PG X (.Subscript o i pos) (gSub to ti t) := by
  intro pins s σ H v u Q I r h
  rw [ha]
  refine wpAny_bind (wpAny_holding (thn (ho pins s σ H _ I h) fun ov s1 ⟨x, H1, I1, r1, q1⟩ => ?_))
  refine wpAny_bind (wpAny_holding (thn (hi pins s1 σ H1 _ I1 q1) fun iv s2 ⟨y, H2, I2, r2, q2⟩ => ?_))
  refine wpAny_bind (wpAny_standAt (wpAny_bind (wpAny_holding (thn (hs pins s2 σ H2 x y v ov iv u _ I2 r1 r2 r q2) fun _ s3 ⟨H3, I3, q3⟩ => ?_))))
  exact wpAny_release ⟨σ, H3, I3, q3⟩
def tAsg (te:TE) (g:TG) : TS := fun D σ H => te σ H fun x H1 => g x σ H1 D.nx
theorem ps_asg {tg e:Expr} {te:TE} {g:TG} (he:PE X e te) (hg:PG X tg g) (hs:swapsWithSole [tg] e pos.line X.env = pure false := by rfl) (hw:swappedStores [tg] e X.env = pure none := by rfl)
    (h1:(assignEach [tg] X.env).map (·.2) = [assign tg X.env] := by rfl) : PS X (.Assign [tg] e pos) (tAsg te g) := by
  intro pins s σ H D I h
  refine wpAny_Assign_stores (thn (he pins s σ H _ I h) fun v s1 ⟨x, H1, I1, r1, q1⟩ => ?_) hs hw
  rw [h1]
  exact thn (hg pins s1 σ H1 x v _ I1 r1 q1) fun _ s2 q => q
theorem ps_set {i:Nat} {x:Str} {e:Expr} {te:TE} {pos':Pos} (hN:X.N.Nodup) (hi:X.N[i]? = some x) (hx:Loc X.env.scope x) (he:PE X e te) (hs:swapsWith e (some (.Name x pos')) pos.line X.env = pure false := by rfl) (hf:X.fn x = true \/ X.env.scope.names.lookup x = some .local := by first | exact .inl rfl | exact .inr rfl | assumption) :
    PS X (.Assign [.Name x pos'] e pos) (tAsg te (gName i)) := by
  intro pins s σ H D I h
  refine wpAny_Assign_Name (thn (he pins s σ H _ I h) fun v s1 ⟨y, H1, I1, r1, q1⟩ => ?_) hs
  exact store_ok I1 hN hi hx r1 (fun s2 I2 => ⟨_, H1, I2, q1⟩) hf
end
section
variable {X:Cx} {pos:Pos}
end
structure It where
  go:Nat -> Hp -> Prop
  yld:Nat -> Hp -> V -> Hp -> Prop
  stop:Nat -> Hp -> Prop
def FpOk (X:Cx) (pins:List (Addr × Obj)) (H:Hp) (b:Addr) : Prop :=
  H b = none /\ b ≠ X.env.locals /\ b ∉ X.fs /\ (b ∈ X.ex \/ X.s₀.heap.objs.size <= b) /\ (∀ x c, X.env.cells.lookup x = some c -> c ≠ b) /\ ∀ p ∈ X.pn ++ pins, p.1 ≠ b
theorem Inv.fpOk {X:Cx} {pins:List (Addr × Obj)} {σ:St} {H H':Hp} {s:Shared} {b:Addr} (I:Inv X pins σ H s) (hb:s.heap.objs.size <= b) (hn:H' b = none) : FpOk X pins H' b := by
  refine ⟨hn, Nat.ne_of_gt (Nat.lt_of_lt_of_le I.lt hb), I.nofs hb, .inr (Nat.le_trans I.sz hb), fun x c e z => ?_, fun p hp z => ?_⟩
  · obtain ⟨v, q⟩ := I.cell x c e
    exact absurd (Nat.lt_of_lt_of_le q.lt (by rw [z]; exact hb)) (Nat.lt_irrefl _)
  · exact absurd (Nat.lt_of_lt_of_le (Heap.lt_size (I.pin p hp).1) (by rw [z]; exact hb)) (Nat.lt_irrefl _)
structure Turn (P:Program) (w:World) (K:PySem.W.Frag) (tg:Expr) (J:It) (fp:List Addr) (it:Addr) (tn:Nat -> Heap -> Prop) : Prop where
  mem:it ∈ fp
  obj:∀ i h, tn i h -> ∀ b ∈ fp, ∃ o, h.get? b = some o /\ ∀ v, o.data ≠ .cell v
  keep:∀ i h h', tn i h -> (∀ b ∈ fp, ∀ o, h.get? b = some o -> h'.get? b = some o) -> tn i h'
  item:∀ (X:Cx), X.prog = P -> X.w = w -> X.K = K -> X.calm = true -> ∀ (i:Nat) (pins:List (Addr × Obj)) (s:Shared) (σ:St) (H:Hp) (E:Value -> Shared -> Prop), Inv X pins σ H s -> (∀ b ∈ fp, FpOk X pins H b) -> tn i s.heap -> J.go i H ->
    wpAny (model P w) X.A (pyNext (.ref it)) (fun r s1 => ∃ u, r = some u /\
      wpAny (model P w) X.A (letOwnedTupleGo tg (.ref it) u) (fun _ s2 => ∃ x H', Inv X pins σ H' s2 /\ RelV x u /\ J.yld i H x H' /\ tn (i + 1) s2.heap /\ ∀ b ∈ fp, H' b = none) E s1) E s
  done:∀ (X:Cx), X.prog = P -> X.w = w -> X.K = K -> X.calm = true -> ∀ (i:Nat) (pins:List (Addr × Obj)) (s:Shared) (σ:St) (H:Hp) (E:Value -> Shared -> Prop), Inv X pins σ H s -> (∀ b ∈ fp, FpOk X pins H b) -> tn i s.heap -> J.stop i H ->
    wpAny (model P w) X.A (pyNext (.ref it)) (fun r s1 => r = none /\ Inv X pins σ H s1) E s
  self:∀ (A:Around) (i:Nat) (s:Shared) (Q:Value -> Shared -> Prop) (E:Value -> Shared -> Prop), tn i s.heap -> Q (.ref it) s -> wpAny (model P w) A (pyIter (.ref it)) Q E s
abbrev TI := St -> Hp -> (It -> Hp -> Prop) -> Prop
def PIE (X:Cx) (pins:List (Addr × Obj)) (σ:St) (tg:Expr) (R:It -> Hp -> Prop) (itv:Value) (s2:Shared) : Prop :=
  ∃ (it:Addr) (fp:List Addr) (tn:Nat -> Heap -> Prop) (J:It) (H':Hp), itv = .ref it /\ Inv X pins σ H' s2 /\ Turn X.prog X.w X.K tg J fp it tn /\ tn 0 s2.heap /\ (∀ b ∈ fp, FpOk X pins H' b) /\ R J H'
def PI (X:Cx) (tg iter:Expr) (wi:TI) : Prop :=
  ∀ (pins:List (Addr × Obj)) (s:Shared) (σ:St) (H:Hp) (R:It -> Hp -> Prop), Inv X pins σ H s -> wi σ H R ->
    wpAny (model X.prog X.w) X.A (eval iter X.env) (fun v s1 => wpAny (model X.prog X.w) X.A (pyIter v) (PIE X pins σ tg R) X.xe s1) X.xe s
theorem go_of {M:Model} {A:Around} {E:Value -> Shared -> Prop} {s:Shared} {tg:Expr} {it:Addr} {u:Value} {o:Obj} {n:String} {vs:Array Value} {Q:Unit -> Shared -> Prop} (ho:s.heap.get? it = some o) (hc:o.cls = .type n) (hd:o.data = .fields vs)
    (hn : ["enumerate", "zip", "dict_itemiterator", "dict_reverseitemiterator", "odict_iterator", "itertools.zip_longest", "itertools.pairwise"].contains n = false) (hQ : Q () s) : wpAny M A (letOwnedTupleGo tg (.ref it) u) Q E s := by
  unfold letOwnedTupleGo
  cases tg <;> first
    | exact wpAny_pure hQ
    | (cases u <;> first
        | exact wpAny_pure hQ
        | (refine wpAny_bind (wpAny_load ho ?_)
           rw [hc, hd]
           show wpAny M A (if (["enumerate", "zip", "dict_itemiterator", "dict_reverseitemiterator", "odict_iterator", "itertools.zip_longest", "itertools.pairwise"].contains n && vs[0]? == some (rawInt _)) = true then _ else _) Q E s
           rw [if_neg (by intro h; rw [hn, Bool.false_and] at h; cases h)]
           exact wpAny_pure hQ))
def Itl (K:PySem.W.Frag) (a:Addr) : It :=
  ⟨fun i H => ∃ xs x, SqL K H a xs /\ xs[i]? = some x, fun i H x H' => H' = H /\ ∀ xs, SqL K H a xs -> xs[i]? = some x, fun i H => ∃ xs, SqL K H a xs /\ xs.length <= i⟩
def Itt (K:PySem.W.Frag) (a:Addr) : It :=
  ⟨fun i H => ∃ xs x, SqT K H a xs /\ xs[i]? = some x, fun i H x H' => H' = H /\ ∀ xs, SqT K H a xs -> xs[i]? = some x, fun i H => ∃ xs, SqT K H a xs /\ xs.length <= i⟩
def Itr (lo:Int) (n:Nat) : It := ⟨fun i _ => i < n, fun i H x H' => H' = H /\ x = .int (lo + i), fun i _ => n <= i⟩
theorem turn_list {P:Program} {w:World} {K:PySem.W.Frag} {tg:Expr} (a it:Addr) : Turn P w K tg (Itl K a) [it] it (fun i h => h.IsListIter it a i) where
  mem := by simp
  obj := fun i h st b hb => by
    have e:b = it := by simpa using hb
    subst e
    obtain ⟨o, e, c, d⟩ := st
    exact ⟨o, e, fun v z => by rw [d] at z; cases z⟩
  keep := fun i h h' st k => st.at fun o e => k it (by simp) o e
  item := by
    intro X hP hw hK hc i pins s σ H E I hf st hg
    subst hP hw hK
    obtain ⟨xs, x, hq, hx⟩ := hg
    obtain ⟨its, rv, p, hz⟩ := I.list hq
    obtain ⟨u, hu, ru⟩ := rv.get hx
    obtain ⟨f0, f1, f2, f3, f4, f5⟩ := hf it (by simp)
    refine wpAny_pyNext_list_item st p.isList (x := u) (by simpa using hu) fun h' st' sb => ?_
    have I1:Inv X pins σ H { s with heap := h' } := I.turned (t' := s.toks) (fun b o hb e => (sb.2 b hb).trans e) f0 f1 f3 f4 f5
    obtain ⟨o, e, c, d⟩ := id st'
    exact ⟨u, rfl, go_of (s := { s with heap := h' }) e c d (by decide) ⟨x, H, I1, ru, ⟨rfl, fun ys hy => by rw [I.list_inj hy hq]; exact hx⟩, st', fun b hb => (hf b hb).1⟩⟩
  done := by
    intro X hP hw hK hc i pins s σ H E I hf st hg
    subst hP hw hK
    obtain ⟨xs, hq, hx⟩ := hg
    obtain ⟨its, rv, p, hz⟩ := I.list hq
    obtain ⟨f0, f1, f2, f3, f4, f5⟩ := hf it (by simp)
    have hl := rv.length
    exact wpAny_pyNext_list_end (I.ok.hd hc) st p.isList (by simp; omega) fun h' eb => ⟨rfl, I.turned (t' := s.toks) (fun b o hb e => eb b o hb e) f0 f1 f3 f4 f5⟩
  self := fun _ _ _ _ _ st h => wpAny_pyIter_listiter st h
theorem turn_tuple {P:Program} {w:World} {K:PySem.W.Frag} {tg:Expr} (a it:Addr) : Turn P w K tg (Itt K a) [it] it (fun i h => h.IsTupleIter it a i) where
  mem := by simp
  obj := fun i h st b hb => by
    have e:b = it := by simpa using hb
    subst e
    obtain ⟨o, e, c, d⟩ := st
    exact ⟨o, e, fun v z => by rw [d] at z; cases z⟩
  keep := fun i h h' st k => st.at fun o e => k it (by simp) o e
  item := by
    intro X hP hw hK hc i pins s σ H E I hf st hg
    subst hP hw hK
    obtain ⟨xs, x, hq, hx⟩ := hg
    obtain ⟨its, rv, p, hz⟩ := I.tuple hq
    obtain ⟨u, hu, ru⟩ := rv.get hx
    obtain ⟨f0, f1, f2, f3, f4, f5⟩ := hf it (by simp)
    refine wpAny_pyNext_tuple_item st (show s.heap.IsTuple a its.toArray from p) (x := u) (by simpa using hu) fun h' st' sb => ?_
    have I1:Inv X pins σ H { s with heap := h' } := I.turned (t' := s.toks) (fun b o hb e => (sb.2 b hb).trans e) f0 f1 f3 f4 f5
    obtain ⟨o, e, c, d⟩ := id st'
    exact ⟨u, rfl, go_of (s := { s with heap := h' }) e c d (by decide) ⟨x, H, I1, ru, ⟨rfl, fun ys hy => by rw [I.tuple_inj hy hq]; exact hx⟩, st', fun b hb => (hf b hb).1⟩⟩
  done := by
    intro X hP hw hK hc i pins s σ H E I hf st hg
    subst hP hw hK
    obtain ⟨xs, hq, hx⟩ := hg
    obtain ⟨its, rv, p, hz⟩ := I.tuple hq
    obtain ⟨f0, f1, f2, f3, f4, f5⟩ := hf it (by simp)
    have hl := rv.length
    exact wpAny_pyNext_tuple_end (I.ok.hd hc) st (show s.heap.IsTuple a its.toArray from p) (by simp; omega) fun h' eb => ⟨rfl, I.turned (t' := s.toks) (fun b o hb e => eb b o hb e) f0 f1 f3 f4 f5⟩
  self := fun _ _ _ _ _ st h => wpAny_pyIter_tupleiter st h
theorem turn_range {P:Program} {w:World} {K:PySem.W.Frag} {tg:Expr} (it:Addr) (lo:Int) (n:Nat) : Turn P w K tg (Itr lo n) [it] it (fun i h => IsRangeIter h it (lo + (i:Nat) * 1) ((n:Int) - (i:Nat)) 1) where
  mem := by simp
  obj := fun i h st b hb => by
    have e:b = it := by simpa using hb
    subst e
    exact ⟨_, st, fun v z => by
      have z':Data.fields _ = Data.cell v := z
      cases z'⟩
  keep := fun i h h' st k => k it (by simp) _ st
  item := by
    intro X hP hw hK hc i pins s σ H E I hf st hg
    subst hP hw hK
    obtain ⟨f0, f1, f2, f3, f4, f5⟩ := hf it (by simp)
    have W := Walks.range (prog := X.prog) (w := X.w) (I.ok.hd hc) it lo 1 n
    refine W.item i s _ _ hg st fun v h' tk hv st' kk => ?_
    obtain ⟨t, rfl⟩ := hv
    have I1:Inv X pins σ H { s with heap := h', toks := tk } := I.turned (fun b o hb e => kk b o (by simpa using hb) e) f0 f1 f3 f4 f5
    refine ⟨_, rfl, go_of (s := { s with heap := h', toks := tk }) (n := "range_iterator") st' rfl rfl (by decide) ⟨.int (lo + i), H, I1, ⟨t, ?_⟩, ⟨rfl, rfl⟩, st', fun b hb => (hf b hb).1⟩⟩
    rw [Int.mul_one]
  done := by
    intro X hP hw hK hc i pins s σ H E I hf st hg
    subst hP hw hK
    obtain ⟨f0, f1, f2, f3, f4, f5⟩ := hf it (by simp)
    exact wpAny_pyNext_range_end (I.ok.hd hc) st (by have:n <= i := hg; omega) fun h' eb => ⟨rfl, I.turned (t' := s.toks) (fun b o hb e => eb b o hb e) f0 f1 f3 f4 f5⟩
  self := fun _ _ _ _ _ st h => wpAny_pyIter_rangeiter st h
end L2
namespace L2
open PySem PySem.Spec PyProof.Rows
section
variable {X:Cx} {tg:Expr}
theorem range_it {pins:List (Addr × Obj)} {σ:St} {H:Hp} {s:Shared} {R:It -> Hp -> Prop} {E:Value -> Shared -> Prop} {lo hi:Int} {t u v:Tok} {tk:Nat} (I:Inv X pins σ H s) (h1:-(2 ^ 62) <= lo) (h2:lo < 2 ^ 62) (h3:-(2 ^ 62) <= hi) (h4:hi < 2 ^ 62)
    (q : R (Itr lo (hi - lo).toNat) H) : wpAny (model X.prog X.w) X.A (pyIter (.ref s.heap.objs.size)) (PIE X pins σ tg R) E { s with heap := s.heap.push { cls := .type "range", data := .fields #[.int lo t, .int hi u, .int 1 v] }, toks := tk } := by
  refine wpAny_pyIter_range (IsRange.new ..) (small_one h1 h2 h3 h4) ?_
  have I1 : Inv X pins σ H { s with heap := s.heap.push { cls := .type "range", data := .fields #[.int lo t, .int hi u, .int 1 v] }, toks := tk } := I.kept fun b o e => Heap.get?_push_of_some _ e
  refine ⟨(s.heap.push { cls := .type "range", data := .fields #[.int lo t, .int hi u, .int 1 v] }).objs.size, [(s.heap.push { cls := .type "range", data := .fields #[.int lo t, .int hi u, .int 1 v] }).objs.size], _, _, H, rfl,
    I1.kept (t' := tk) fun b o e => Heap.get?_push_of_some _ e, turn_range _ lo (hi - lo).toNat, ?_, fun b hb => ?_, q⟩
  · have e1:lo + ((0:Nat) : Int) * 1 = lo := by simp
    have e2:(((hi - lo).toNat:Nat) : Int) - ((0:Nat) : Int) = Builtin.Range.rangeSize lo hi 1 := by rw [rangeSize_one]; split <;> omega
    show IsRangeIter _ _ (lo + ((0:Nat) : Int) * 1) ((((hi - lo).toNat:Nat) : Int) - ((0:Nat) : Int)) 1
    rw [e1, e2]
    exact Heap.get?_push_size _ rfl
  · have e : b = (s.heap.push { cls := .type "range", data := .fields #[.int lo t, .int hi u, .int 1 v] }).objs.size := by simpa using hb
    subst e
    exact I1.fpOk (Nat.le_refl _) (I1.hok.fresh (Nat.le_refl _))
def iRng1 (ta:TA) : TI := fun σ H R => ta σ H fun vs H1 => ∃ j:Int, vs = [.int j] /\ -(2 ^ 62) <= j /\ j < 2 ^ 62 /\ R (Itr 0 j.toNat) H1
theorem pi_range1 {a : Expr} {ta : TA} {p pos : Pos} (hg : Gl X "range") (hm : X.mg "range" = none) (ha : PA X [a] ta) (hs : starEach [a] X.env = [(false, eval a X.env)] := by rfl) : PI X tg (.Call (.Name "range" p) [a] [] pos) (iRng1 ta) := by
  intro pins s σ H R I h
  refine Call_ (ld_blt I hg hm boot_range (PyProof.Rows.callWith_type1 (thn (ha pos pins s σ H _ I h) fun us s1 ⟨vs, H1, I1, r1, q1⟩ => ?_) hs rfl))
  obtain ⟨j, e, q1, q2, q⟩ := q1
  subst e
  cases r1 with
  | cons r rr =>
    cases rr
    obtain ⟨t, rfl⟩ := r
    exact call_range_1 (range_it I1 (by omega) (by omega) q1 q2 (by simpa using q))
def tFor (wi:TI) (g:TG) (tb:TS) : TS := fun D σ H => wi σ H fun J H1 => ∃ W:Nat -> Nat -> St -> Hp -> Prop, (∃ m, W 0 m σ H1) /\ ∀ i m σ H, W i m σ H ->
  (J.stop i H /\ D.nx σ H) \/ (J.go i H /\ ∃ N:St -> Hp -> Prop, (∀ σ' H', N σ' H' -> ∃ m', m' < m /\ W (i + 1) m' σ' H') /\ ∀ x H', J.yld i H x H' -> g x σ H' fun σ2 H2 => tb { D with nx := N, ct := N, bk := D.nx } σ2 H2)
def pinsAt (fp:List Addr) (h:Heap) : List (Addr × Obj) := fp.filterMap fun b => (h.get? b).map fun o => (b, o)
theorem mem_pinsAt {fp:List Addr} {h:Heap} {b:Addr} {o:Obj} (hb:b ∈ fp) (e:h.get? b = some o) : (b, o) ∈ pinsAt fp h := List.mem_filterMap.mpr ⟨b, hb, by rw [e]; rfl⟩
theorem of_pinsAt {fp:List Addr} {h:Heap} {p:Addr × Obj} (hp:p ∈ pinsAt fp h) : p.1 ∈ fp /\ h.get? p.1 = some p.2 := by
  obtain ⟨b, hb, e⟩ := List.mem_filterMap.mp hp
  cases q:h.get? b with
  | none => rw [q] at e; cases e
  | some o =>
    rw [q] at e
    have e':(b, o) = p := Option.some.inj e
    subst e'
    exact ⟨hb, q⟩
theorem Inv.pinned {pins:List (Addr × Obj)} {σ:St} {H:Hp} {s:Shared} {fp:List Addr} (I:Inv X pins σ H s) (hf:∀ b ∈ fp, FpOk X pins H b) (ho:∀ b ∈ fp, ∃ o, s.heap.get? b = some o /\ ∀ v, o.data ≠ .cell v) : Inv X (pins ++ pinsAt fp s.heap) σ H s :=
  I.pins_of fun p hp => (List.mem_append.mp hp).elim (fun z => I.pin p (List.mem_append_right _ z)) fun z => by
    obtain ⟨hb, e⟩ := of_pinsAt z
    obtain ⟨f0, f1, f2, _⟩ := hf p.1 hb
    obtain ⟨o, e', d⟩ := ho p.1 hb
    rw [e] at e'; cases e'
    exact ⟨e, f0, f1, f2, d⟩
theorem Inv.unpinned {pins pl:List (Addr × Obj)} {σ:St} {H:Hp} {s:Shared} (I:Inv X (pins ++ pl) σ H s) : Inv X pins σ H s := I.pins_of fun p hp => I.pin p (List.mem_append_right _ (List.mem_append_left _ hp))
theorem ps_for {iter:Expr} {body:List Stmt} {wi:TI} {g:TG} {tb:TS} {pos:Pos} (hp:PassesOwn (model X.prog X.w) X.A X.env X.xe) (hc:X.calm = true) (hi:PI X tg iter wi) (hg:PG X tg g) (hb:PSs X body tb)
    (hs:∀ x, foldedSetIterable iter X.env x = pure x := by intro _; rfl) : PS X (.For tg iter body [] pos) (tFor wi g tb) := by
  intro pins s σ H D I h
  refine wpAny_For (thn (hi pins s σ H _ I h) fun v s1 h1 => thn h1 fun itv s2 h2 => ?_) hs
  obtain ⟨it, fp, tn, J, H2, e, I2, T, st2, f2, W, ⟨m0, w0⟩, turn⟩ := h2
  subst e
  have stat:∀ {H':Hp}, (∀ b ∈ fp, H' b = none) -> ∀ b ∈ fp, FpOk X pins H' b := fun hn b hb => ⟨hn b hb, (f2 b hb).2⟩
  refine codeAny_forLoop_any (fun n s' => ∃ i σ' H', Inv X pins σ' H' s' /\ tn i s'.heap /\ (∀ b ∈ fp, H' b = none) /\ W i n σ' H') ?_ m0 ⟨0, σ, H2, I2, st2, fun b hb => (f2 b hb).1, w0⟩
  rintro n s3 ⟨i, σ3, H3, I3, st3, fr3, w3⟩
  rcases turn i n σ3 H3 w3 with ⟨stop, qn⟩ | ⟨go, N, hN, step⟩
  · refine wpAny_passesOwn hp (thn (T.done X rfl rfl rfl hc i pins s3 σ3 H3 X.xe I3 (stat fr3) st3 stop) fun r s4 ⟨hr, I4⟩ => ?_)
    subst hr
    exact wpAny_execs_nil ⟨σ3, H3, I4, qn⟩
  · refine wpAny_passesOwn hp (thn (T.item X rfl rfl rfl hc i pins s3 σ3 H3 X.xe I3 (stat fr3) st3 go) fun r s4 ⟨u, hr, h4⟩ => ?_)
    subst hr
    refine wpAny_passesOwn hp (thn h4 fun _ s5 ⟨x, H5, I5, r5, y5, st5, fr5⟩ => ?_)
    have I5' := I5.pinned (stat fr5) (T.obj _ _ st5)
    refine wpAny_passesOwn hp (thn (hg _ s5 σ3 H5 x u _ I5' r5 (step x H5 y5)) fun _ s6 ⟨σ6, H6, I6, q6⟩ => ?_)
    refine wpAny_passesOwn hp (thn (hb _ s6 σ6 H6 _ I6 q6) fun f s7 q7 => ?_)
    have again:∀ {σ7:St} {H7:Hp}, Inv X (pins ++ pinsAt fp s5.heap) σ7 H7 s7 -> N σ7 H7 -> ∃ m, m < n /\ ∃ i σ' H', Inv X pins σ' H' s7 /\ tn i s7.heap /\ (∀ b ∈ fp, H' b = none) /\ W i m σ' H' := fun {σ7 H7} I7 n7 => by
      obtain ⟨m', hm, w7⟩ := hN σ7 H7 n7
      refine ⟨m', hm, i + 1, σ7, H7, I7.unpinned, T.keep _ _ _ st5 fun b hb o e => (I7.pin (b, o) (List.mem_append_right _ (List.mem_append_right _ (mem_pinsAt hb e)))).1, fun b hb => ?_, w7⟩
      obtain ⟨o, e, d⟩ := T.obj _ _ st5 b hb
      exact (I7.pin (b, o) (List.mem_append_right _ (List.mem_append_right _ (mem_pinsAt hb e)))).2.1
    cases f with
    | next => obtain ⟨σ7, H7, I7, n7⟩ := q7; exact again I7 n7
    | cont => obtain ⟨σ7, H7, I7, n7⟩ := q7; exact again I7 n7
    | brk => obtain ⟨σ7, H7, I7, q7⟩ := q7; exact ⟨σ7, H7, I7.unpinned, q7⟩
    | ret v => obtain ⟨x7, σ7, H7, I7, r7, q7⟩ := q7; exact ⟨x7, σ7, H7, I7.unpinned, r7, q7⟩
end
theorem for_list {K:PySem.W.Frag} {a:Addr} {xs:List V} {g:TG} {tb:TS} {D:Ends} {σ:St} {H:Hp} (Pv:Nat -> St -> Hp -> Prop) (h0:Pv 0 σ H) (hl:∀ i σ H, i <= xs.length -> Pv i σ H -> SqL K H a xs)
    (hs:∀ i x σ H, xs[i]? = some x -> Pv i σ H -> g x σ H fun σ2 H2 => tb { D with nx := Pv (i + 1), ct := Pv (i + 1), bk := D.nx } σ2 H2) (hd:∀ σ H, Pv xs.length σ H -> D.nx σ H) :
    ∃ W:Nat -> Nat -> St -> Hp -> Prop, (∃ m, W 0 m σ H) /\ ∀ i m σ H, W i m σ H ->
      ((Itl K a).stop i H /\ D.nx σ H) \/ ((Itl K a).go i H /\ ∃ N:St -> Hp -> Prop, (∀ σ' H', N σ' H' -> ∃ m', m' < m /\ W (i + 1) m' σ' H') /\ ∀ x H', (Itl K a).yld i H x H' -> g x σ H' fun σ2 H2 => tb { D with nx := N, ct := N, bk := D.nx } σ2 H2) := by
  refine ⟨fun i m σ H => m = xs.length - i /\ i <= xs.length /\ Pv i σ H, ⟨xs.length, by simp, Nat.zero_le _, h0⟩, ?_⟩
  rintro i m σ H ⟨rfl, hi, p⟩
  have q := hl i σ H hi p
  by_cases hlt:i < xs.length
  · refine .inr ⟨⟨xs, xs[i], q, by simp [hlt]⟩, Pv (i + 1), fun σ' H' p' => ⟨xs.length - (i + 1), by omega, rfl, hlt, p'⟩, fun x H' y => ?_⟩
    obtain ⟨e, y⟩ := y
    subst e
    exact hs i x σ _ (y xs q) p
  · have e:i = xs.length := by omega
    subst e
    exact .inl ⟨⟨xs, q, Nat.le_refl _⟩, hd σ H p⟩
end L2
namespace L2
open PySem PySem.Spec PyProof.Rows
abbrev R2 := V -> V -> Hp -> VK -> Prop
def OpR (X:Cx) (f:Value -> Value -> Sem Value) (r:R2) : Prop :=
  ∀ (pins:List (Addr × Obj)) (s:Shared) (σ:St) (H:Hp) (x y:V) (v u:Value) (Q:VK), Inv X pins σ H s -> RelV x v -> RelV y u -> r x y H Q ->
    wpAny (model X.prog X.w) X.A (f v u) (EP X pins σ Q) X.xe s
def CallR (X:Cx) (f:Value) (r:List V -> Hp -> VK -> Prop) : Prop :=
  ∀ (pins:List (Addr × Obj)) (s:Shared) (σ:St) (H:Hp) (xs:List V) (us:List Value) (Q:VK), Inv X pins σ H s -> Vals xs us -> r xs H Q ->
    wpAny (model X.prog X.w) X.A (call f us) (EP X pins σ Q) X.xe s
def TruR (X:Cx) (r:V -> Hp -> (Bool -> Hp -> Prop) -> Prop) : Prop :=
  ∀ (pins:List (Addr × Obj)) (s:Shared) (σ:St) (H:Hp) (x:V) (v:Value) (Q:Bool -> Hp -> Prop), Inv X pins σ H s -> RelV x v -> r x H Q ->
    wpAny (model X.prog X.w) X.A (truthy v) (TP X pins σ Q) X.xe s
def tOp (r:R2) (ta tb:TE) : TE := fun σ H Q => ta σ H fun x H1 => tb σ H1 fun y H2 => r x y H2 Q
def rI (C:Int -> Int -> Prop) (g:Int -> Int -> V) : R2 := fun x y H Q => ∃ i j, x = .int i /\ y = .int j /\ C i j /\ Q (g i j) H
def rI0 (g:Int -> Int -> V) : R2 := fun x y H Q => ∃ i j, x = .int i /\ y = .int j /\ Q (g i j) H
section
variable {X:Cx} {a b c:Expr} {ta tb tc:TE} {pos:Pos}
theorem binT (ha:PE X a ta) (hb:PE X b tb) {pins:List (Addr × Obj)} {s:Shared} {σ:St} {H:Hp} {R:V -> V -> Hp -> Prop} (I:Inv X pins σ H s)
    (h:ta σ H fun x H1 => tb σ H1 fun y H2 => R x y H2) {Q:Value -> Shared -> Prop} {f:Value -> Value -> Sem Value}
    (hf:∀ v u s2 x y H2, Inv X pins σ H2 s2 -> RelV x v -> RelV y u -> R x y H2 -> wpAny (model X.prog X.w) X.A (f v u) Q X.xe s2) :
    wpAny (model X.prog X.w) X.A (eval a X.env) (fun v s₁ => wpAny (model X.prog X.w) X.A (eval b X.env) (fun u s₂ => wpAny (model X.prog X.w) X.A (f v u) Q X.xe s₂) X.xe s₁) X.xe s := by
  refine thn (ha pins s σ H _ I h) fun v s1 ⟨x, H1, I1, r1, q1⟩ => ?_
  refine thn (hb pins s1 σ H1 _ I1 q1) fun u s2 ⟨y, H2, I2, r2, q2⟩ => ?_
  exact hf v u s2 x y H2 I2 r1 r2 q2
theorem pe_op {op:Operator} {r:R2} (ho:OpR X (binaryOp op) r) (ha:PE X a ta) (hb:PE X b tb) : PE X (.BinOp a op b pos) (tOp r ta tb) := by
  intro pins s σ H Q I h
  exact wpAny_BinOp (binT ha hb I h fun v u s2 x y H2 I2 rx ry q => ho pins s2 σ H2 x y v u Q I2 rx ry q)
theorem opI {f:Value -> Value -> Sem Value} {C:Int -> Int -> Prop} {g:Int -> Int -> Int}
    (rule:∀ (i j:Int) (t u:Tok) (s:Shared) (Q:Value -> Shared -> Prop) (E:Value -> Shared -> Prop), C i j -> Q (.int (g i j) s.toks) { s with toks := s.toks + 1 } -> wpAny (model X.prog X.w) X.A (f (.int i t) (.int j u)) Q E s) :
    OpR X f (rI C fun i j => .int (g i j)) := by
  intro pins s σ H x y v u Q I rx ry h
  obtain ⟨i, j, rfl, rfl, hc, q⟩ := h
  obtain ⟨t, rfl⟩ := rx
  obtain ⟨t', rfl⟩ := ry
  exact rule i j t t' s _ _ hc ⟨.int (g i j), H, I.tok _, ⟨_, rfl⟩, q⟩
theorem opI0 {f:Value -> Value -> Sem Value} {g:Int -> Int -> Int}
    (rule:∀ (i j:Int) (t u:Tok) (s:Shared) (Q:Value -> Shared -> Prop) (E:Value -> Shared -> Prop), Q (.int (g i j) s.toks) { s with toks := s.toks + 1 } -> wpAny (model X.prog X.w) X.A (f (.int i t) (.int j u)) Q E s) :
    OpR X f (rI0 fun i j => .int (g i j)) := by
  intro pins s σ H x y v u Q I rx ry h
  obtain ⟨i, j, rfl, rfl, q⟩ := h
  obtain ⟨t, rfl⟩ := rx
  obtain ⟨t', rfl⟩ := ry
  exact rule i j t t' s _ _ ⟨.int (g i j), H, I.tok _, ⟨_, rfl⟩, q⟩
theorem opB0 {f:Value -> Value -> Sem Value} {g:Int -> Int -> Bool}
    (rule:∀ (i j:Int) (t u:Tok) (s:Shared) (Q:Value -> Shared -> Prop) (E:Value -> Shared -> Prop), Q (.bool (g i j)) s -> wpAny (model X.prog X.w) X.A (f (.int i t) (.int j u)) Q E s) :
    OpR X f (rI0 fun i j => .bl (g i j)) := by
  intro pins s σ H x y v u Q I rx ry h
  obtain ⟨i, j, rfl, rfl, q⟩ := h
  obtain ⟨t, rfl⟩ := rx
  obtain ⟨t', rfl⟩ := ry
  exact rule i j t t' s _ _ ⟨.bl (g i j), H, I, rfl, q⟩
def CDiv (i j:Int) : Prop := 0 < j /\ j < 1073741824
def CMul (i j:Int) : Prop := (-(2 ^ 64) < i /\ i < 2 ^ 64) \/ (-(2 ^ 64) < j /\ j < 2 ^ 64)
theorem CMul.ok {i j:Int} (h:CMul i j) : IntMulOk i j := by
  rcases h with ⟨h1, h2⟩ | ⟨h1, h2⟩
  · exact .of_left (intBits_le_64 h1 h2)
  · exact .of_right (intBits_le_64 h1 h2)
theorem two_pow_nn (k:Nat) : (0:Int) <= 2 ^ k := by
  rw [two_pow_cast]
  exact Int.natCast_nonneg _
theorem op_add:OpR X (binaryOp .Add) (rI0 fun i j => .int (i + j)) := opI0 fun _ _ _ _ _ _ _ q => add_int q
theorem op_sub:OpR X (binaryOp .Sub) (rI0 fun i j => .int (i - j)) := opI0 fun _ _ _ _ _ _ _ q => sub_int q
theorem op_mul:OpR X (binaryOp .Mult) (rI CMul fun i j => .int (i * j)) := opI fun _ _ _ _ _ _ _ hc q => mul_int q hc.ok
theorem op_fdiv:OpR X (binaryOp .FloorDiv) (rI CDiv fun i j => .int (i / j)) := opI fun i j _ _ _ _ _ hc q => by
  have h1:(0:Int) < j := hc.1
  have h2:j < 1073741824 := hc.2
  exact floordiv_int (by omega) (by rw [Int.fdiv_eq_ediv_of_nonneg i (by omega)]; exact q) (.inl (PyProof.noPylong_small (by omega)))
theorem op_mod:OpR X (binaryOp .Mod) (rI (fun _ j => 0 < j) fun i j => .int (i % j)) := opI fun i j _ _ _ _ _ hc q => by
  have h1:(0:Int) < j := hc
  exact mod_int' (by omega) (by rw [Int.fmod_eq_emod_of_nonneg i (by omega)]; exact q)
theorem op_shr:OpR X (binaryOp .RShift) (rI (fun _ j => 0 <= j) fun i j => .int (i / 2 ^ j.toNat)) := opI fun i j _ _ _ _ _ hc q =>
  rshift_int hc (by rw [Int.fdiv_eq_ediv_of_nonneg i (two_pow_nn _)]; exact q)
theorem op_and:OpR X (binaryOp .BitAnd) (rI0 fun i j => .int (Builtin.bitAnd i j)) := opI0 fun _ _ _ _ _ _ _ q => and_int q
end
section
variable {X:Cx} {a b c:Expr} {ta tb tc:TE} {pos:Pos}
theorem op_lt:OpR X (compareOp .Lt) (rI0 fun i j => .bl (decide (i < j))) := opB0 fun _ _ _ _ _ _ _ q => lt_int q
theorem op_gt:OpR X (compareOp .Gt) (rI0 fun i j => .bl (decide (j < i))) := opB0 fun _ _ _ _ _ _ _ q => gt_int q
theorem op_ge:OpR X (compareOp .GtE) (rI0 fun i j => .bl (decide (j <= i))) := opB0 fun _ _ _ _ _ _ _ q => ge_int q
theorem OpR.or {f:Value -> Value -> Sem Value} {r r':R2} (h:OpR X f r) (h':OpR X f r') : OpR X f (fun x y H Q => r x y H Q \/ r' x y H Q) := by
  intro pins s σ H x y v u Q I rx ry q
  rcases q with q | q
  · exact h pins s σ H x y v u Q I rx ry q
  · exact h' pins s σ H x y v u Q I rx ry q
theorem nomark (b:Expr) {op:CmpOp} (h:op ≠ .In := by decide) (h2:op ≠ .NotIn := by decide) : behindInMarks op b = false := by
  have e1:(op == CmpOp.In) = false := by cases op <;> first | rfl | exact absurd rfl h
  have e2:(op == CmpOp.NotIn) = false := by cases op <;> first | rfl | exact absurd rfl h2
  cases b <;> simp [behindInMarks, e1, e2]
theorem pe_cmpR {op:CmpOp} {r:R2} (ho:OpR X (compareOp op) r) (ha:PE X a ta) (hb:PE X b tb) (hm:behindInMarks op b = false) : PE X (.Compare a [op] [b] pos) (tOp r ta tb) := by
  intro pins s σ H Q I h
  exact wpAny_Compare1 (binT ha hb I h fun v u s2 x y H2 I2 rx ry q => ho pins s2 σ H2 x y v u Q I2 rx ry q) hm
def tTest (t:TE) : TT := fun σ H Q => t σ H fun x H' => ∃ k, x = .bl k /\ Q k H'
theorem pt_cmpR {op:CmpOp} {r:R2} (ho:OpR X (compareOp op) r) (ha:PE X a ta) (hb:PE X b tb) (hm:behindInMarks op b = false) : PT X (.Compare a [op] [b] pos) (tTest (tOp r ta tb)) := by
  intro pins s σ H Q I h
  refine wpAny_isTrue_Compare1 (thn (ha pins s σ H _ I h) fun v s1 ⟨x, H1, I1, r1, q1⟩ => thn (hb pins s1 σ H1 _ I1 q1) fun u s2 ⟨y, H2, I2, r2, q2⟩ =>
    thn (ho pins s2 σ H2 x y v u _ I2 r1 r2 q2) fun c s3 ⟨z, H3, I3, r3, k, e, q3⟩ => ?_) hm
  subst e
  cases r3
  exact wpAny_truthy_bool ⟨H3, I3, q3⟩
def TruV (K:PySem.W.Frag) (x:V) (H:Hp) (k:Bool) : Prop :=
  match x with
  | .non => k = false
  | .bl b => k = b
  | .int i => k = (i != 0)
  | .str y => y.length <= sizeLine /\ k = ((y.length:Int) != 0)
  | .byt y => y.size <= sizeLine /\ k = ((y.size:Int) != 0)
  | .ref p => (∃ xs, SqL K H p xs /\ k = !xs.isEmpty) \/ (∃ xs, SqT K H p xs /\ k = !xs.isEmpty) \/ ∃ kvs, H p = some (.dK kvs) /\ k = !kvs.isEmpty
  | _ => False
theorem isEmpty_kv {κ:Type} {kvs:List (κ × V)} {vs:List (κ × Value)} (r:KV kvs vs) : (!vs.isEmpty) = !kvs.isEmpty := by
  cases r <;> rfl
theorem isEmpty_of {xs:List V} {its:List Value} (r:Vals xs its) : (!its.toArray.isEmpty) = !xs.isEmpty := by
  cases r <;> simp
theorem line63:(sizeLine:Nat) < 2 ^ 63 := by rw [sizeLine_eq]; decide
theorem tru_ok:TruR X (fun x H Q => ∃ k, TruV X.K x H k /\ Q k H) := by
  intro pins s σ H x v Q I rx h
  obtain ⟨k, e, q⟩ := h
  have hl := line63
  have hs:sizeLine = 16777216 := sizeLine_eq
  cases x with
  | non =>
    cases rx
    have e':k = false := e
    subst e'
    exact truthy_none ⟨H, I, q⟩
  | bl b =>
    cases rx
    have e':k = b := e
    subst e'
    exact wpAny_truthy_bool ⟨H, I, q⟩
  | int i =>
    obtain ⟨t, rfl⟩ := rx
    have e':k = (i != 0) := e
    subst e'
    exact PySem.P.truthy_int ⟨H, I, q⟩
  | str y =>
    obtain ⟨t, rfl⟩ := rx
    obtain ⟨hy, e'⟩ : y.length <= sizeLine /\ k = ((y.length:Int) != 0) := e
    subst e'
    exact PySem.P.truthy_str (by omega) ⟨H, I.tok _, q⟩
  | byt y =>
    obtain ⟨t, rfl⟩ := rx
    obtain ⟨hy, e'⟩ : y.size <= sizeLine /\ k = ((y.size:Int) != 0) := e
    subst e'
    exact PySem.W.truthy_bytes (by omega) ⟨H, I.tok _, q⟩
  | ref p =>
    cases rx
    have e':(∃ xs, SqL X.K H p xs /\ k = !xs.isEmpty) \/ (∃ xs, SqT X.K H p xs /\ k = !xs.isEmpty) \/ ∃ kvs, H p = some (.dK kvs) /\ k = !kvs.isEmpty := e
    rcases e' with ⟨xs, hx, e'⟩ | ⟨xs, hx, e'⟩ | ⟨kvs, hx, e'⟩
    · subst e'
      obtain ⟨its, r, pl, hz⟩ := I.list hx
      have hlen := r.length
      exact wpAny_truthy_list pl.isList (by simp only [List.size_toArray]; omega) ⟨H, I.tok _, by rw [isEmpty_of r]; exact q⟩
    · subst e'
      obtain ⟨its, r, pl, hz⟩ := I.tuple hx
      have hlen := r.length
      exact truthy_tuple pl (by simp only [List.size_toArray]; omega) ⟨H, I.tok _, by rw [isEmpty_of r]; exact q⟩
    · subst e'
      obtain ⟨hz, hS, vs, r, m⟩ : kvs.length <= sizeLine /\ (p == sysModules) = false /\ ∃ vs, KV kvs vs /\ s.heap.DictOf (mixKind X.prog X.w) p vs := I.hok p _ hx
      have hlen:kvs.length = vs.length := Paired.length r
      exact wpAny_truthy_dict hS m (by omega) ⟨H, I.tok _, by rw [isEmpty_kv r]; exact q⟩
  | _ => exact (show False from e).elim
theorem pt_truth (ha:PE X a ta) (he:∀ whole, isTrue a X.env whole = (do let v <- whole; standAt a.pos; holding [v] (truthy v))) :
    PT X a (fun σ H Q => ta σ H fun x H' => ∃ k, TruV X.K x H' k /\ Q k H') := by
  intro pins s σ H Q I h
  exact isTrue_plain (thn (ha pins s σ H _ I h) fun v s1 ⟨x, H1, I1, r1, q1⟩ => tru_ok pins s1 σ H1 x v Q I1 r1 q1) (he _)
theorem op_add_str:OpR X (binaryOp .Add) (fun x y H Q => ∃ i j, x = .str i /\ y = .str j /\ i.length + j.length <= sizeLine /\ Q (.str (i ++ j)) H) := by
  intro pins s σ H x y v u Q I rx ry h
  obtain ⟨i, j, rfl, rfl, hz, q⟩ := h
  obtain ⟨t, rfl⟩ := rx
  obtain ⟨t', rfl⟩ := ry
  exact add_str (fun t' tk => ⟨.str (i ++ j), H, I.tok _, ⟨_, rfl⟩, q⟩) hz
theorem vals1 {x:V} {us:List Value} (r:Vals [x] us) : ∃ u, us = [u] /\ RelV x u := by
  cases r with
  | cons r1 r2 => cases r2; exact ⟨_, rfl, r1⟩
theorem vals2 {x y:V} {us:List Value} (r:Vals [x, y] us) : ∃ u w', us = [u, w'] /\ RelV x u /\ RelV y w' := by
  cases r with
  | cons r1 r2 =>
    cases r2 with
    | cons r3 r4 => cases r4; exact ⟨_, _, rfl, r1, r3⟩
end
end L2
namespace L2
open PySem PySem.Spec PyProof.Rows
structure ObjM (h:Heap) (x dx C:Addr) (mA:Str -> Option Value) : Prop where
  obj:h.get? x = some (PySem.W.instObj C dx)
  ns:h.Ns1 dx mA
  ne:dx ≠ x
theorem lookIn_ns {h:Heap} {dx:Addr} {mA:Str -> Option Value} (n:h.Ns1 dx mA) : ∃ od, h.get? dx = some od /\ ∀ name, PySem.W.lookIn name od = some (mA name) := by
  obtain ⟨o, es, ep, ho, hd, hk, _, hm⟩ := n
  refine ⟨o, ho, fun name => ?_⟩
  have e := hm name
  unfold nsFind findBy at e
  rw [<- Array.find?_toList] at e
  unfold PySem.W.lookIn
  rw [hd]
  dsimp only
  split
  · rename_i y q
    rw [q] at e
    exact congrArg some e
  · rename_i q
    rw [q] at e
    have a:es.toList.any (·.refKey) = false := by
      rw [List.any_eq_false]
      intro y hy
      obtain ⟨z, t, hkey⟩ := hk y (Array.mem_toList_iff.mp hy)
      simp [DictEntry.refKey, hkey]
    have a':¬ es.toList.any (·.refKey) = true := by rw [a]; exact Bool.false_ne_true
    rw [if_neg a']
    exact congrArg some e
theorem ObjM.look {h:Heap} {x dx C:Addr} {mA:Str -> Option Value} (I:ObjM h x dx C mA) : ∃ od, PySem.W.InstAt h x (PySem.W.instObj C dx) C (some od) /\ ∀ name, PySem.W.lookIn name od = some (mA name) :=
  let ⟨od, ho, hl⟩ := lookIn_ns I.ns
  ⟨od, ⟨I.obj, rfl, rfl, ho⟩, hl⟩
section
variable {prog:Program} {w:World} {A:Around} {E:Value -> Shared -> Prop} {s:Shared} {K:PySem.W.Frag} {x dx C f:Addr} {mA:Str -> Option Value} {name:Str} {v:Value}
end
theorem RelO.some_of {v:V} {o:Option Value} (r:RelO (some v) o) : ∃ u, o = some u /\ RelV v u := by
  cases o with
  | none => exact (show False from r).elim
  | some u => exact ⟨u, rfl, r⟩
section
variable {P:Program} {w:World} {H H':Hp} {h h':Heap} {a C dx:Addr} {fs fs':List (Str × V)}
theorem ins_get (hok:HOk P w H h) (e:H a = some (.ins C dx fs)) : ∃ mA, ObjM h a dx C mA /\ (∀ f, RelO (fs.lookup f) (mA f)) /\ PySem.Within mA (fs.map (·.1)) /\ fs.length <= 1000 /\ H dx = some (.own a) := by
  obtain ⟨d, z, ne, ob, mA, n, r, q⟩ := (show ObjOk P w H h a (.ins C dx fs) from hok a _ e)
  exact ⟨mA, ⟨ob, n, ne⟩, r, q, z, d⟩
end
structure Cls (K:PySem.W.Frag) (C:Addr) : Prop where
  pg:PySem.W.plainGet K C Str.empty = true
  hd:PySem.W.hasDictIn K C = true
  po:PySem.W.plainOver K C = true
  sa : PySem.W.findIn K (.ref C) "__setattr__" = some (some (.builtin "object.__setattr__"))
theorem Cls.get {K:PySem.W.Frag} {C:Addr} (c:Cls K C) (f:Str) : PySem.W.plainGet K C f = true := c.pg
structure Con (K:PySem.W.Frag) (C:Addr) (f:Str) (v:V) (u:Value) : Prop where
  at_:PySem.W.findIn K (.ref C) f = some (some u)
  rel:RelV v u
  get : PySem.W.specialIn K u "__get__" = some none
  cp:PySem.W.copiedNames.contains f = false
structure Meth (K:PySem.W.Frag) (C:Addr) (m:Str) (f:Addr) : Prop where
  at_:PySem.W.findIn K (.ref C) m = some (some (.ref f))
  fn:PySem.W.isFn K (.ref f) = true
  kp:PySem.W.keepIn K (.ref f) = true
section
variable {X:Cx} {pins:List (Addr × Obj)} {σ:St} {H:Hp} {s:Shared} {a C dx:Addr} {fs:List (Str × V)} {f:Str} {v:V} {A:Around} {E:Value -> Shared -> Prop}
theorem Inv.made (I:Inv X pins σ H s) : Inv X pins σ (upd (upd H s.heap.objs.size (.own (s.heap.objs.size + 1))) (s.heap.objs.size + 1) (.ins C s.heap.objs.size []))
    { s with heap := (s.heap.push PySem.W.emptyDict).push (PySem.W.instObj C s.heap.objs.size) } := by
  have e1:(s.heap.push PySem.W.emptyDict).get? s.heap.objs.size = some PySem.W.emptyDict := Heap.get?_push_size s.heap rfl
  have e2:((s.heap.push PySem.W.emptyDict).push (PySem.W.instObj C s.heap.objs.size)).get? (s.heap.objs.size + 1) = some (PySem.W.instObj C s.heap.objs.size) := by
    have := Heap.get?_push_size (s.heap.push PySem.W.emptyDict) (o := PySem.W.instObj C s.heap.objs.size) rfl
    rwa [Heap.size_push] at this
  have e3:(s.heap.push PySem.W.emptyDict).Ns s.heap.objs.size (fun _ => none) := ⟨PySem.W.emptyDict, #[], _, e1, rfl, (fun e he => absurd he (by simp)), fun _ => rfl⟩
  have I1 := I.laid (a := s.heap.objs.size) (o := .own (s.heap.objs.size + 1)) (h' := s.heap.push PySem.W.emptyDict) (t' := s.toks) (fun b u q => Heap.get?_push_of_some _ q) (Nat.le_refl _) ⟨_, e1⟩
  refine I1.laid (a := s.heap.objs.size + 1) (o := .ins C s.heap.objs.size []) (t' := s.toks) (fun b u q => Heap.get?_push_of_some _ q) (Nat.le_of_eq (Heap.size_push _ _)) ?_
  have ne:s.heap.objs.size ≠ s.heap.objs.size + 1 := Nat.ne_of_lt (Nat.lt_succ_self _)
  refine ⟨by rw [upd_ne ne, upd_same], Nat.zero_le _, ne, e2, fun _ => none, (Heap.Ns1.of_empty e3).at fun o q => Heap.get?_push_of_some _ q, fun _ => True.intro, fun y hy => absurd rfl hy⟩
end
section
variable {X:Cx} {o e value:Expr} {f:Str} {pos pos' tpos:Pos} {ta tv:TE}
end
section
variable {X:Cx} {pins:List (Addr × Obj)} {σ:St} {H:Hp} {s:Shared} {A:Around} {E:Value -> Shared -> Prop} {Q:Value -> Shared -> Prop} {c:Value} {b:Bool}
inductive TyOf (K:PySem.W.Frag) (H:Hp) : V -> Value -> Prop where
  | non : TyOf K H .non (.type "NoneType")
  | bl (x : Bool) : TyOf K H (.bl x) (.type "bool")
  | int (i : Int) : TyOf K H (.int i) (.type "int")
  | str (x : Str) : TyOf K H (.str x) (.type "str")
  | flt (x : UInt64) : TyOf K H (.flt x) (.type "float")
  | lst {a : Addr} {xs : List V} (e : H a = some (.lst xs)) : TyOf K H (.ref a) (.type "list")
  | frz {a : Addr} {o : Obj} {xs : List V} (e : H a = some (.frz o (.lst xs))) : TyOf K H (.ref a) (.type "list")
  | tup {a : Addr} {xs : List V} (e : H a = some (.tup xs)) : TyOf K H (.ref a) (.type "tuple")
  | dK {a : Addr} {kvs : List (Key × V)} (e : H a = some (.dK kvs)) : TyOf K H (.ref a) (.type "dict")
  | dT {a : Addr} {kvs : List (List Key × V)} (e : H a = some (.dT kvs)) : TyOf K H (.ref a) (.type "dict")
  | ins {a C dx : Addr} {fs : List (Str × V)} (e : H a = some (.ins C dx fs)) (cl : Cls K C) (ha : PySem.W.findIn K (.ref C) "__class__" = some (some (.builtin "object.__class__")))
      (hn : PySem.W.specialIn K (.builtin "object.__class__") "__get__" = some (some (.builtin "getset_descriptor.__get__"))) (htk : PySem.W.takesIn K (.builtin "object.__class__") = some true)
      (hm : PySem.W.mroIn K C (.type "object") = some true) : TyOf K H (.ref a) (.ref C)
theorem isinst_ok {x:V} {u t:Value} (I:Inv X pins σ H s) (rx:RelV x u) (ty:TyOf X.K H x t) (e:PySem.W.kitOne X.K t c = some b) (h:∀ tk, Q (.bool b) { s with toks := tk }) :
    wpAny (model X.prog X.w) A (call (.builtin "isinstance") [u, c]) Q E s := by
  cases ty with
  | non => cases (show u = Value.none from rx); exact PySem.W.kia_one PySem.W.kitx_none I.kIn True.intro e (fun z => nomatch z) h
  | bl y => cases (show u = Value.bool y from rx); exact PySem.W.kia_one PySem.W.kitx_bool I.kIn True.intro e (fun z => nomatch z) h
  | int i => obtain ⟨t, q⟩ := (show ∃ t, u = Value.int i t from rx); cases q; exact PySem.W.kia_one PySem.W.kitx_int I.kIn True.intro e (fun z => nomatch z) h
  | str y => obtain ⟨t, q⟩ := (show ∃ t, u = Value.str y t from rx); cases q; exact PySem.W.kia_one PySem.W.kitx_str I.kIn True.intro e (fun z => nomatch z) h
  | flt y => obtain ⟨t, q⟩ := (show ∃ t, u = Value.float y t from rx); cases q; exact PySem.W.kia_one PySem.W.kitx_float I.kIn True.intro e (fun z => nomatch z) h
  | @lst a xs ea =>
    cases (show u = Value.ref a from rx)
    obtain ⟨_, _, n, _, h1⟩ := (show ObjOk X.prog X.w H s.heap a (.lst xs) from I.hok a _ ea)
    exact PySem.W.kia_one PySem.W.kitx_list I.kIn ⟨_, h1, rfl⟩ e (fun z => nomatch z) h
  | @frz a ob xs ea =>
    cases (show u = Value.ref a from rx)
    obtain ⟨_, _, _, n, _, h1⟩ := (show ObjOk X.prog X.w H s.heap a (.frz ob (.lst xs)) from I.hok a _ ea)
    exact PySem.W.kia_one PySem.W.kitx_list I.kIn ⟨_, h1, rfl⟩ e (fun z => nomatch z) h
  | @tup a xs ea =>
    cases (show u = Value.ref a from rx)
    obtain ⟨_, _, _, p⟩ := (show ObjOk X.prog X.w H s.heap a (.tup xs) from I.hok a _ ea)
    obtain ⟨o, h1, h2, _⟩ := p
    exact PySem.W.kia_one PySem.W.kitx_tuple I.kIn ⟨o, h1, h2⟩ e (fun z => nomatch z) h
  | @dK a kvs ea =>
    cases (show u = Value.ref a from rx)
    obtain ⟨_, _, vs, _, p⟩ := (show ObjOk X.prog X.w H s.heap a (.dK kvs) from I.hok a _ ea)
    obtain ⟨o, es, ep, h1, h2, _⟩ := p
    exact PySem.W.kia_one PySem.W.kitx_dict I.kIn ⟨o, h1, h2.1⟩ e (fun z => nomatch z) h
  | @dT a kvs ea =>
    cases (show u = Value.ref a from rx)
    obtain ⟨_, _, xs, _, o, es, ep, h1, h2, _⟩ := (show ObjOk X.prog X.w H s.heap a (.dT kvs) from I.hok a _ ea)
    exact PySem.W.kia_one PySem.W.kitx_dict I.kIn ⟨o, h1, h2.1⟩ e (fun z => nomatch z) h
  | @ins a C dx fs ea cl ha hn htk hm =>
    cases (show u = Value.ref a from rx)
    obtain ⟨mA, O, _⟩ := ins_get I.hok ea
    obtain ⟨od, J, _⟩ := O.look
    exact PySem.W.kia_one (PySem.W.kitx_own (cl.get _) cl.hd ha hn htk hm) I.kIn J e (fun z => nomatch z) h
end
end L2
namespace L2
open PySem PySem.Spec PyProof.Rows
structure Room (k:Nat) (A:Around) : Prop where
  hd:A.handled = none
  dp:A.depth + 3 * k + 5 < recursionLimit
  un:A.units + 16 * k + 200 < cLine
theorem Room.mono {j k:Nat} {A:Around} (r:Room k A) (h:j <= k) : Room j A := ⟨r.hd, by have := r.dp; omega, by have := r.un; omega⟩
theorem Room.deeper {k:Nat} {A:Around} (r:Room (k + 1) A) (env:Env) : Room k (A.deeper env) :=
  ⟨r.hd, by have := r.dp; show A.depth + 1 + 3 * k + 5 < _; omega, by have := r.un; show A.units + 3 + 16 * k + 200 < _; omega⟩
theorem Room.in1 {k:Nat} {A:Around} (r:Room (k + 1) A) : Room k A.in1 :=
  ⟨r.hd, by have := r.dp; show A.depth + 3 * k + 5 < _; omega, by have := r.un; show A.units + 1 + 16 * k + 200 < _; omega⟩
theorem Room.depth {k:Nat} {A:Around} (r:Room k A) : A.depth < recursionLimit := by have := r.dp; omega
theorem Room.units {k:Nat} {A:Around} (r:Room k A) : A.units + 64 < cLine := by have := r.un; omega
def tNil:TA := fun _ H Q => Q [] H
def tCons (ta:TE) (tr:TA) : TA := fun σ H Q => ta σ H fun x H1 => tr σ H1 fun xs H2 => Q (x :: xs) H2
section
variable {X:Cx} {e:Expr} {es:List Expr} {te:TE} {t:TA} {pos:Pos}
theorem pa_nil:PA X [] tNil := fun _ _ _ _ H Q I h => Calls.spliced_nil ⟨[], H, I, .nil, h⟩
theorem pa_cons (ha:PE X e te) (hr:PA X es t) (hs:starEach (e :: es) X.env = (false, eval e X.env) :: starEach es X.env := by rfl) : PA X (e :: es) (tCons te t) := by
  intro pos pins s σ H Q I h
  rw [hs]
  show wpAny _ _ (spliced ((false, eval e X.env) :: backTo pos (starEach es X.env))) _ _ s
  refine Calls.spliced_cons (thn (ha pins s σ H _ I h) fun u s1 ⟨x, H1, I1, r1, q1⟩ => ?_)
  exact thn (hr pos pins s1 σ H1 _ I1 q1) fun us s2 ⟨xs, H2, I2, r2, q2⟩ => ⟨x :: xs, H2, I2, .cons r1 r2, q2⟩
def tTup (t:TA) : TE := fun σ H Q => t σ H fun xs H1 => xs.length <= sizeLine /\ ∀ p, H1 p = none -> Q (.ref p) (upd H1 p (.tup xs))
def tLst (t:TA) : TE := fun σ H Q => t σ H fun xs H1 => xs.length <= sizeLine /\ ∀ p, H1 p = none -> Q (.ref p) (upd H1 p (.lst xs))
theorem pe_tup {x1} (h:PA X es t) : PE X (.Tuple es x1 pos) (tTup t) := by
  intro pins s σ H Q I hq
  refine wpAny_Tuple_spliced (thn (h pos pins s σ H _ I hq) fun us s1 ⟨xs, H1, I1, r, z, q⟩ => ⟨by rw [<- r.length]; exact z, ?_⟩)
  have hf:H1 s1.heap.objs.size = none := I1.hok.fresh (Nat.le_refl _)
  refine ⟨.ref s1.heap.objs.size, upd H1 s1.heap.objs.size (.tup xs), I1.laid (t' := s1.toks) (fun b u e => Heap.get?_push_of_some _ e) (Nat.le_refl _) ?_, rfl, q _ hf⟩
  exact ⟨z, us, r, ⟨_, Heap.get?_push_size _ rfl, rfl, _, rfl⟩⟩
theorem pe_lst (h:PA X es t) : PE X (.List es pos) (tLst t) := by
  intro pins s σ H Q I hq
  refine wpAny_List_spliced (thn (h pos pins s σ H _ I hq) fun us s1 ⟨xs, H1, I1, r, z, q⟩ => ⟨by rw [<- r.length]; exact z, ?_⟩)
  have hf:H1 s1.heap.objs.size = none := I1.hok.fresh (Nat.le_refl _)
  refine ⟨.ref s1.heap.objs.size, upd H1 s1.heap.objs.size (.lst xs), I1.laid (t' := s1.toks) (fun b u e => Heap.get?_push_of_some _ e) (Nat.le_refl _) ?_, rfl, q _ hf⟩
  exact ⟨z, us, 0, r, Heap.get?_push_size _ rfl⟩
end
abbrev Sp := List V -> Hp -> VK -> XK -> Prop
abbrev CXT := List Env -> Hp -> Shared -> XK -> Value -> Shared -> Prop
structure Env0 (P:Program) (w:World) (K:PySem.W.Frag) (mg:Str -> Option Value) (base:Heap) (A:Around) (outer:List Env) (s:Shared) (H:Hp) : Prop where
  frames:A.frames = some outer
  mod:Mod K mg base
  bs:∀ b o, base.get? b = some o -> s.heap.get? b = some o /\ H b = none
  bsz:base.objs.size <= s.heap.objs.size
  funs:s.heap.FunFrames base outer
  frf:∀ b ∈ frs outer, H b = none
  hok:HOk P w H s.heap
  bare:AllBare s.gens
def CE (outer:List Env) (P:Program) (w:World) (H:Hp) (s:Shared) (Q:VK) (u:Value) (s':Shared) : Prop :=
  ∃ v H', s'.os = s.os /\ AllBare s'.gens /\ Un (frs outer) [] H H' s.heap s'.heap /\ HOk P w H' s'.heap /\ RelV v u /\ Q v H'
def CR (CX:CXT) (outer:List Env) (P:Program) (w:World) (H:Hp) (s:Shared) (Q:VK) (E:XK) (r:Result) (s':Shared) : Prop :=
  match r with
  | .ok (.ret u) => CE outer P w H s Q u s'
  | .ok _ => False
  | .error e => CX outer H s E e s'
structure FnOk (P:Program) (w:World) (K:PySem.W.Frag) (mg:Str -> Option Value) (base:Heap) (CX:CXT) (k:Nat) (f:Addr) (fd:FuncData) (ps:List Str) (sp:Sp) : Prop where
  len:∀ vs H Q E, sp vs H Q E -> vs.length = ps.length
  run:∀ (A:Around) (outer:List Env) (s:Shared) (H:Hp) (args:Args) (us:List Value) (vs:List V) (Q:VK) (E:XK), Room k A -> Env0 P w K mg base A outer s H -> BindsTo s fd args (ps.zip us) -> Vals vs us -> sp vs H Q E ->
    codeAny (model P w) A (.call (.ref f) args) (CR CX outer P w H s Q E) s
theorem FnOk.mono {P:Program} {w:World} {K:PySem.W.Frag} {mg:Str -> Option Value} {base:Heap} {CX:CXT} {j k:Nat} {f:Addr} {fd:FuncData} {ps:List Str} {sp:Sp} (F:FnOk P w K mg base CX j f fd ps sp) (h:j <= k) :
    FnOk P w K mg base CX k f fd ps sp := ⟨F.len, fun A outer s H args us vs Q E hr => F.run A outer s H args us vs Q E (hr.mono h)⟩
theorem FnOk.imp {P:Program} {w:World} {K:PySem.W.Frag} {mg:Str -> Option Value} {base:Heap} {CX:CXT} {k:Nat} {f:Addr} {fd:FuncData} {ps:List Str} {sp sp':Sp} (F:FnOk P w K mg base CX k f fd ps sp)
    (h:∀ vs H Q E, sp' vs H Q E -> sp vs H Q E) : FnOk P w K mg base CX k f fd ps sp' :=
  ⟨fun vs H Q E q => F.len vs H Q E (h _ _ _ _ q), fun A outer s H args us vs Q E hr he hb hv hs => F.run A outer s H args us vs Q E hr he hb hv (h _ _ _ _ hs)⟩
theorem Env0.in1 {P:Program} {w:World} {K:PySem.W.Frag} {mg:Str -> Option Value} {base:Heap} {A:Around} {outer:List Env} {s:Shared} {H:Hp} (e:Env0 P w K mg base A outer s H) :
    Env0 P w K mg base A.in1 outer s H := ⟨e.frames, e.mod, e.bs, e.bsz, e.funs, e.frf, e.hok, e.bare⟩
section
variable {X:Cx} {pins:List (Addr × Obj)} {σ:St} {H:Hp} {s s':Shared}
theorem Inv.env0 (I:Inv X pins σ H s) : Env0 X.prog X.w X.K X.mg X.base X.A X.stack s H :=
  ⟨I.ok.frames, I.ok.mod, I.bs, Nat.le_trans I.ok.bsz I.sz, I.stack, I.stkFree, I.hok, I.bare⟩
theorem Inv.after {Q:VK} {u:Value} (I:Inv X pins σ H s) (h:CE X.stack X.prog X.w H s Q u s') : EP X pins σ Q u s' := by
  obtain ⟨v, H', os, bare, un, hok, r, q⟩ := h
  obtain ⟨hh, g, d, t, os'⟩ := s'
  obtain rfl:os' = s.os := os
  exact ⟨v, H', I.call (h' := hh) (g' := g) (d' := d) (t' := t) (ch := []) un hok bare (fun b z => absurd z (by simp)), r, q⟩
end
def tCall (sp:Sp) (dvs:List V) (E:XK) (t:TA) : TE := fun σ H Q => t σ H fun vs H1 => sp (vs ++ dvs) H1 Q E
def Binds (K:PySem.W.Frag) (fd:FuncData) (ps:List Str) (ds:List Value) : Prop :=
  ∀ (s:Shared) (us:List Value), K.In s.heap -> (us ++ ds).length = ps.length -> BindsTo s fd ⟨us, []⟩ (ps.zip (us ++ ds))
theorem Binds.all {K:PySem.W.Frag} {fd:FuncData} {ps:List Str} (h:∀ us:List Value, us.length = ps.length -> bindArgs fd ⟨us, []⟩ = pure (ps.zip us)) : Binds K fd ps [] := fun s us _ hl => by
  rw [List.append_nil] at hl ⊢
  exact .of_eq (h us hl)
def Passes (CX:CXT) (X:Cx) (E:XK) : Prop := ∀ (pins:List (Addr × Obj)) (σ:St) (H:Hp) (s:Shared) (e:Value) (s':Shared), Inv X pins σ H s -> CX X.stack H s E e s' -> X.xe e s'
section
variable {X:Cx} {CX:CXT} {k:Nat} {f C:Addr} {fd:FuncData} {ps:List Str} {sp:Sp} {dvs:List V} {ds:List Value} {E:XK} {x m:Str} {p pos apos:Pos} {e o:Expr} {es:List Expr} {ta:TE} {t:TA}
theorem run_fn {pins:List (Addr × Obj)} {σ:St} {H:Hp} {s:Shared} {Q:VK} {us:List Value} {vs:List V} (F:FnOk X.prog X.w X.K X.mg X.base CX k f fd ps sp) (hr:Room k X.A) (hb:Binds X.K fd ps ds) (hd:Vals dvs ds) (hx:Passes CX X E)
    (I:Inv X pins σ H s) (r:Vals vs us) (h:sp (vs ++ dvs) H Q E) : wpAny (model X.prog X.w) X.A (call (.ref f) us) (EP X pins σ Q) X.xe s := by
  have r2:Vals (vs ++ dvs) (us ++ ds) := r.append hd
  have hl:(us ++ ds).length = ps.length := by rw [<- r2.length]; exact F.len _ _ _ _ h
  refine wpAny_call (codeAny_mono (F.run X.A X.stack s H ⟨us, []⟩ (us ++ ds) (vs ++ dvs) Q E hr I.env0 (hb s us I.kIn hl) r2 h) fun r s' hq => ?_)
  cases r with
  | error e => exact hx pins σ H s e s' I hq
  | ok fl =>
    cases fl with
    | ret u => exact I.after hq
    | next => exact False.elim hq
    | brk => exact False.elim hq
    | cont => exact False.elim hq
theorem pe_call (F:FnOk X.prog X.w X.K X.mg X.base CX k f fd ps sp) (hr:Room k X.A) (hg:Gl X x) (hm:X.mg x = some (.ref f)) (hk:PySem.W.keepIn X.K (.ref f) = true) (hb:Binds X.K fd ps ds) (hd:Vals dvs ds) (hx:Passes CX X E)
    (ha : PA X (e :: es) t) (hdb : (x == ("__debug__" : Str)) = false := by decide) (he : starEach (e :: es) X.env = (false, eval e X.env) :: starEach es X.env := by rfl) (hpl : (backTo pos (starEach es X.env)).any (·.1) = false := by rfl) :
    PE X (.Call (.Name x p) (e :: es) [] pos) (tCall sp dvs E t) := by
  intro pins s σ H Q I h
  refine wpAny_Call_Name_kw (ld_glob I hg hm ?_ hdb)
  refine PySem.W.callWith_K (h₀ := X.base) I.ok.mod.kin hk (thn (ha pos pins s σ H _ I h) fun us s1 ⟨vs, H1, I1, r, q⟩ => ⟨I1.kIn, ?_⟩) he hpl
  exact run_fn F hr hb hd hx I1 r q
structure Mk (K:PySem.W.Frag) (C f:Addr) : Prop where
  makes:PySem.W.makesIn K C = true
  init : PySem.W.findIn K (.ref C) "__init__" = some (some (.ref f))
  fn:PySem.W.isFn K (.ref f) = true
  kp:PySem.W.keepIn K (.ref C) = true
end
section
variable {X:Cx} {CX:CXT} {k:Nat} {f C:Addr} {fd:FuncData} {ps ks:List Str} {sp:Sp} {E:XK} {x m:Str} {p pos apos kpos:Pos} {e o:Expr} {es:List Expr} {kws:List Keyword} {te ta:TE} {t tk:TA} {nm:Option Str}
structure KBinds (K:PySem.W.Frag) (fd:FuncData) (ps ks:List Str) (g:List Value -> List Value -> List Value) (gV:List V -> List V -> List V) : Prop where
  to:∀ (s:Shared) (us ws:List Value), K.In s.heap -> (g us ws).length = ps.length -> BindsTo s fd ⟨us, ks.zip ws⟩ (ps.zip (g us ws))
  rel:∀ {vs:List V} {us:List Value} {zs:List V} {ws:List Value}, Vals vs us -> Vals zs ws -> Vals (gV vs zs) (g us ws)
variable {g:List Value -> List Value -> List Value} {gV:List V -> List V -> List V}
end
structure FnScope (N P:List Str) (sc:Scope) : Prop where
  kind:sc.kind = .function
  co:sc.isCoroutine = false
  gen:sc.isGenerator = false
  nd:N.Nodup
  pre:N.take P.length = P
  par:∀ x ∈ P, sc.names.lookup x = some .local \/ sc.names.lookup x = some .cell
  nofree:∀ y ∈ sc.names, y.2 ≠ .free
theorem bindL_out {kindOf:Str -> Option NameKind} {x:Str} : ∀ {binds:List (Str × Value)} {m:Str -> Option Value}, (∀ v, (x, v) ∉ binds) -> bindL kindOf binds m x = m x
  | [], _, _ => rfl
  | (n, v) :: r, m, h => by
    unfold bindL
    rw [bindL_out fun w hw => h w (List.mem_cons_of_mem _ hw)]
    split
    · have:x ≠ n := by rintro rfl; exact h v List.mem_cons_self
      simp [this]
    · rfl
theorem bindC_out {kindOf:Str -> Option NameKind} {x:Str} : ∀ {binds:List (Str × Value)} {m:Str -> Option Value}, (∀ v, (x, v) ∉ binds) -> bindC kindOf binds m x = m x
  | [], _, _ => rfl
  | (n, v) :: r, m, h => by
    unfold bindC
    rw [bindC_out fun w hw => h w (List.mem_cons_of_mem _ hw)]
    split
    · rfl
    · have:x ≠ n := by rintro rfl; exact h v List.mem_cons_self
      simp [this]
theorem bindL_get {kindOf:Str -> Option NameKind} {x:Str} {v:Value} : ∀ {P:List Str} {vs:List Value} {i:Nat} {m:Str -> Option Value}, P.Nodup -> P[i]? = some x -> vs[i]? = some v -> kindOf x = some .local ->
    bindL kindOf (P.zip vs) m x = some v
  | [], _, _, _, _, h, _, _ => by simp at h
  | _ :: _, [], _, _, _, _, h, _ => by simp at h
  | p :: P, w :: vs, 0, m, nd, h1, h2, hk => by
    simp at h1 h2; subst h1; subst h2
    show bindL kindOf ((p, w) :: P.zip vs) m p = _
    unfold bindL
    rw [bindL_out fun v hv => (List.nodup_cons.mp nd).1 (List.of_mem_zip hv).1, if_pos hk]
    simp
  | p :: P, w :: vs, i + 1, m, nd, h1, h2, hk => by
    show bindL kindOf ((p, w) :: P.zip vs) m x = _
    unfold bindL
    exact bindL_get (i := i) (List.nodup_cons.mp nd).2 (by simpa using h1) (by simpa using h2) hk
theorem bindC_get {kindOf:Str -> Option NameKind} {x:Str} {v:Value} : ∀ {P:List Str} {vs:List Value} {i:Nat} {m:Str -> Option Value}, P.Nodup -> P[i]? = some x -> vs[i]? = some v -> kindOf x ≠ some .local ->
    bindC kindOf (P.zip vs) m x = some v
  | [], _, _, _, _, h, _, _ => by simp at h
  | _ :: _, [], _, _, _, _, h, _ => by simp at h
  | p :: P, w :: vs, 0, m, nd, h1, h2, hk => by
    simp at h1 h2; subst h1; subst h2
    show bindC kindOf ((p, w) :: P.zip vs) m p = _
    unfold bindC
    rw [bindC_out fun v hv => (List.nodup_cons.mp nd).1 (List.of_mem_zip hv).1, if_neg hk]
    simp
  | p :: P, w :: vs, i + 1, m, nd, h1, h2, hk => by
    show bindC kindOf ((p, w) :: P.zip vs) m x = _
    unfold bindC
    exact bindC_get (i := i) (List.nodup_cons.mp nd).2 (by simpa using h1) (by simpa using h2) hk
def start (N:List Str) (vs:List V) : St := vs.map some ++ List.replicate (N.length - vs.length) none
def cxOf (CX:CXT) (P:Program) (w:World) (K:PySem.W.Frag) (mg:Str -> Option Value) (base:Heap) (N:List Str) (qual:Str) (scope:Scope) (f:Addr) (cd:Value) (A:Around) (outer:List Env) (s:Shared) (H:Hp) (E:XK) : Cx where
  prog := P
  w := w
  K := K
  mg := mg
  base := base
  A := A.deeper (envOfC qual scope s.heap.objs.size f cd)
  N := N
  s₀ := s
  H₀ := H
  env := envOfC qual scope s.heap.objs.size f cd
  outer := outer
  stack := envOfC qual scope s.heap.objs.size f cd :: outer
  ex := []
  calm := true
  fn := fun _ => true
  pn := []
  xe := fun e s' => wpAny (model P w) (A.deeper (envOfC qual scope s.heap.objs.size f cd)) (leaving (envOfC qual scope s.heap.objs.size f cd) e) (fun _ s'' => CX outer H s E e s'') (fun e' s'' => CX outer H s E e' s'') s'
theorem cell_has {sc:Scope} {n:Nat} {x:Str} (h:sc.names.lookup x = some .cell) : ∃ c, (cellsFrom n sc.names []).lookup x = some c := by
  have q := PySem.W.cellsFrom_some sc.names n [] (.inl h)
  exact Option.isSome_iff_exists.mp q
theorem inv_start {CX:CXT} {P:Program} {w:World} {K:PySem.W.Frag} {mg:Str -> Option Value} {base:Heap} {N ps:List Str} {qual:Str} {scope:Scope} {f:Addr} {cd:Value} {A:Around} {outer:List Env} {s s1:Shared} {H:Hp} {E:XK} {us:List Value} {vs:List V}
    (S:FnScope N ps scope) (hd:A.handled = none) (e0:Env0 P w K mg base A outer s H) (hl:vs.length = ps.length) (r:Vals vs us)
    (x:InCallC s s.heap.objs.size (bindL (envOfC qual scope s.heap.objs.size f cd).kindOf (ps.zip us) fun _ => none) (cellsFrom (s.heap.objs.size + 1) scope.names []) (bindC (envOfC qual scope s.heap.objs.size f cd).kindOf (ps.zip us) fun _ => none) s1) :
    Inv (cxOf CX P w K mg base N qual scope f cd A outer s H E) [] (start N vs) H s1 := by
  have hpl:ps.length <= N.length := by have := congrArg List.length S.pre; rw [List.length_take] at this; omega
  obtain ⟨h1, tk, rfl, hk⟩ := x.done
  have noA:∀ b:Addr, b ∉ (cxOf CX P w K mg base N qual scope f cd A outer s H E).ex := fun b z => absurd (show b ∈ ([] : List Addr) from z) (by simp)
  refine ⟨⟨e0.mod, S.kind, rfl, rfl, Nat.le_refl _, fun y z c h1 h2 => ?_, fun y hy => ?_, fun y c _ h => ?_, fun _ => hd, Around.frames_deeper e0.frames, .inr ⟨rfl, rfl⟩, fun b z => absurd z (noA b), e0.bs, e0.bsz, fun b _ _ => noA b, fun b z => absurd z (noA b), e0.funs, e0.frf⟩,
    rfl, e0.bare, Un.kept hk, ⟨_, x.toInCall.ns, fun i y v h1 h2 h3 => ?_⟩, fun y c h => ⟨_, x.cell y c h⟩, e0.hok.fresh (Nat.le_refl _), fun y c h => ?_, fun p hp => absurd (show p ∈ ([] : List (Addr × Obj)) from hp) (by simp), e0.hok.kept hk, ?_⟩
  · exact name_of_addr x.apart (PySem.mem_of_lookup h1) (PySem.mem_of_lookup h2)
  · have hy:scope.names.lookup y = some .cell \/ scope.names.lookup y = some .free := hy
    rcases hy with hy | hy
    · exact cell_has hy
    · exact absurd rfl (S.nofree _ (PySem.mem_of_lookup hy))
  · exact Nat.le_of_lt (x.above y c (PySem.mem_of_lookup h))
  · have hi:i < vs.length := by
      unfold start at h2
      by_cases hi:i < vs.length
      · exact hi
      · rw [List.getElem?_append_right (by simpa using hi)] at h2
        rw [List.getElem?_replicate] at h2
        split at h2 <;> cases h2
    have ha:vs[i]? = some v := by
      unfold start at h2
      rw [List.getElem?_append_left (by simpa using hi), List.getElem?_map] at h2
      cases e:vs[i]? with
      | none => rw [e] at h2; cases h2
      | some a => rw [e] at h2; cases h2; rfl
    obtain ⟨u, hu, rv⟩ := r.get ha
    have hp:ps[i]? = some y := by
      rw [<- S.pre, List.getElem?_take_of_lt (by omega)]; exact h1
    have ndP:ps.Nodup := by rw [<- S.pre]; exact S.nd.sublist (List.take_sublist _ _)
    refine ⟨u, rv, ?_⟩
    rcases S.par y (List.mem_of_getElem? hp) with k | k
    · exact .inl ⟨k, bindL_get ndP hp hu k⟩
    · obtain ⟨c, e⟩ := cell_has (n := s.heap.objs.size + 1) k
      refine .inr ⟨.inl k, c, e, ?_⟩
      have q := x.cell y c e
      rw [bindC_get ndP hp hu (by show scope.names.lookup y ≠ _; rw [k]; decide)] at q
      exact q
  · exact e0.hok.fresh (Nat.le_of_lt (x.above y c (PySem.mem_of_lookup h)))
  · unfold start
    show _ = N.length
    rw [List.length_append, List.length_map, List.length_replicate]
    omega
theorem fn_of {CX:CXT} {P:Program} {w:World} {K:PySem.W.Frag} {mg:Str -> Option Value} {base:Heap} {k:Nat} {f:Addr} {name qual:Str} {params:Arguments} {body:List Stmt} {scope:Scope} {dV kV doc pm cdv ct oc:Value} {an od:Option Addr}
    {osl:Array (Option Value)} {N ps:List Str} {sp:Sp} (lk:K.lookup f = some ⟨oc, od, .func (PySem.W.fnOf name qual params body scope dV kV doc pm an cdv ct), osl⟩) (hcd:PySem.W.codeIn K cdv qual = true) (S:FnScope N ps scope)
    (len:∀ vs H Q E, sp vs H Q E -> vs.length = ps.length)
    (hbody:∀ (A:Around) (outer:List Env) (s:Shared) (H:Hp) (vs:List V) (Q:VK) (E:XK), Room k (A.deeper (envOfC qual scope s.heap.objs.size f cdv)) -> sp vs H Q E ->
      ∃ t, PSs (cxOf CX P w K mg base N qual scope f cdv A outer s H E) body t /\ t { nx := fun _ H' => Q .non H', rt := Q } (start N vs) H) :
    FnOk P w K mg base CX (k + 1) f (PySem.W.fnOf name qual params body scope dV kV doc pm an cdv ct) ps sp := by
  refine ⟨len, fun A outer s H args us vs Q E hr e0 hb r hsp => ?_⟩
  have hl := len _ _ _ _ hsp
  have KX:K.In s.heap := e0.mod.kin.keeps fun b o e => (e0.bs b o e).1
  have lim:s.heap.NoLimit := e0.mod.nolimit.keeps fun b o e => (e0.bs b o e).1
  have hkind:∀ y ∈ ps.zip us, scope.names.lookup y.1 = some .local \/ (scope.names.lookup y.1 = some .cell /\ ((cellsFrom (s.heap.objs.size + 1) scope.names []).lookup y.1).isSome = true) := fun ⟨n, v⟩ hy => by
    rcases S.par n (List.of_mem_zip hy).1 with q | q
    · exact .inl q
    · exact .inr ⟨q, PySem.W.cellsFrom_some _ _ _ (.inl q)⟩
  refine codeAny_call_function hr.depth (KX _ _ lk) rfl S.co S.gen rfl (PySem.W.codeRec_of KX hcd) (hb _ _ _ _ ?_)
  refine wpAny_newFunctionEnv_cells S.kind hkind fun env he s1 x => ?_
  subst he
  refine ⟨lim.keeps x.toInCall.keep, codeAny_func ?_⟩
  obtain ⟨t, ht, hq⟩ := hbody A outer s H vs Q E (hr.deeper _) hsp
  have I:Inv (cxOf CX P w K mg base N qual scope f cdv A outer s H E) [] (start N vs) H s1 := inv_start S hr.hd e0 hl r x
  refine wpAny_mono (ht [] s1 (start N vs) H _ I hq) (fun fl s' hs => ?_) fun e s' hs => hs
  have fin:∀ {σ':St} {H':Hp} {v:V} {u:Value}, Inv (cxOf CX P w K mg base N qual scope f cdv A outer s H E) [] σ' H' s' -> RelV v u -> Q v H' -> CE outer P w H s Q u s' :=
    fun {σ' H' v u} J rv q => ⟨v, H', J.os, J.bare, J.base, J.hok, rv, q⟩
  cases fl with
  | ret u =>
    obtain ⟨v, σ', H', J, rv, q⟩ := hs
    exact fin J rv q
  | next =>
    obtain ⟨σ', H', J, q⟩ := hs
    exact fin (v := V.non) (u := Value.none) J rfl q
  | brk =>
    obtain ⟨_, _, _, q⟩ := hs
    exact False.elim q
  | cont =>
    obtain ⟨_, _, _, q⟩ := hs
    exact False.elim q
end L2
namespace L2
open PySem PySem.Spec PyProof.Rows
section
variable {X:Cx} {x:Str} {p pos:Pos} {e:Expr} {es:List Expr} {t:TA} {id T:String} {r:List V -> Hp -> VK -> Prop}
def tCB (r:List V -> Hp -> VK -> Prop) (t:TA) : TE := fun σ H Q => t σ H fun vs H1 => r vs H1 Q
theorem pe_callB (hc : CallR X (.builtin id) r) (hg : Gl X x) (hm : X.mg x = none) (hv : bootBuiltins x = some (.builtin id)) (ha : PA X (e :: es) t) (hn : x ≠ "__name__" := by decide) (hdb : (x == ("__debug__" : Str)) = false := by decide)
    (he:starEach (e :: es) X.env = (false, eval e X.env) :: starEach es X.env := by rfl) (hpl:(backTo pos (starEach es X.env)).any (·.1) = false := by rfl) : PE X (.Call (.Name x p) (e :: es) [] pos) (tCB r t) := by
  intro pins s σ H Q I h
  refine wpAny_Call_Name_kw (ld_blt I hg hm hv ?_ hn hdb)
  exact PyProof.Rows.callWith_builtin1 (thn (ha pos pins s σ H _ I h) fun us s1 ⟨vs, H1, I1, r1, q1⟩ => hc pins s1 σ H1 vs us Q I1 r1 q1) he hpl
theorem pe_callTy (hc : CallR X (.type T) r) (hg : Gl X x) (hm : X.mg x = none) (hv : bootBuiltins x = some (.type T)) (ha : PA X (e :: es) t) (hn : x ≠ "__name__" := by decide) (hdb : (x == ("__debug__" : Str)) = false := by decide)
    (he:starEach (e :: es) X.env = (false, eval e X.env) :: starEach es X.env := by rfl) (hpl:(backTo pos (starEach es X.env)).any (·.1) = false := by rfl) : PE X (.Call (.Name x p) (e :: es) [] pos) (tCB r t) := by
  intro pins s σ H Q I h
  refine wpAny_Call_Name_kw (ld_blt I hg hm hv ?_ hn hdb)
  exact PyProof.Rows.callWith_type1 (thn (ha pos pins s σ H _ I h) fun us s1 ⟨vs, H1, I1, r1, q1⟩ => hc pins s1 σ H1 vs us Q I1 r1 q1) he hpl
end
end L2
namespace HT
open PySem PyProof.Rows
section
open PySem.SeqAt
open PySem.AutoSeq1 (wpAny_loadPart')
open PySem.MeetsSeq PySem.MeetsSeq2 PySem.MeetsSeq3
end
section
variable {prog:Program} {w:World} {A:Around} {E:Value -> Shared -> Prop} {s:Shared}
theorem cat_tup {t b:Addr} {vs ws:List Value} {Q:Value -> Shared -> Prop} (ht:IsTup s.heap t vs.toArray) (hb:IsTup s.heap b ws.toArray) (hv:vs ≠ [])
    (h1 : ws = [] -> Q (.ref t) s) (h2 : ws ≠ [] -> Q (.ref s.heap.objs.size) { s with heap := s.heap.push { cls := .type "tuple", data := .seq (vs ++ ws).toArray } })
    (hsz:vs.length + ws.length <= sizeLine) : wpAny (model prog w) A (binaryOp .Add (.ref t) (.ref b)) Q E s := by
  obtain ⟨⟨cls, dd, data, sl⟩, ho, hc, n, hd⟩ := id ht
  obtain ⟨⟨cls2, dd2, data2, sl2⟩, ho2, hc2, n2, hd2⟩ := id hb
  simp only at hc hd hc2 hd2
  subst hc hd hc2 hd2
  have e:vs.toArray ++ ws.toArray = (vs ++ ws).toArray := by simp
  by_cases hw:ws = []
  · exact concat_meets ⟨_, ho, rfl⟩ ⟨_, ho2, rfl⟩ noFill_tuple_add seq_tuple_add PySem.F.slot_tuple_add PySem.F.entry_tuple_add (PySem.F.args_tuple_add_2 _ _)
      (tuple_addW1 t b vs.toArray ws.toArray n n2 dd dd2 sl sl2 (by simpa using hv) (by simp [hw])) ⟨ho, ho2, h1 hw⟩
  · refine concat_meets ⟨_, ho, rfl⟩ ⟨_, ho2, rfl⟩ noFill_tuple_add seq_tuple_add PySem.F.slot_tuple_add PySem.F.entry_tuple_add (PySem.F.args_tuple_add_2 _ _)
      (tuple_addW2 t b vs.toArray ws.toArray n n2 dd dd2 sl sl2 (by simpa using hv) (by simpa using hw) (by rw [List.size_toArray, List.size_toArray]; exact hsz)) ⟨ho, ho2, ?_⟩
    rw [e]
    exact h2 hw
def sIx (n d:Nat) : Option Int -> Nat
  | none => d
  | some v => if v < 0 then (v + (n:Int)).toNat else min v.toNat n
theorem sIx_nat (n d k:Nat) : sIx n d (some (k:Int)) = min k n := by
  show (if (k:Int) < 0 then ((k:Int) + (n:Int)).toNat else min (k:Int).toNat n) = min k n
  rw [if_neg (by omega), Int.toNat_natCast]
theorem sIx_le (n d:Nat) (hd:d <= n) (o:Option Int) : sIx n d o <= n := by
  cases o with
  | none => exact hd
  | some v =>
    show (if v < 0 then (v + (n:Int)).toNat else min v.toNat n) <= n
    by_cases hv:v < 0
    · rw [if_pos hv]; omega
    · rw [if_neg hv]; exact Nat.min_le_right _ _
theorem clip_eq (v:Int) (n d:Nat) : (if v < 0 then max (v + (n:Int)) 0 else min v (n:Int)) = ((sIx n d (some v) : Nat) : Int) := by
  show (if v < 0 then max (v + (n:Int)) 0 else min v (n:Int)) = (((if v < 0 then (v + (n:Int)).toNat else min v.toNat n) : Nat) : Int)
  by_cases hv:v < 0
  · simp only [if_pos hv]; omega
  · simp only [if_neg hv]; omega
theorem adjust_gen (lo hi:Option Int) (n:Nat) : Builtin.Slice.sliceAdjust lo hi 1 (n:Int) = (((sIx n 0 lo:Nat) : Int), ((sIx n n hi:Nat) : Int)) := by
  have h1:¬ ((1:Int) < 0) := by omega
  unfold Builtin.Slice.sliceAdjust
  simp only [h1, if_false]
  refine Prod.ext ?_ ?_
  · cases lo with
    | none => rfl
    | some v => exact clip_eq v n 0
  · cases hi with
    | none => rfl
    | some v => exact clip_eq v n n
theorem places_gen (i j:Nat) : Builtin.Slice.slicePlaces (i:Int) (j:Int) 1 = j - i := by
  unfold Builtin.Slice.slicePlaces
  have h1:(1:Int) > 0 := by omega
  simp only [h1, if_true, Int.ediv_one]
  split <;> omega
theorem slicePart_ {v:Value} {o:Option Int} {Q:Option Int -> Shared -> Prop} (p:IsPart v o) (h:Q o s) : wpAny (model prog w) A (Builtin.Slice.slicePartIndex v) Q E s := by
  cases p with
  | none => exact slicePart_none h
  | int i t => exact slicePart_int h
theorem sliceApplied_gen {sl:Addr} {vl vu:Value} {lo hi:Option Int} {n:Nat} {Q:Int × Int × Nat -> Shared -> Prop} (hs:s.heap.IsSliceOf sl vl vu .none) (pl:IsPart vl lo) (pu:IsPart vu hi)
    (h:Q (((sIx n 0 lo:Nat) : Int), 1, sIx n n hi - sIx n 0 lo) s) : wpAny (model prog w) A (Builtin.Slice.sliceApplied (.ref sl) (pure (n:Int))) Q E s := by
  obtain ⟨os, hos, hcs, hds⟩ := id hs
  unfold Builtin.Slice.sliceApplied Builtin.Slice.sliceFields
  refine wpAny_bind (wpAny_bind (wpAny_field hos hds (x := vl) rfl (wpAny_bind (wpAny_field hos hds (x := vu) rfl (wpAny_bind (wpAny_field hos hds (x := .none) rfl (wpAny_pure ?_)))))))
  refine wpAny_bind (slicePart_none ?_)
  show wpAny _ _ (if ((1:Int) == 0) = true then _ else _) _ _ s
  rw [if_neg (by decide)]
  refine wpAny_bind (slicePart_ pl (wpAny_bind (slicePart_ pu (wpAny_bind (wpAny_pure ?_)))))
  show wpAny _ _ (match Builtin.Slice.sliceAdjust lo hi 1 (n:Int) with | (lo, hi) => pure (lo, (1:Int), Builtin.Slice.slicePlaces lo hi 1)) _ _ s
  rw [adjust_gen lo hi n]
  show wpAny _ _ (pure (((sIx n 0 lo:Nat) : Int), (1:Int), Builtin.Slice.slicePlaces ((sIx n 0 lo:Nat) : Int) ((sIx n n hi:Nat) : Int) 1)) _ _ s
  rw [places_gen]
  exact wpAny_pure h
theorem pick_gen (xs:Array Value) (i k:Nat) : ((List.range k).filterMap fun (m:Nat) => xs[((i:Int) + (m:Int) * 1).toNat]?).toArray = ((xs.toList.drop i).take k).toArray := by
  have e:(fun (m:Nat) => xs[((i:Int) + (m:Int) * 1).toNat]?) = fun m => xs[i + m]? := by
    funext m
    have:((i:Int) + (m:Int) * 1).toNat = i + m := by omega
    rw [this]
  rw [e]
  have := pick_run xs i k
  rw [List.filterMap_map] at this
  have e2:((fun x => xs[x]?) ∘ fun x => i + x) = fun m => xs[i + m]? := rfl
  rw [e2] at this
  rw [this]
theorem getItem_tuple_cut {t sl:Addr} {items:Array Value} {vl vu:Value} {lo hi:Option Int} {Q:Value -> Shared -> Prop} (ht:IsTup s.heap t items) (hs:s.heap.IsSliceOf sl vl vu .none) (pl:IsPart vl lo) (pu:IsPart vu hi)
    (hw:¬ (sIx items.size 0 lo = 0 /\ sIx items.size items.size hi = items.size))
    (h : Q (.ref s.heap.objs.size) { s with heap := s.heap.push { cls := .type "tuple", data := .seq ((items.toList.drop (sIx items.size 0 lo)).take (sIx items.size items.size hi - sIx items.size 0 lo)).toArray } })
    (hsz:items.size <= sizeLine) : wpAny (model prog w) A (getItem (.ref t) (.ref sl)) Q E s := by
  have htake:sizeOk (.seq ((items.toList.drop (sIx items.size 0 lo)).take (sIx items.size items.size hi - sIx items.size 0 lo)).toArray) := by
    show ((items.toList.drop (sIx items.size 0 lo)).take (sIx items.size items.size hi - sIx items.size 0 lo)).toArray.size <= sizeLine
    rw [List.size_toArray, List.length_take, List.length_drop, Array.length_toList]
    omega
  have hj:sIx items.size items.size hi <= items.size := sIx_le _ _ (Nat.le_refl _) hi
  obtain ⟨os, hos, hcs, hds⟩ := id hs
  have hTs : s.TypeIs (.ref sl) "slice" := ⟨os, hos, hcs⟩
  unfold getItem
  try with_reducible refine wpAny_holding ?_
  first | refine wpAny_bind (wpAny_pure ?_) | skip
  refine wpAny_bind (wpAny_sequenceKey ht.typeIs (by decide) ?_)
  refine wpAny_bind (wpAny_callSpecial?_slot (name := Str.ofString "__getitem__") ht.typeIs PyProof.Rows.slot_tuple_getitem
    (wpAny_call_entry PyProof.Rows.slot_tuple_getitem ht.typeIs entry_tuple_getitem ?_ (args_tuple_getitem _ _)))
  show wpAny _ _ (Builtin.Tuple.tupleItemsOf (.ref t) >>= _) _ _ s
  refine wpAny_bind (tupleItemsOf_ ht ?_)
  refine wpAny_bind (wpAny_typeOf hTs ?_)
  rw [if_pos (by decide)]
  refine wpAny_bind (sliceApplied_gen hs pl pu ?_)
  have hno:¬ ((((sIx items.size 0 lo:Nat) : Int) == 0 && (1:Int) == 1 && (sIx items.size items.size hi - sIx items.size 0 lo) == items.size) = true) := by
    intro q
    rw [Bool.and_eq_true, Bool.and_eq_true] at q
    have q1:((sIx items.size 0 lo:Nat) : Int) = 0 := eq_of_beq q.1.1
    have q2:sIx items.size items.size hi - sIx items.size 0 lo = items.size := eq_of_beq q.2
    exact hw ⟨by omega, by omega⟩
  show wpAny _ _ (if (((sIx items.size 0 lo:Nat) : Int) == 0 && (1:Int) == 1 && (sIx items.size items.size hi - sIx items.size 0 lo) == items.size) = true then _ else _) _ _ s
  rw [if_neg hno, pick_gen]
  first
    | exact wpAny_bind (m := Builtin.Tuple.tupleExact _) (wpAny_newObj_type (wpAny_pure ⟨_, rfl, wpAny_pure h⟩) htake)
    | exact wpAny_bind (m := Builtin.Tuple.tupleExact _) (wpAny_newObj_type (wpAny_bind (wpAny_pure (wpAny_pure ⟨_, rfl, wpAny_pure h⟩))) htake)
    | exact wpAny_bind (wpAny_bind (m := Builtin.Tuple.tupleExact _) (wpAny_newObj_type (wpAny_pure (wpAny_pure ⟨_, rfl, wpAny_pure h⟩)) htake))
    | exact wpAny_bind (wpAny_bind (m := Builtin.Tuple.tupleExact _) (wpAny_newObj_type (wpAny_pure ⟨_, rfl, wpAny_pure h⟩) htake))
end
end HT
namespace L2
open PySem PySem.Spec PyProof.Rows
abbrev TO := St -> Hp -> (Option Int -> Hp -> Prop) -> Prop
def PO (X:Cx) (e:Option Expr) (t:TO) : Prop :=
  ∀ (pins:List (Addr × Obj)) (s:Shared) (σ:St) (H:Hp) (Q:Option Int -> Hp -> Prop), Inv X pins σ H s -> t σ H Q ->
    wpAny (model X.prog X.w) X.A (evalPart e X.env) (fun u s' => ∃ o H', Inv X pins σ H' s' /\ IsPart u o /\ Q o H') X.xe s
def tPart (t:TE) : TO := fun σ H Q => t σ H fun x H1 => ∃ i, x = .int i /\ Q (some i) H1
section
variable {X:Cx} {e:Expr} {te:TE} {lo hi:Option Expr} {tl th:TO} {pos p2:Pos}
theorem po_some (h:PE X e te) : PO X (some e) (tPart te) := by
  intro pins s σ H Q I hw
  rw [evalPart_some]
  refine thn (h pins s σ H _ I hw) fun u s1 ⟨x, H1, I1, r1, q1⟩ => ?_
  obtain ⟨i, rfl, q⟩ := q1
  obtain ⟨t, rfl⟩ := r1
  exact ⟨some i, H1, I1, .int i t, q⟩
def SlR (X:Cx) (r:V -> Option Int -> Option Int -> Hp -> VK -> Prop) : Prop :=
  ∀ (pins:List (Addr × Obj)) (s:Shared) (σ:St) (H:Hp) (x:V) (v vl vu:Value) (lo hi:Option Int) (sl:Addr) (Q:VK), Inv X pins σ H s -> RelV x v -> s.heap.IsSliceOf sl vl vu .none -> IsPart vl lo -> IsPart vu hi -> r x lo hi H Q ->
    ∃ T id, typeLookup (.type T) "__getitem__" = pure (some (.builtin id)) /\ s.TypeIs v T /\ wpAny (model X.prog X.w) X.A (getItem v (.ref sl)) (EP X pins σ Q) X.xe s
theorem SlR.or {r r':V -> Option Int -> Option Int -> Hp -> VK -> Prop} (h:SlR X r) (h':SlR X r') : SlR X (fun x lo hi H Q => r x lo hi H Q \/ r' x lo hi H Q) := by
  intro pins s σ H x v vl vu lo hi sl Q I rx hs pl pu q
  rcases q with q | q
  · exact h pins s σ H x v vl vu lo hi sl Q I rx hs pl pu q
  · exact h' pins s σ H x v vl vu lo hi sl Q I rx hs pl pu q
def tSl (r:V -> Option Int -> Option Int -> Hp -> VK -> Prop) (te:TE) (tl th:TO) : TE := fun σ H Q => te σ H fun x H1 => tl σ H1 fun l H2 => th σ H2 fun u H3 => r x l u H3 Q
theorem pe_slice {r:V -> Option Int -> Option Int -> Hp -> VK -> Prop} (hr:SlR X r) (he:PE X e te) (hl:PO X lo tl) (hu:PO X hi th) : PE X (.Subscript e (.Slice lo hi none p2) pos) (tSl r te tl th) := by
  intro pins s σ H Q I h
  refine Subscript_ (thn (he pins s σ H _ I h) fun v s1 ⟨x, H1, I1, r1, q1⟩ => ?_)
  refine wpAny_Slice (thn (hl pins s1 σ H1 _ I1 q1) fun vl s2 ⟨l, H2, I2, pl, q2⟩ => thn (hu pins s2 σ H2 _ I2 q2) fun vu s3 ⟨u, H3, I3, pu, q3⟩ => ?_)
  rw [evalPart_none]
  refine wpAny_pure ?_
  have I4 : Inv X pins σ H3 { s3 with heap := s3.heap.push { cls := .type "slice", data := .fields #[vl, vu, .none] } } := I3.kept (t' := s3.toks) fun b ob q => Heap.get?_push_of_some _ q
  obtain ⟨T, id, hT, ht, hg⟩ := hr pins { s3 with heap := s3.heap.push { cls := .type "slice", data := .fields #[vl, vu, .none] } } σ H3 x v vl vu l u s3.heap.objs.size Q I4 r1 (Heap.IsSliceOf.new ..) pl pu q3
  show wpAny (model X.prog X.w) X.A (subscriptTail e (.Slice lo hi none p2) v (.ref s3.heap.objs.size)) (EP X pins σ Q) X.xe { s3 with heap := s3.heap.push { cls := .type "slice", data := .fields #[vl, vu, .none] } }
  exact tail_any (ops := [.ref s3.heap.objs.size, v]) ht hT hg (by with_unfolding_all rfl)
def cutV (xs:List V) (lo hi:Option Int) : List V := (xs.drop (HT.sIx xs.length 0 lo)).take (HT.sIx xs.length xs.length hi - HT.sIx xs.length 0 lo)
theorem cutV_length (xs:List V) (lo hi:Option Int) : (cutV xs lo hi).length <= xs.length := by
  unfold cutV
  rw [List.length_take, List.length_drop]
  omega
def rSlT (K:PySem.W.Frag) : V -> Option Int -> Option Int -> Hp -> VK -> Prop := fun x lo hi H Q => ∃ a xs, x = .ref a /\ SqT K H a xs /\
  ¬ (HT.sIx xs.length 0 lo = 0 /\ HT.sIx xs.length xs.length hi = xs.length) /\ ∀ p, H p = none -> Q (.ref p) (upd H p (.tup (cutV xs lo hi)))
theorem sl_tup:SlR X (rSlT X.K) := by
  intro pins s σ H x v vl vu lo hi sl Q I rx hs pl pu h
  obtain ⟨a, xs, rfl, hx, hw, q⟩ := h
  cases rx
  obtain ⟨its, r, ht, hz⟩ := I.tuple hx
  have hlen:its.toArray.size = xs.length := by rw [List.size_toArray]; exact r.length.symm
  refine ⟨"tuple", _, PyProof.Rows.slot_tuple_getitem.lookup, ht.typeIs, ?_⟩
  refine HT.getItem_tuple_cut ht hs pl pu (by rw [hlen]; exact hw) ?_ (by rw [hlen]; exact hz)
  rw [hlen]
  refine ⟨.ref s.heap.objs.size, _, I.laid (t' := s.toks) (o := .tup (cutV xs lo hi)) (fun b ob q => Heap.get?_push_of_some _ q) (Nat.le_refl _) ?_, rfl, q _ (I.hok.fresh (Nat.le_refl _))⟩
  exact ⟨Nat.le_trans (cutV_length xs lo hi) hz, _, (r.drop (HT.sIx xs.length 0 lo)).take (HT.sIx xs.length xs.length hi - HT.sIx xs.length 0 lo), IsTup.new _ _⟩
def rCatT (K:PySem.W.Frag) : R2 := fun x y H Q => ∃ a b xs ys, x = .ref a /\ y = .ref b /\ SqT K H a xs /\ SqT K H b ys /\ xs ≠ [] /\ xs.length + ys.length <= sizeLine /\
  (ys = [] -> Q (.ref a) H) /\ (ys ≠ [] -> ∀ p, H p = none -> Q (.ref p) (upd H p (.tup (xs ++ ys))))
theorem Vals.nil_iff {xs:List V} {us:List Value} (r:Vals xs us) : us = [] ↔ xs = [] := by
  cases r with
  | nil => simp
  | cons _ _ => simp
theorem op_catT:OpR X (binaryOp .Add) (rCatT X.K) := by
  intro pins s σ H x y v u Q I rx ry h
  obtain ⟨a, b, xs, ys, rfl, rfl, ha, hb, hx, hz, q1, q2⟩ := h
  cases rx
  cases ry
  obtain ⟨its, r1, p1, _⟩ := I.tuple ha
  obtain ⟨its2, r2, p2, _⟩ := I.tuple hb
  refine HT.cat_tup p1 p2 (fun z => hx (r1.nil_iff.mp z)) (fun z => ⟨.ref a, H, I, rfl, q1 (r2.nil_iff.mp z)⟩) (fun z => ?_) (by rw [<- r1.length, <- r2.length]; exact hz)
  refine ⟨.ref s.heap.objs.size, _, I.laid (t' := s.toks) (o := .tup (xs ++ ys)) (fun b ob q => Heap.get?_push_of_some _ q) (Nat.le_refl _) ?_, rfl, q2 (fun w => z (r2.nil_iff.mpr w)) _ (I.hok.fresh (Nat.le_refl _))⟩
  exact ⟨by rw [List.length_append]; exact hz, _, r1.append r2, IsTup.new _ _⟩
end
end L2
namespace L2
open PySem PySem.Spec PyProof.Rows
def ixN (n:Nat) (i:Int) : Option Nat := if 0 <= i then (if i < n then some i.toNat else none) else if -(n:Int) <= i then some (i + n).toNat else none
def atI {α:Type} (xs:List α) (i:Int) : Option α := (ixN xs.length i).bind fun j => xs[j]?
theorem ixN_seq {n:Nat} {i:Int} {j:Nat} (h:ixN n i = some j) : seqIndex? i n = some j /\ j < n /\ -(n:Int) <= i /\ i < n := by
  unfold ixN at h
  by_cases h0:0 <= i
  · rw [if_pos h0] at h
    by_cases h1:i < n
    · rw [if_pos h1] at h
      have e:i.toNat = j := Option.some.inj h
      exact ⟨by rw [seqIndex_of h0 h1, e], by omega, by omega, h1⟩
    · rw [if_neg h1] at h; cases h
  · rw [if_neg h0] at h
    by_cases h1:-(n:Int) <= i
    · rw [if_pos h1] at h
      have e:(i + n).toNat = j := Option.some.inj h
      exact ⟨by rw [seqIndex_neg (by omega) h1, e], by omega, h1, by omega⟩
    · rw [if_neg h1] at h; cases h
theorem atI_get {α:Type} {xs:List α} {i:Int} {v:α} (h:atI xs i = some v) : ∃ j, seqIndex? i xs.length = some j /\ xs[j]? = some v /\ j < xs.length /\ -(xs.length:Int) <= i /\ i < xs.length := by
  unfold atI at h
  cases e:ixN xs.length i with
  | none => rw [e] at h; cases h
  | some j =>
    rw [e] at h
    obtain ⟨h1, h2, h3, h4⟩ := ixN_seq e
    exact ⟨j, h1, h, h2, h3, h4⟩
def PlainIx (b:Expr) : Prop := ∀ o i, subscripted b false o i = operate [o, i] (getItem o i)
def IxR (X:Cx) (r:R2) : Prop :=
  ∀ (value slice:Expr) (pins:List (Addr × Obj)) (s:Shared) (σ:St) (H:Hp) (x y:V) (v u:Value) (Q:VK), Inv X pins σ H s -> RelV x v -> RelV y u -> r x y H Q ->
    subscripted slice false v u = operate [v, u] (getItem v u) -> wpAny (model X.prog X.w) X.A (subscriptTail value slice v u) (EP X pins σ Q) X.xe s
def MtR (X:Cx) (id:String) (r:V -> List V -> Hp -> VK -> Prop) : Prop :=
  ∀ (pins:List (Addr × Obj)) (s:Shared) (σ:St) (H:Hp) (x:V) (xs:List V) (v:Value) (us:List Value) (Q:VK), Inv X pins σ H s -> RelV x v -> Vals xs us -> r x xs H Q ->
    wpAny (model X.prog X.w) X.A (call (.builtin id) (v :: us)) (EP X pins σ Q) X.xe s
section
variable {X:Cx} {a b:Expr} {ta tb:TE} {pos:Pos}
theorem IxR.or {r r':R2} (h:IxR X r) (h':IxR X r') : IxR X (fun x y H Q => r x y H Q \/ r' x y H Q) := by
  intro value slice pins s σ H x y v u Q I rx ry q hs
  rcases q with q | q
  · exact h value slice pins s σ H x y v u Q I rx ry q hs
  · exact h' value slice pins s σ H x y v u Q I rx ry q hs
theorem MtR.or {id:String} {r r':V -> List V -> Hp -> VK -> Prop} (h:MtR X id r) (h':MtR X id r') : MtR X id (fun x xs H Q => r x xs H Q \/ r' x xs H Q) := by
  intro pins s σ H x xs v us Q I rx rs q
  rcases q with q | q
  · exact h pins s σ H x xs v us Q I rx rs q
  · exact h' pins s σ H x xs v us Q I rx rs q
theorem pe_ix {r:R2} (hr:IxR X r) (ha:PE X a ta) (hb:PE X b tb) (hs:PlainIx b) : PE X (.Subscript a b pos) (tOp r ta tb) := by
  intro pins s σ H Q I h
  exact Subscript_ (binT ha hb I h fun v u s2 x y H2 I2 rx ry q => hr a b pins s2 σ H2 x y v u Q I2 rx ry q (hs _ _))
def rIxL (K:PySem.W.Frag) : R2 := fun x y H Q => ∃ p xs i v, x = .ref p /\ y = .int i /\ SqL K H p xs /\ atI xs i = some v /\ Q v H
def rIxT (K:PySem.W.Frag) : R2 := fun x y H Q => ∃ p xs i v, x = .ref p /\ y = .int i /\ SqT K H p xs /\ atI xs i = some v /\ Q v H
def rIxS:R2 := fun x y H Q => ∃ z i c, x = .str z /\ y = .int i /\ z.length <= sizeLine /\ atI z.cps.toList i = some c /\ Q (.str ⟨#[c]⟩) H
theorem ix_list:IxR X (rIxL X.K) := by
  intro value slice pins s σ H x y v u Q I rx ry h hs
  obtain ⟨p, xs, i, z, rfl, rfl, hq, he, q⟩ := h
  cases rx
  obtain ⟨t, rfl⟩ := ry
  obtain ⟨its, r, pl, hz⟩ := I.list hq
  obtain ⟨j, h1, h2, h3, h4, h5⟩ := atI_get he
  obtain ⟨w, ew, rw'⟩ := r.get h2
  have hl := r.length
  have hn := line63
  have fin:EP X pins σ Q w s := ⟨z, H, I, rw', q⟩
  by_cases h0:0 <= i
  · have hj:i.toNat = j := by
      rw [seqIndex_of h0 h5] at h1
      exact Option.some.inj h1
    exact item_listR pl.isList h0 (by omega) (by rw [hj]; simpa using ew) fin hs
  · have hj:(i + (its.toArray.size:Int)).toNat = j := by
      rw [seqIndex_neg (by omega) h4] at h1
      rw [List.size_toArray, <- hl]
      exact Option.some.inj h1
    exact subscriptTail_builtinR (x := w) pl.isList.typeIs slot_list_getitem.lookup
      (wpAny_getItem_list_neg (Q := fun r s' => r = w /\ EP X pins σ Q r s') pl.isList (by omega) (by rw [List.size_toArray] <;> omega) (by omega) (by rw [hj]; simpa using ew) ⟨rfl, fin⟩) hs
theorem ix_tup:IxR X (rIxT X.K) := by
  intro value slice pins s σ H x y v u Q I rx ry h hs
  obtain ⟨p, xs, i, z, rfl, rfl, hq, he, q⟩ := h
  cases rx
  obtain ⟨t, rfl⟩ := ry
  obtain ⟨its, r, pl, hz⟩ := I.tuple hq
  obtain ⟨j, h1, h2, h3, h4, h5⟩ := atI_get he
  obtain ⟨w, ew, rw'⟩ := r.get h2
  have hl := r.length
  have hn := line63
  have fin:EP X pins σ Q w s := ⟨z, H, I, rw', q⟩
  exact subscriptTail_builtinR (x := w) pl.typeIs slot_tuple_getitem.lookup
    (getItem_tuple (j := j) (Q := fun r s' => r = w /\ EP X pins σ Q r s') pl (by omega) (by omega) (by rw [List.size_toArray, <- hl]; exact h1) (by simpa using ew) ⟨rfl, fin⟩) hs
theorem ix_str:IxR X rIxS := by
  intro value slice pins s σ H x y v u Q I rx ry h hs
  obtain ⟨z, i, c, rfl, rfl, hz, he, q⟩ := h
  obtain ⟨t, rfl⟩ := rx
  obtain ⟨t', rfl⟩ := ry
  obtain ⟨j, h1, h2, h3, h4, h5⟩ := atI_get he
  have hl:z.cps.toList.length = z.length := by simp [Str.length]
  rw [hl] at h1 h4 h5
  have hn := line63
  exact tail_any (typeIs_str s z t) slot_str_getitem.lookup (getItem_str (c := c) (by
    have e1:decide (i < -(2 ^ 63:Int)) = false := decide_eq_false (by omega)
    have e2:decide (i >= 2 ^ 63) = false := decide_eq_false (by omega)
    rw [e1, e2, Bool.or_false]) (by rw [h1]; simpa using h2) ⟨.str ⟨#[c]⟩, H, I.tok _, ⟨_, rfl⟩, q⟩) hs
def rIx (K:PySem.W.Frag) : R2 := fun x y H Q => rIxL K x y H Q \/ rIxT K x y H Q \/ rIxS x y H Q
theorem ix_seq:IxR X (rIx X.K) := ix_list.or (ix_tup.or ix_str)
theorem mapSeq_set (its : List Value) (n j : Nat) (u : Value) : Obj.mapSeq (·.setIfInBounds j u) { cls := .type "list", data := .seq its.toArray n } = { cls := .type "list", data := .seq (its.set j u).toArray n } := by
  simp [Obj.mapSeq]
theorem Inv.lst {pins:List (Addr × Obj)} {σ:St} {H:Hp} {s:Shared} {p:Addr} {xs:List V} (I:Inv X pins σ H s) (h:H p = some (.lst xs)) :
    ∃ (its : List Value) (n : Nat), Vals xs its /\ s.heap.get? p = some { cls := .type "list", data := .seq its.toArray n } /\ xs.length <= sizeLine := by
  obtain ⟨z, its, n, r, e⟩ := I.hok p _ h
  exact ⟨its, n, r, e, z⟩
theorem Inv.lstUpd {pins:List (Addr × Obj)} {σ:St} {H:Hp} {s:Shared} {p:Addr} {xs ys:List V} {its its':List Value} {n n':Nat} {f:Obj -> Obj} (I:Inv X pins σ H s) (h:H p = some (.lst xs))
    (ho : s.heap.get? p = some { cls := .type "list", data := .seq its.toArray n }) (hf : f { cls := .type "list", data := .seq its.toArray n } = { cls := .type "list", data := .seq its'.toArray n' }) (r : Vals ys its') (hz : ys.length <= sizeLine) (t : Nat) :
    Inv X pins σ (upd H p (.lst ys)) { s with heap := s.heap.update p f, toks := t } := by
  have e : (s.heap.update p f).get? p = some { cls := .type "list", data := .seq its'.toArray n' } := by
    rw [Heap.get?_update_self f ho (by rw [hf] <;> rfl), hf]
  refine I.write (x := p) (e := p) (by rw [h]; trivial) (.inl rfl) (fun b u hb q => (Heap.get?_update_other _ _ (Ne.symm hb)).trans q) ⟨_, e⟩ ?_
  exact ⟨hz, its', n', r, e⟩
def rSetL:V -> V -> V -> Hp -> (Hp -> Prop) -> Prop := fun o i v H Q => ∃ p xs k j, o = .ref p /\ i = .int k /\ H p = some (.lst xs) /\ ixN xs.length k = some j /\ Q (upd H p (.lst (xs.set j v)))
theorem set_list:PSet X rSetL := by
  intro pins s σ H o i v ov iv u Q I ro ri rv h
  obtain ⟨p, xs, k, j, rfl, rfl, hp, hj, q⟩ := h
  cases ro
  obtain ⟨t, rfl⟩ := ri
  obtain ⟨its, n, r, ho, hz⟩ := I.lst hp
  obtain ⟨h1, h2, h3, h4⟩ := ixN_seq hj
  have hl := r.length
  have hn := line63
  have I':Inv X pins σ (upd H p (.lst (xs.set j v))) { s with heap := s.heap.update p (Obj.mapSeq (·.setIfInBounds j u)) } :=
    I.lstUpd hp ho (mapSeq_set its n j u) (r.set rv j) (by rw [List.length_set]; exact hz) s.toks
  by_cases h0:0 <= k
  · have hk:k.toNat = j := by
      rw [seqIndex_of h0 h4] at h1
      exact Option.some.inj h1
    exact PySem.W.ki_setAt ho h0 (by omega) (by rw [List.size_toArray, <- hl]; exact h4) (by rw [hk]; exact ⟨_, I', q⟩)
  · have hk:(k + (its.toArray.size:Int)).toNat = j := by
      rw [seqIndex_neg (by omega) h3] at h1
      rw [List.size_toArray, <- hl]
      exact Option.some.inj h1
    exact PySem.W.ki_setBack ho (by omega) (by rw [List.size_toArray, <- hl]; exact h3) (by omega) (by rw [hk]; exact ⟨_, I', q⟩)
theorem slice_bounds (lo hi:Option Int) (n:Nat) : (sliceBounds lo hi none n).1 = ((HT.sIx n 0 lo:Nat) : Int) /\ (sliceBounds lo hi none n).2.1 = ((HT.sIx n n hi:Nat) : Int) /\ (sliceBounds lo hi none n).2.2 = 1 := by
  refine ⟨?_, ?_, rfl⟩
  · cases lo with
    | none => simp [sliceBounds, HT.sIx]
    | some i =>
      simp only [sliceBounds, HT.sIx, Option.getD_none, show (1:Int) > 0 by decide, if_true]
      by_cases h:i < 0
      · simp only [h, if_true] <;> omega
      · simp only [h, if_false] <;> omega
  · cases hi with
    | none => simp [sliceBounds, HT.sIx]
    | some i =>
      simp only [sliceBounds, HT.sIx, Option.getD_none, show (1:Int) > 0 by decide, if_true]
      by_cases h:i < 0
      · simp only [h, if_true] <;> omega
      · simp only [h, if_false] <;> omega
theorem slicePick_cut (its:List Value) (lo hi:Option Int) : slicePick its.toArray lo hi none = ((its.drop (HT.sIx its.length 0 lo)).take (HT.sIx its.length its.length hi - HT.sIx its.length 0 lo)).toArray := by
  obtain ⟨h1, h2, h3⟩ := slice_bounds lo hi its.toArray.size
  unfold slicePick
  rw [h1, h2, h3]
  simp only [sliceRange_one, pick_run, List.size_toArray] <;> rfl
def rSlL (K:PySem.W.Frag) : V -> Option Int -> Option Int -> Hp -> VK -> Prop := fun x lo hi H Q => ∃ a xs, x = .ref a /\ SqL K H a xs /\ ∀ p, H p = none -> Q (.ref p) (upd H p (.lst (cutV xs lo hi)))
theorem sl_list:SlR X (rSlL X.K) := by
  intro pins s σ H x v vl vu lo hi sl Q I rx hs pl pu h
  obtain ⟨a, xs, rfl, hx, q⟩ := h
  cases rx
  obtain ⟨its, r, ht, hz⟩ := I.list hx
  have hlen := r.length
  refine ⟨"list", _, slot_list_getitem.lookup, ht.isList.typeIs, ?_⟩
  refine wpAny_getItem_list_slice ht.isList hs pl pu .none (by simp) ?_ (by rw [List.size_toArray] <;> omega)
  rw [slicePick_cut, <- hlen]
  refine ⟨.ref s.heap.objs.size, _, I.laid (t' := s.toks) (o := .lst (cutV xs lo hi)) (fun b ob q => Heap.get?_push_of_some _ q) (Nat.le_refl _) ?_, rfl, q _ (I.hok.fresh (Nat.le_refl _))⟩
  exact ⟨Nat.le_trans (cutV_length xs lo hi) hz, _, 0, (r.drop (HT.sIx xs.length 0 lo)).take (HT.sIx xs.length xs.length hi - HT.sIx xs.length 0 lo), Heap.get?_push_size _ rfl⟩
theorem call_len_seq : CallR X (.builtin "len") (fun xs H Q => ∃ p ys, xs = [.ref p] /\ (SqL X.K H p ys \/ SqT X.K H p ys) /\ Q (.int ys.length) H) := by
  intro pins s σ H xs us Q I r h
  obtain ⟨p, ys, rfl, hq, q⟩ := h
  obtain ⟨u, rfl, rx⟩ := vals1 r
  cases rx
  have hn := line63
  rcases hq with hq | hq
  · obtain ⟨its, r', pl, hz⟩ := I.list hq
    have hlen := r'.length
    exact Calls.call_len_list pl.isList (by simp only [List.size_toArray] <;> omega) ⟨.int ys.length, H, I.tok _, ⟨s.toks + 1, by rw [List.size_toArray, hlen]⟩, q⟩
  · obtain ⟨its, r', pl, hz⟩ := I.tuple hq
    have hlen := r'.length
    exact len_tuple pl (by simp only [List.size_toArray] <;> omega) ⟨.int ys.length, H, I.tok _, ⟨s.toks + 1, by rw [List.size_toArray, hlen]⟩, q⟩
theorem call_len_str : CallR X (.builtin "len") (fun xs H Q => ∃ z, xs = [.str z] /\ z.length <= sizeLine /\ Q (.int z.length) H) := by
  intro pins s σ H xs us Q I r h
  obtain ⟨z, rfl, hz, q⟩ := h
  obtain ⟨u, rfl, t, rfl⟩ := vals1 r
  have hn := line63
  exact len_str (by omega) ⟨.int z.length, H, I.tok _, ⟨_, rfl⟩, q⟩
theorem CallR.or {f:Value} {r r':List V -> Hp -> VK -> Prop} (h:CallR X f r) (h':CallR X f r') : CallR X f (fun xs H Q => r xs H Q \/ r' xs H Q) := by
  intro pins s σ H xs us Q I rs q
  rcases q with q | q
  · exact h pins s σ H xs us Q I rs q
  · exact h' pins s σ H xs us Q I rs q
theorem call_list_of : CallR X (.type "list") (fun xs H Q => ∃ p ys, xs = [.ref p] /\ (SqL X.K H p ys \/ SqT X.K H p ys) /\ ∀ l, H l = none -> Q (.ref l) (upd H l (.lst ys))) := by
  intro pins s σ H xs us Q I r h
  obtain ⟨p, ys, rfl, hq, q⟩ := h
  obtain ⟨u, rfl, rx⟩ := vals1 r
  cases rx
  have fin:∀ (its:List Value), Vals ys its -> ys.length <= sizeLine -> ∀ (h':Heap) (c':Nat), (∀ b o', s.heap.get? b = some o' -> h'.get? b = some o') ->
      h'.get? s.heap.objs.size = some { cls := .type "list", dict := none, data := .seq its.toArray c', slots := #[] } -> EP X pins σ Q (.ref s.heap.objs.size) { s with heap := h' } := fun its r' hz h' c' kp e =>
    ⟨.ref s.heap.objs.size, _, I.laid (t' := s.toks) kp (Nat.le_refl _) (show ObjOk X.prog X.w _ h' _ (.lst ys) from ⟨hz, its, c', r', e⟩), rfl, q _ (I.hok.fresh (Nat.le_refl _))⟩
  rcases hq with hq | hq
  · obtain ⟨its, r', pl, hz⟩ := I.list hq
    have hlen := r'.length
    obtain ⟨o, ho, hc, n, hd⟩ := pl.isList
    exact call_list_seq p (.inl rfl) ho hc hd (fun h' c' kp e => fin its r' hz h' c' kp e) (by simp only [List.size_toArray] <;> omega)
  · obtain ⟨its, r', pl, hz⟩ := I.tuple hq
    have hlen := r'.length
    obtain ⟨o, ho, hc, n, hd⟩ := pl
    exact call_list_seq p (.inr rfl) ho hc hd (fun h' c' kp e => fin its r' hz h' c' kp e) (by simp only [List.size_toArray] <;> omega)
def tyV (K:PySem.W.Frag) (T:String) (x:V) (H:Hp) : Prop := match x with
  | .str _ => T = "str"
  | .int _ => T = "int"
  | .ref p => (T = "list" /\ ∃ xs, SqL K H p xs) \/ (T = "tuple" /\ ∃ o, K.lookup p = some o /\ o.cls = .type "tuple" /\ o.dict = none) \/
      (T = "dict" /\ ((∃ kvs, H p = some (.dK kvs)) \/ ∃ kvs, H p = some (.dT kvs))) \/ (T = "set" /\ ∃ S n, H p = some (.set S n))
  | _ => False
theorem tyV_is {pins:List (Addr × Obj)} {σ:St} {H:Hp} {s:Shared} {T:String} {x:V} {v:Value} (I:Inv X pins σ H s) (r:RelV x v) (ty:tyV X.K T x H) :
    s.TypeIs v T /\ ∀ a, v = .ref a -> ∃ ob, s.heap.get? a = some ob /\ ob.dict = none := by
  cases x with
  | str z =>
    obtain ⟨t, rfl⟩ := r
    cases (show T = "str" from ty)
    exact ⟨typeIs_str s z t, fun _ e => nomatch e⟩
  | int i =>
    obtain ⟨t, rfl⟩ := r
    cases (show T = "int" from ty)
    exact ⟨typeIs_int s i t, fun _ e => nomatch e⟩
  | ref p =>
    cases r
    rcases ty with ⟨rfl, xs, hq⟩ | ⟨rfl, o, hk, hc, hd⟩ | ⟨rfl, hk⟩ | ⟨rfl, S, n, hk⟩
    · obtain ⟨its, _, pl, _⟩ := I.list hq
      refine ⟨pl.isList.typeIs, fun a e => ?_⟩
      cases e
      obtain ⟨o, n, e, c, hd, _⟩ := pl
      exact ⟨o, e, hd⟩
    · refine ⟨⟨o, I.kIn p o hk, hc⟩, fun a e => ?_⟩
      cases e
      exact ⟨o, I.kIn _ o hk, hd⟩
    · have z:∃ o, s.heap.get? p = some o /\ o.ExactDict := by
        rcases hk with ⟨kvs, hk⟩ | ⟨kvs, hk⟩
        · obtain ⟨_, _, _, _, o, _, _, e, ex, _⟩ := I.hok p _ hk
          exact ⟨o, e, ex⟩
        · obtain ⟨_, _, _, _, o, _, _, e, ex, _⟩ := I.hok p _ hk
          exact ⟨o, e, ex⟩
      obtain ⟨o, e, ex⟩ := z
      refine ⟨⟨o, e, ex.1⟩, fun a e2 => ?_⟩
      cases e2
      exact ⟨o, e, ex.2.1⟩
    · obtain ⟨o, _, _, _, e, ex, _⟩ := I.hok p _ hk
      refine ⟨⟨o, e, ex.1⟩, fun a e2 => ?_⟩
      cases e2
      exact ⟨o, e, ex.2.1⟩
  | _ => exact False.elim ty
def tBM (K:PySem.W.Frag) (T:String) (r:V -> List V -> Hp -> VK -> Prop) (to:TE) (t:TA) : TE := fun σ H Q => to σ H fun x H1 => tyV K T x H1 /\ t σ H1 fun xs H2 => r x xs H2 Q
variable {o e:Expr} {es:List Expr} {to:TE} {t:TA} {name:Str} {apos cpos:Pos} {T id:String} {r:V -> List V -> Hp -> VK -> Prop}
theorem pe_bm (pa : PlainAttrs T) (slot : Slot T name id) (hty : typeOf (.builtin id) = pure (.type "method_descriptor")) (hm : MtR X id r) (ho : PE X o to) (ha : PA X (e :: es) t)
    (hbase:attributeBase o name X.env (eval o X.env) = eval o X.env := by rfl)
    (hfew:((backTo cpos (starEach (e :: es) X.env)).all (fun x => !x.1) && (backToKw cpos (keywordEach [] X.env)).all (fun x => x.1.isSome)
      && decide ((e :: es).length + ([] : List Keyword).length + (if ([] : List Keyword).isEmpty then 0 else 1) < 30)) = true := by rfl)
    (hline:(apos.endLine == cpos.line) = true := by rfl) (hs:starEach (e :: es) X.env = (false, eval e X.env) :: starEach es X.env := by rfl) (hplain:(backTo cpos (starEach es X.env)).any (·.1) = false := by rfl) :
    PE X (.Call (.Attribute o name apos) (e :: es) [] cpos) (tBM X.K T r to t) := by
  intro pins s σ H Q I h
  refine wpAny_Call_method_late hbase hfew hline rfl (thn (ho pins s σ H _ I h) fun v s1 ⟨x, H1, I1, r1, ty, q1⟩ => ?_)
  obtain ⟨h1, h2⟩ := tyV_is I1 r1 ty
  refine ⟨T, id, pa, slot, hty, h1, h2, ?_⟩
  have hA := ha cpos pins s1 σ H1 _ I1 q1
  rw [hs] at hA ⊢
  refine Calls.callWith_builtin (by show (false || (backTo cpos (starEach es X.env)).any (·.1)) = false; rw [hplain] <;> rfl) (Calls.evalArgs_plain ?_)
  exact thn hA fun us s2 ⟨vs, H2, I2, r2, q2⟩ => hm pins s2 σ H2 x vs v us Q I2 r1 r2 q2
end
end L2
namespace L2
open PySem PySem.Spec PyProof.Rows
def MtM (X:Cx) (id:String) (r:V -> List V -> Hp -> VK -> Prop) : Prop :=
  ∀ (pins:List (Addr × Obj)) (s:Shared) (σ:St) (H:Hp) (x:V) (xs:List V) (v:Value) (us:List Value) (Q:VK), Inv X pins σ H s -> RelV x v -> Vals xs us -> r x xs H Q ->
    wpAny (model X.prog X.w) X.A (call (.builtin id) (v :: us)) (EP X pins σ Q) X.xe s
theorem Vals.one:∀ {x:V} {us:List Value}, Vals [x] us -> ∃ u, us = [u] /\ RelV x u
  | _, _, .cons r .nil => ⟨_, rfl, r⟩
theorem Vals.zero:∀ {us:List Value}, Vals [] us -> us = []
  | _, .nil => rfl
theorem Vals.eraseIdx:∀ {xs:List V} {us:List Value} (i:Nat), Vals xs us -> Vals (xs.eraseIdx i) (us.eraseIdx i)
  | _, _, _, .nil => .nil
  | _, _, 0, .cons _ t => t
  | _, _, i + 1, .cons r t => .cons r (Vals.eraseIdx i t)
theorem Vals.reverse {xs:List V} {us:List Value} (h:Vals xs us) : Vals xs.reverse us.reverse := by
  induction h with
  | nil => exact .nil
  | cons r t ih => rw [List.reverse_cons, List.reverse_cons]; exact Vals.append ih (.cons r .nil)
theorem Vals.rep {xs:List V} {us:List Value} (h:Vals xs us) : ∀ k:Nat, Vals (List.replicate k xs).flatten (List.replicate k us).flatten
  | 0 => .nil
  | k + 1 => by
    rw [List.replicate_succ, List.replicate_succ, List.flatten_cons, List.flatten_cons]
    exact Vals.append h (Vals.rep h k)
section
variable {X:Cx} {pins:List (Addr × Obj)} {σ:St} {H:Hp} {s:Shared} {l b:Addr} {xs ys zs:List V}
theorem Inv.lset {its its':List Value} {n:Nat} {f:Array Value -> Array Value} {t':Nat} (I:Inv X pins σ H s) (hH:H l = some (.lst xs))
    (e : s.heap.get? l = some { cls := .type "list", data := .seq its.toArray n }) (hf : f its.toArray = its'.toArray) (hv : Vals ys its') (hz : ys.length <= sizeLine) :
    Inv X pins σ (upd H l (.lst ys)) { s with heap := s.heap.update l (Obj.mapSeq f), toks := t' } := by
  have q := PySem.IsL.update e f
  rw [hf] at q
  refine I.write (x := l) (e := l) (by rw [hH]; exact trivial) (.inl rfl) (fun b' u hb hu => (Heap.get?_update_other s.heap (Obj.mapSeq f) (Ne.symm hb)).trans hu) ⟨_, q⟩ ?_
  exact ⟨hz, its', _, hv, q⟩
theorem Inv.lnew {its:List Value} {t':Nat} (I:Inv X pins σ H s) (hv:Vals ys its) (hz:ys.length <= sizeLine) :
    Inv X pins σ (upd H s.heap.objs.size (.lst ys)) { s with heap := s.heap.push { cls := .type "list", data := .seq its.toArray }, toks := t' } :=
  I.laid (fun _ _ q => Heap.get?_push_of_some _ q) (Nat.le_refl _) ⟨hz, its, 0, hv, Heap.get?_push_size _ rfl⟩
theorem Inv.fresh (I:Inv X pins σ H s) : H s.heap.objs.size = none := I.hok.fresh (Nat.le_refl _)
theorem Inv.lstM (I : Inv X pins σ H s) (hH : H l = some (.lst xs)) : xs.length <= sizeLine /\ ∃ (its : List Value) (n : Nat), Vals xs its /\ xs.length = its.length /\ s.heap.get? l = some { cls := .type "list", data := .seq its.toArray n } := by
  obtain ⟨z, its, n, r, e⟩ := I.hok l _ hH
  exact ⟨z, its, n, r, r.length, e⟩
end
section
variable {X:Cx}
def rAppend:V -> List V -> Hp -> VK -> Prop := fun x vs H Q => ∃ l xs y, x = .ref l /\ vs = [y] /\ H l = some (.lst xs) /\ xs.length < sizeLine /\ Q .non (upd H l (.lst (xs ++ [y])))
theorem mt_append : MtM X "list.append" rAppend := by
  intro pins s σ H x vs v us Q I rx rv h
  obtain ⟨l, xs, y, rfl, rfl, hH, hz, q⟩ := h
  cases rx
  obtain ⟨u, rfl, ru⟩ := rv.one
  obtain ⟨z, its, n, r, hl, e⟩ := I.lstM hH
  refine call_meets F.slot_list_append ⟨_, e, rfl⟩ F.entry_list_append (F.args_list_append_2 _ _) (PySem.list_append l its.toArray n u (by rw [List.size_toArray]; omega)) ⟨e, ?_⟩
  refine ⟨.non, _, I.lset (its' := its ++ [u]) hH e (by simp) (r.append (.cons ru .nil)) ?_, rfl, q⟩
  rw [List.length_append, List.length_singleton]
  omega
end
section
variable {prog:Program} {w:World} {A:Around} {E:Value -> Shared -> Prop} {s:Shared}
end
section
variable {X:Cx}
end
end L2
namespace L2
open PySem PySem.Spec PyProof.Rows
section
variable {κ:Type} [DecidableEq κ]
def valV (kvs:List (κ × V)) (k:κ) : Option V := (kvs.find? fun kv => decide (kv.1 = k)).map (·.2)
def putK (kvs:List (κ × V)) (k:κ) (v:V) : List (κ × V) :=
  if (kvs.any fun kv => decide (kv.1 = k)) = true then kvs.map (fun kv => if kv.1 = k then (kv.1, v) else kv) else kvs ++ [(k, v)]
def dropK (kvs:List (κ × V)) (k:κ) : List (κ × V) := kvs.filter fun kv => decide (kv.1 ≠ k)
theorem valV_pos {p:κ × V} {r:List (κ × V)} {k:κ} (e:p.1 = k) : valV (p :: r) k = some p.2 := by simp [valV, List.find?_cons, e]
theorem valV_neg {p:κ × V} {r:List (κ × V)} {k:κ} (e:¬ p.1 = k) : valV (p :: r) k = valV r k := by simp [valV, List.find?_cons, e]
theorem valV_any (k:κ) : ∀ kvs:List (κ × V), (kvs.any fun kv => decide (kv.1 = k)) = (valV kvs k).isSome
  | [] => rfl
  | p :: r => by
    rw [List.any_cons]
    by_cases e:p.1 = k
    · simp only [valV_pos e, decide_eq_true e, Bool.true_or, Option.isSome_some]
    · rw [valV_neg e, decide_eq_false e, Bool.false_or]; exact valV_any k r
theorem length_putK (kvs:List (κ × V)) (k:κ) (v:V) : (putK kvs k v).length <= kvs.length + 1 := by
  unfold putK
  split
  · rw [List.length_map]; omega
  · rw [List.length_append, List.length_cons, List.length_nil]; omega
theorem RelO.isSome_eq {o:Option V} {u:Option Value} (r:RelO o u) : o.isSome = u.isSome := by
  cases o with
  | none => cases u with
    | none => rfl
    | some _ => exact (show False from r).elim
  | some _ => cases u with
    | none => exact (show False from r).elim
    | some _ => rfl
theorem RelO.getD {o:Option V} {u:Option Value} {d:V} {d':Value} (r:RelO o u) (rd:RelV d d') : RelV (o.getD d) (u.getD d') := by
  cases o with
  | none => cases u with
    | none => exact rd
    | some _ => exact (show False from r).elim
  | some _ => cases u with
    | none => exact (show False from r).elim
    | some _ => exact r
theorem KV.val {kvs:List (κ × V)} {vs:List (κ × Value)} (r:KV kvs vs) (k:κ) : RelO (valV kvs k) (valueAt vs k) := by
  unfold KV at r
  induction r with
  | nil => exact True.intro
  | @cons p q ps qs h t ih =>
    obtain ⟨h1, h2⟩ := h
    by_cases e:p.1 = k
    · have e':q.1 = k := h1.symm.trans e
      have b:valueAt (q :: qs) k = some q.2 := by simp [valueAt, List.find?_cons, e']
      rw [valV_pos e, b]; exact h2
    · have e':¬ q.1 = k := fun z => e (h1.trans z)
      have b:valueAt (q :: qs) k = valueAt qs k := by simp [valueAt, List.find?_cons, e']
      rw [valV_neg e, b]; exact ih
theorem KV.any {kvs:List (κ × V)} {vs:List (κ × Value)} (r:KV kvs vs) (k:κ) : (kvs.any fun kv => decide (kv.1 = k)) = vs.any fun kv => decide (kv.1 = k) := by
  unfold KV at r
  induction r with
  | nil => rfl
  | cons h t ih => rw [List.any_cons, List.any_cons, ih, h.1]
theorem KV.repl {kvs:List (κ × V)} {vs:List (κ × Value)} (r:KV kvs vs) (k:κ) {y:V} {u:Value} (ry:RelV y u) :
    KV (kvs.map fun kv => if kv.1 = k then (kv.1, y) else kv) (vs.map fun kv => if kv.1 = k then (kv.1, u) else kv) := by
  unfold KV at r ⊢
  induction r with
  | nil => exact .nil
  | @cons p q ps qs h t ih =>
    rw [List.map_cons, List.map_cons]
    refine .cons ?_ ih
    obtain ⟨h1, h2⟩ := h
    by_cases e:p.1 = k
    · rw [if_pos e, if_pos (h1.symm.trans e)]; exact ⟨h1, ry⟩
    · rw [if_neg e, if_neg (fun z => e (h1.trans z))]; exact ⟨h1, h2⟩
theorem KV.put {kvs:List (κ × V)} {vs:List (κ × Value)} (r:KV kvs vs) (k:κ) {y:V} {u:Value} (ry:RelV y u) : KV (putK kvs k y) (stored vs k u) := by
  unfold putK stored
  rw [r.any k]
  by_cases e:(vs.any fun kv => decide (kv.1 = k)) = true
  · rw [if_pos e, if_pos e]; exact r.repl k ry
  · rw [if_neg e, if_neg e]; exact Paired.snoc r ⟨rfl, ry⟩
theorem KV.drop {kvs:List (κ × V)} {vs:List (κ × Value)} (r:KV kvs vs) (k:κ) : KV (dropK kvs k) (without vs k) := by
  unfold KV at r ⊢
  unfold dropK without
  induction r with
  | nil => exact .nil
  | @cons p q ps qs h t ih =>
    obtain ⟨h1, h2⟩ := h
    rw [List.filter_cons, List.filter_cons]
    by_cases e:p.1 = k
    · have a:¬ decide (p.1 ≠ k) = true := by simp [e]
      have b:¬ decide (q.1 ≠ k) = true := by simp [h1.symm.trans e]
      rw [if_neg a, if_neg b]; exact ih
    · have e':¬ q.1 = k := fun z => e (h1.trans z)
      have a:decide (p.1 ≠ k) = true := by simp [e]
      have b:decide (q.1 ≠ k) = true := by simp [e']
      rw [if_pos a, if_pos b]; exact .cons ⟨h1, h2⟩ ih
theorem KV.keys {kvs:List (κ × V)} {vs:List (κ × Value)} (r:KV kvs vs) : kvs.map (·.1) = vs.map (·.1) := by
  unfold KV at r
  induction r with
  | nil => rfl
  | cons h t ih => rw [List.map_cons, List.map_cons, ih, h.1]
theorem KV.length {kvs:List (κ × V)} {vs:List (κ × Value)} (r:KV kvs vs) : kvs.length = vs.length := Paired.length r
end
theorem kV_is {P:Program} {w:World} {k:Key} {u:Value} (r:RelV (kV k) u) : (mixKind P w).is k u = true := by
  cases k with
  | inl i => obtain ⟨t, e⟩ := (show ∃ t, u = Value.int i t from r); subst e; exact mixKind_int P w i t
  | inr x => obtain ⟨t, e⟩ := (show ∃ t, u = Value.str x t from r); subst e; exact mixKind_str P w x t
theorem items_are {P:Program} {w:World} : ∀ {ks:List Key} {us:List Value}, Vals (ks.map kV) us -> ItemsAre (mixKind P w) ks us
  | [], _, r => by rw [List.map_nil] at r; cases r; exact .nil
  | k :: ks, _, r => by
    rw [List.map_cons] at r
    cases r with
    | cons h t => exact .cons (kV_is h) (items_are t)
abbrev KT (H:Hp) : List (List Key × V) -> List (List Key × Addr × Value) -> Prop := Paired fun p q => p.1 = q.1 /\ H q.2.1 = some (.tup (p.1.map kV)) /\ RelV p.2 q.2.2
theorem KT.val {H:Hp} {kvs:List (List Key × V)} {xs:List (List Key × Addr × Value)} (r:KT H kvs xs) (k:List Key) : RelO (valV kvs k) ((atKey xs k).map (·.2)) := by
  induction r with
  | nil => exact True.intro
  | @cons p q ps qs h t ih =>
    obtain ⟨h1, _, h2⟩ := h
    by_cases e:p.1 = k
    · have e':q.1 = k := h1.symm.trans e
      have b:atKey (q :: qs) k = some q.2 := by simp [atKey, List.find?_cons, e']
      rw [valV_pos e, b]; exact h2
    · have e':¬ q.1 = k := fun z => e (h1.trans z)
      have b:atKey (q :: qs) k = atKey qs k := by simp [atKey, List.find?_cons, e']
      rw [valV_neg e, b]; exact ih
theorem KT.repl {H:Hp} {kvs:List (List Key × V)} {xs:List (List Key × Addr × Value)} (r:KT H kvs xs) (k:List Key) {y:V} {u:Value} (ry:RelV y u) :
    KT H (kvs.map fun kv => if kv.1 = k then (kv.1, y) else kv) (xs.map (putAt k u)) := by
  induction r with
  | nil => exact .nil
  | @cons p q ps qs h t ih =>
    rw [List.map_cons, List.map_cons]
    refine .cons ?_ ih
    obtain ⟨h1, h2, h3⟩ := h
    unfold putAt
    by_cases e:p.1 = k
    · rw [if_pos e, if_pos (h1.symm.trans e)]; exact ⟨h1, h2, ry⟩
    · rw [if_neg e, if_neg (fun z => e (h1.trans z))]; exact ⟨h1, h2, h3⟩
theorem KT.put {H:Hp} {kvs:List (List Key × V)} {xs:List (List Key × Addr × Value)} (r:KT H kvs xs) (k:List Key) {b:Addr} {y:V} {u:Value} (hb:H b = some (.tup (k.map kV))) (ry:RelV y u) :
    KT H (putK kvs k y) (storedH xs k b u) := by
  have e:(kvs.any fun kv => decide (kv.1 = k)) = (atKey xs k).isSome := by
    rw [valV_any, (r.val k).isSome_eq, Option.isSome_map]
  unfold putK storedH
  rw [e]
  by_cases q:(atKey xs k).isSome = true
  · rw [if_pos q, if_pos q]; exact r.repl k ry
  · rw [if_neg q, if_neg q]; exact Paired.snoc r ⟨rfl, hb, ry⟩
theorem KT.keeps {H H':Hp} {kvs:List (List Key × V)} {xs:List (List Key × Addr × Value)} (r:KT H kvs xs) (ht:∀ b ys, H b = some (.tup ys) -> H' b = some (.tup ys)) : KT H' kvs xs :=
  Paired.mapP r fun _ _ z => ⟨z.1, ht _ _ z.2.1, z.2.2⟩
section
variable {P:Program} {w:World} {H:Hp} {h:Heap} {a:Addr}
theorem rd_of {u:HO} (ok:HOk P w H h) (e:Rd H a u) : ObjOk P w H h a u := e.ok ok
theorem dk_rd {kvs:List (Key × V)} (ok:HOk P w H h) (e:Rd H a (.dK kvs)) : kvs.length <= sizeLine /\ (a == sysModules) = false /\ ∃ vs, KV kvs vs /\ h.DictOf (mixKind P w) a vs :=
  show ObjOk P w H h a (.dK kvs) from rd_of ok e
theorem dk_of {kvs:List (Key × V)} (ok:HOk P w H h) (e:H a = some (.dK kvs)) : kvs.length <= sizeLine /\ (a == sysModules) = false /\ ∃ vs, KV kvs vs /\ h.DictOf (mixKind P w) a vs := dk_rd ok (.inl e)
theorem key_of {ks:List Key} (ok:HOk P w H h) (e:H a = some (.tup (ks.map kV))) : (tupleKind (mixKind P w)).is h ks a := by
  obtain ⟨_, its, r, o, h1, h2, n, h3⟩ := (show ObjOk P w H h a (.tup (ks.map kV)) from ok a _ e)
  exact ⟨o, its.toArray, n, h1, h2, h3, by simpa using items_are r⟩
theorem dt_rd {kvs:List (List Key × V)} (ok:HOk P w H h) (e:Rd H a (.dT kvs)) : kvs.length <= sizeLine /\ (a == sysModules) = false /\
    ∃ xs, KT H kvs xs /\ h.DictOfH (tupleKind (mixKind P w)) a xs := by
  obtain ⟨z, y, xs, r, o, es, ep, h1, h2, h3, h4, h5⟩ := (show ObjOk P w H h a (.dT kvs) from rd_of ok e)
  refine ⟨z, y, xs, r, o, es, ep, h1, h2, h3, h4, fun x hx => ?_, h5⟩
  have all:∀ {l:List (List Key × V)} {m:List (List Key × Addr × Value)}, KT H l m -> ∀ x ∈ m, (tupleKind (mixKind P w)).is h x.1 x.2.1 := by
    intro l m q
    induction q with
    | nil => intro x hx; exact nomatch hx
    | @cons p q ps qs hq t ih =>
      intro x hx
      rcases List.mem_cons.mp hx with e | hx
      · subst e
        exact key_of ok (by rw [<- hq.1]; exact hq.2.1)
      · exact ih x hx
  exact all r x hx
theorem dt_of {kvs:List (List Key × V)} (ok:HOk P w H h) (e:H a = some (.dT kvs)) : kvs.length <= sizeLine /\ (a == sysModules) = false /\
    ∃ xs, KT H kvs xs /\ h.DictOfH (tupleKind (mixKind P w)) a xs := dt_rd ok (.inl e)
end
def DGet (H:Hp) (a:Addr) (y:V) (r:Option V) : Prop :=
  (∃ kvs k, Rd H a (.dK kvs) /\ y = kV k /\ r = valV kvs k) \/ ∃ kvs k b, Rd H a (.dT kvs) /\ y = .ref b /\ H b = some (.tup (k.map kV)) /\ r = valV kvs k
def DPut (H:Hp) (a:Addr) (y v:V) (H':Hp) : Prop :=
  (∃ kvs k, H a = some (.dK kvs) /\ y = kV k /\ kvs.length < sizeLine /\ H' = upd H a (.dK (putK kvs k v))) \/
  ∃ kvs k b, H a = some (.dT kvs) /\ y = .ref b /\ H b = some (.tup (k.map kV)) /\ kvs.length < sizeLine /\ H' = upd H a (.dT (putK kvs k v))
theorem DGet.k {H:Hp} {a:Addr} {kvs:List (Key × V)} {k:Key} (e:H a = some (.dK kvs)) : DGet H a (kV k) (valV kvs k) := .inl ⟨kvs, k, .inl e, rfl, rfl⟩
theorem DGet.t {H:Hp} {a b:Addr} {kvs:List (List Key × V)} {k:List Key} (e:H a = some (.dT kvs)) (eb:H b = some (.tup (k.map kV))) : DGet H a (.ref b) (valV kvs k) := .inr ⟨kvs, k, b, .inl e, rfl, eb, rfl⟩
theorem DPut.k {H:Hp} {a:Addr} {kvs:List (Key × V)} {k:Key} {v:V} (e:H a = some (.dK kvs)) (hl:kvs.length < sizeLine) : DPut H a (kV k) v (upd H a (.dK (putK kvs k v))) := .inl ⟨kvs, k, e, rfl, hl, rfl⟩
theorem DPut.t {H:Hp} {a b:Addr} {kvs:List (List Key × V)} {k:List Key} {v:V} (e:H a = some (.dT kvs)) (eb:H b = some (.tup (k.map kV))) (hl:kvs.length < sizeLine) :
    DPut H a (.ref b) v (upd H a (.dT (putK kvs k v))) := .inr ⟨kvs, k, b, e, rfl, eb, hl, rfl⟩
section
variable {X:Cx} {pins:List (Addr × Obj)} {σ:St} {H:Hp} {s:Shared} {a:Addr} {y v:V} {u r:Value} {o:Option V} {A:Around} {E:Value -> Shared -> Prop}
theorem Inv.big (I:Inv X pins σ H s) : sysModules < s.heap.objs.size := by
  have h:mainGlobals < s.heap.objs.size := (I.mod.glob.keeps I.bk).lt
  exact Nat.lt_trans (by decide) h
theorem d_getItem {Q:Value -> Shared -> Prop} (hu:A.units + 1 < cLine) (I:Inv X pins σ H s) (g:DGet H a y (some v)) (ry:RelV y u) (h:∀ w' s', Inv X pins σ H s' -> RelV v w' -> Q w' s') :
    wpAny (model X.prog X.w) A (getItem (.ref a) u) Q E s := by
  rcases g with ⟨kvs, k, e, ey, l⟩ | ⟨kvs, k, b, e, ey, eb, l⟩
  · subst ey
    obtain ⟨z, hd, vs, rel, dd⟩ := dk_rd I.hok e
    obtain ⟨w', hw, rw'⟩ := RelO.some_of (v := v) (o := valueAt vs k) (by rw [l]; exact rel.val k)
    exact wpAny_getItem_of (kV_is ry) dd.mapOf hw (h w' _ (I.tok _) rw')
  · subst ey
    cases (show u = Value.ref b from ry)
    obtain ⟨z, hd, xs, rel, dd⟩ := dt_rd I.hok e
    obtain ⟨w', hw, rw'⟩ := RelO.some_of (v := v) (o := (atKey xs k).map (·.2)) (by rw [l]; exact rel.val k)
    obtain ⟨p, hp, hp2⟩ := Option.map_eq_some_iff.mp hw
    refine wpAny_getItem_heap (tupleKind_room_in1 hu) (key_of I.hok eb) dd hp ?_
    rw [hp2]
    exact h w' _ (I.tok _) rw'
theorem d_in {Q:Value -> Shared -> Prop} (hu:A.units + 1 < cLine) (I:Inv X pins σ H s) (g:DGet H a y o) (ry:RelV y u) (h:∀ s', Inv X pins σ H s' -> Q (.bool o.isSome) s') :
    wpAny (model X.prog X.w) A (compareOp .In u (.ref a)) Q E s := by
  rcases g with ⟨kvs, k, e, ey, l⟩ | ⟨kvs, k, b, e, ey, eb, l⟩
  · subst ey
    obtain ⟨z, hd, vs, rel, dd⟩ := dk_rd I.hok e
    refine wpAny_in_of (kV_is ry) hd dd.mapOf ?_
    rw [<- (rel.val k).isSome_eq, <- l]
    exact h _ (I.tok _)
  · subst ey
    cases (show u = Value.ref b from ry)
    obtain ⟨z, hd, xs, rel, dd⟩ := dt_rd I.hok e
    refine wpAny_in_heap (tupleKind_room_in1 hu) (key_of I.hok eb) hd dd ?_
    have q := (rel.val k).isSome_eq
    rw [Option.isSome_map] at q
    rw [<- q, <- l]
    exact h _ (I.tok _)
theorem d_write {h':Heap} {t':Nat} {ob:HO} (I:Inv X pins σ H s) (mu:Mut (H a)) (hs:Heap.SameBut a s.heap h') (he:∃ q, h'.get? a = some q) (new:ObjOk X.prog X.w (upd H a ob) h' a ob) :
    Inv X pins σ (upd H a ob) { s with heap := h', toks := t' } :=
  I.write (x := a) (e := a) mu (.inl rfl) (fun b q hb z => (hs.2 b hb).trans z) he new
theorem dk_new {P:Program} {w:World} {H':Hp} {h':Heap} {kvs:List (Key × V)} {vs:List (Key × Value)} (z:kvs.length <= sizeLine) (hd:(a == sysModules) = false) (rel:KV kvs vs) (dd:h'.DictOf (mixKind P w) a vs) :
    ObjOk P w H' h' a (.dK kvs) := ⟨z, hd, vs, rel, dd⟩
theorem d_setItem {H':Hp} {Q:Unit -> Shared -> Prop} (hu:A.units + 1 < cLine) (I:Inv X pins σ H s) (g:DPut H a y v H') (ry:RelV y u) (rv:RelV v r) (h:∀ s', Inv X pins σ H' s' -> Q () s') :
    wpAny (model X.prog X.w) A (setItem (.ref a) u r) Q E s := by
  rcases g with ⟨kvs, k, e, ey, l, eH⟩ | ⟨kvs, k, b, e, ey, eb, l, eH⟩
  · subst ey eH
    obtain ⟨z, hd, vs, rel, dd⟩ := dk_of I.hok e
    have hz:vs.length <= sizeLine := by rw [<- rel.length]; exact z
    have hl:(putK kvs k v).length <= sizeLine := by have := length_putK kvs k v; omega
    refine wpAny_setItem_pairs (hsz := hz) (kV_is ry) dd fun h' dd' hs => h _ ?_
    have he:∃ q, h'.get? a = some q := let ⟨q, _, _, hq, _⟩ := dd'; ⟨q, hq⟩
    exact d_write I (by rw [e]; exact True.intro) hs he (dk_new hl hd (rel.put k rv) dd')
  · subst ey eH
    cases (show u = Value.ref b from ry)
    obtain ⟨z, hd, xs, rel, dd⟩ := dt_of I.hok e
    have hz:xs.length <= sizeLine := by rw [<- Paired.length rel]; exact z
    have hl:(putK kvs k v).length <= sizeLine := by have := length_putK kvs k v; omega
    refine wpAny_setItem_heap (hsz := hz) (tupleKind_room_in1 hu) (key_of I.hok eb) dd fun h' dd' hs => h _ ?_
    obtain ⟨q, es, ep, hq, h2, h3, h4, _, h5⟩ := dd'
    refine d_write I (by rw [e]; exact True.intro) hs ⟨q, hq⟩ ⟨hl, hd, _, (rel.put k eb rv).keeps fun c ys ec => ?_, q, es, ep, hq, h2, h3, h4, h5⟩
    rw [upd_ne (ne_of ec e (fun z => nomatch z))]
    exact ec
end
section
variable {X:Cx} {pins:List (Addr × Obj)} {σ:St} {H:Hp} {s:Shared} {a:Addr} {kvs:List (Key × V)} {k:Key} {u:Value} {A:Around} {E:Value -> Shared -> Prop}
end
def NoSl (i:Expr) : Prop := ∀ ov iv, subscripted i false ov iv = operate [ov, iv] (getItem ov iv)
theorem subD_of {prog:Program} {w:World} {A:Around} {E:Value -> Shared -> Prop} {s:Shared} {env:Env} {value slice:Expr} {pos:Pos} {T id:String} {Q:Value -> Shared -> Prop}
    (hl : typeLookup (.type T) "__getitem__" = pure (some (.builtin id))) (hs : NoSl slice)
    (h:wpAny (model prog w) A (eval value env) (fun o s₁ => wpAny (model prog w) A (eval slice env) (fun i s₂ => s₂.TypeIs o T /\ wpAny (model prog w) A (getItem o i) Q E s₂) E s₁) E s) :
    wpAny (model prog w) A (eval (.Subscript value slice pos) env) Q E s := by
  refine Subscript_ (wpAny_mono h (fun o s₁ h₁ => wpAny_mono h₁ (fun i s₂ h₂ => ?_) fun _ _ x => x) fun _ _ x => x)
  obtain ⟨hT, h₂⟩ := h₂
  unfold subscriptTail
  refine wpAny_bind ?_
  rw [getitemInPython_of_ne hT.not_modules]
  refine wpAny_bind (wpAny_specialOf hT hl ?_)
  have fin:wpAny (model prog w) A (subscripted slice false o i) (fun r s₃ => wpAny (model prog w) A (letTemporaryGo value o r >>= fun _ => pure r) Q E s₃) E s₂ := by
    rw [hs o i]
    exact wpAny_operating (wpAny_mono h₂ (fun r s₃ h₃ => wpAny_bind (wpAny_letTemporaryGo (wpAny_pure h₃))) fun _ _ x => x)
  first
    | exact wpAny_pure (wpAny_bind fin)
    | exact wpAny_bind (wpAny_pure (wpAny_bind fin))
    | exact wpAny_bind fin
theorem dict_typeIs {X : Cx} {pins : List (Addr × Obj)} {σ : St} {H : Hp} {s : Shared} {a : Addr} {y : V} {o : Option V} (I : Inv X pins σ H s) (g : DGet H a y o) : s.TypeIs (.ref a) "dict" := by
  rcases g with ⟨kvs, k, e, _, _⟩ | ⟨kvs, k, b, e, _, _, _⟩
  · obtain ⟨_, _, vs, _, dd⟩ := dk_rd I.hok e
    exact dd.typeIs
  · obtain ⟨_, _, xs, _, dd⟩ := dt_rd I.hok e
    exact dd.typeIs
def tDGet (td ty:TE) : TE := fun σ H Q => td σ H fun x H1 => ty σ H1 fun y H2 => ∃ a v, x = .ref a /\ DGet H2 a y (some v) /\ Q v H2
section
variable {X:Cx} {o i e value:Expr} {pos pos' tpos:Pos} {td ty tv:TE}
theorem pe_dget (hu:X.A.units + 1 < cLine) (ho:PE X o td) (hi:PE X i ty) (hs:NoSl i) : PE X (.Subscript o i pos) (tDGet td ty) := by
  intro pins s σ H Q I h
  refine subD_of PySem.F.slot_dict_getitem.lookup hs (thn (ho pins s σ H _ I h) fun u s1 ⟨x, H1, I1, rx, q1⟩ => thn (hi pins s1 σ H1 _ I1 q1) fun iv s2 ⟨y, H2, I2, ry, a, v, ex, g, q2⟩ => ?_)
  subst ex
  obtain rfl:u = Value.ref a := rx
  exact ⟨dict_typeIs I2 g, d_getItem hu I2 g ry fun w' s3 I3 rw' => ⟨v, H2, I3, rw', q2⟩⟩
end
theorem dk_empty {P : Program} {w : World} {H : Hp} (h : Heap) (hb : sysModules < h.objs.size) : ObjOk P w H (h.push { cls := .type "dict", data := .dict #[] }) h.objs.size (.dK []) :=
  ⟨Nat.zero_le _, beq_eq_false_iff_ne.mpr (Ne.symm (Nat.ne_of_lt hb)), [], .nil, Heap.DictOf.new h⟩
def tDNewK:TE := fun _ H Q => ∀ p, H p = none -> Q (.ref p) (upd H p (.dK []))
section
variable {X:Cx} {pos:Pos}
theorem pe_dnewK:PE X (.Dict [] [] pos) tDNewK := fun pins s σ H Q I h =>
  wpAny_Dict_empty ⟨.ref s.heap.objs.size, _, I.laid (a := s.heap.objs.size) (o := .dK []) (t' := s.toks) (fun _ _ q => Heap.get?_push_of_some _ q) (Nat.le_refl _) (dk_empty s.heap I.big), rfl, h _ (I.hok.fresh (Nat.le_refl _))⟩
end
def tPairs:List (TE × TE) -> St -> Hp -> (List (V × V) -> Hp -> Prop) -> Prop
  | [], _, H, Q => Q [] H
  | (tk, tv) :: r, σ, H, Q => tk σ H fun x H1 => tv σ H1 fun y H2 => tPairs r σ H2 fun ps H3 => Q ((x, y) :: ps) H3
abbrev VV:List (V × V) -> List (Value × Value) -> Prop := Paired fun p q => RelV p.1 q.1 /\ RelV p.2 q.2
def PPs (X:Cx) (pos:Pos) (keys:List (Option Expr)) (values:List Expr) (trs:List (TE × TE)) : Prop :=
  ∀ (pins:List (Addr × Obj)) (s:Shared) (σ:St) (H:Hp) (Q:List (V × V) -> Hp -> Prop), Inv X pins σ H s -> tPairs trs σ H Q ->
    wpAny (model X.prog X.w) X.A (evalPairs (pairTrees keys values X.env pos)) (fun vs s' => ∃ ps H', Inv X pins σ H' s' /\ VV ps vs /\ Q ps H') X.xe s
theorem pps_nil {X:Cx} {pos:Pos} : PPs X pos [] [] [] := fun pins s σ H Q I h => pairTrees_nil_walk ⟨[], H, I, .nil, h⟩
theorem pps_cons {X:Cx} {pos:Pos} {k v:Expr} {ks:List (Option Expr)} {vs:List Expr} {tk tv:TE} {trs:List (TE × TE)} (hk:PE X k tk) (hv:PE X v tv) (hr:PPs X pos ks vs trs) :
    PPs X pos (some k :: ks) (v :: vs) ((tk, tv) :: trs) := fun pins s σ H Q I h =>
  pairTrees_cons_walk (thn (hk pins s σ H _ I h) fun u s1 ⟨x, H1, I1, rx, q1⟩ => thn (hv pins s1 σ H1 _ I1 q1) fun w2 s2 ⟨y, H2, I2, ry, q2⟩ =>
    thn (hr pins s2 σ H2 _ I2 q2) fun ws s3 ⟨ps, H3, I3, rel, q3⟩ => ⟨(x, y) :: ps, H3, I3, .cons ⟨rx, ry⟩ rel, q3⟩)
def mergeK (kvs more:List (Key × V)) : List (Key × V) := more.foldl (fun acc kv => putK acc kv.1 kv.2) kvs
theorem KV.merge:∀ {more:List (Key × V)} {rs:List (Key × Value)} {kvs:List (Key × V)} {vs:List (Key × Value)}, KV more rs -> KV kvs vs -> KV (mergeK kvs more) (merged vs rs) := by
  intro more rs kvs vs r
  unfold KV at r
  induction r generalizing kvs vs with
  | nil => intro q; exact q
  | @cons p q ps qs h t ih =>
    intro r0
    have e:KV (putK kvs p.1 p.2) (stored vs q.1 q.2) := by
      have := r0.put p.1 h.2
      rw [<- h.1]; exact this
    exact ih e
theorem length_mergeK:∀ (more kvs:List (Key × V)), (mergeK kvs more).length <= kvs.length + more.length
  | [], kvs => by show kvs.length <= kvs.length + 0; omega
  | p :: r, kvs => by
    have h1 := length_mergeK r (putK kvs p.1 p.2)
    have h2 := length_putK kvs p.1 p.2
    show (mergeK (putK kvs p.1 p.2) r).length <= _
    rw [List.length_cons]; omega
theorem carries_of {P:Program} {w:World} : ∀ {kvs:List (Key × V)} {ws:List (Value × Value)}, VV (kvs.map fun kv => (kV kv.1, kv.2)) ws -> ∃ rs, Carries (mixKind P w) ws rs /\ KV kvs rs
  | [], _, r => by rw [List.map_nil] at r; cases r; exact ⟨[], True.intro, .nil⟩
  | p :: kvs, _, r => by
    rw [List.map_cons] at r
    cases r with
    | @cons a b as bs h t =>
      obtain ⟨rs, c, q⟩ := carries_of (P := P) (w := w) t
      obtain ⟨b1, b2⟩ := b
      exact ⟨(p.1, b2) :: rs, ⟨kV_is h.1, rfl, c⟩, .cons ⟨rfl, h.2⟩ q⟩
def tDisp (trs:List (TE × TE)) : TE := fun σ H Q => ∀ p, H p = none -> tPairs trs σ (upd H p (.dK [])) fun ps H2 => H2 p = some (.dK []) /\ ∃ kvs:List (Key × V), ps = kvs.map (fun kv => (kV kv.1, kv.2)) /\ kvs.length <= 15 /\ Q (.ref p) (upd H2 p (.dK (mergeK [] kvs)))
theorem pe_disp {X:Cx} {pos:Pos} {keys:List (Option Expr)} {values:List Expr} {trs:List (TE × TE)} (h:PPs X pos keys values trs) (hall:keys.all (·.isSome) = true) (hl:keys.length = values.length) (h0:keys ≠ [])
    (h15:keys.length <= 15) : PE X (.Dict keys values pos) (tDisp trs) := by
  intro pins s σ H Q I q
  have hn := I.hok.fresh (Nat.le_refl s.heap.objs.size)
  have I1 := I.laid (a := s.heap.objs.size) (o := .dK []) (h' := s.heap.push { cls := .type "dict", data := .dict #[] }) (t' := s.toks) (fun _ _ q => Heap.get?_push_of_some _ q) (Nat.le_refl _) (dk_empty s.heap I.big)
  refine wpAny_Dict_walk (knd := mixKind X.prog X.w) hall hl h0 h15 (thn (h pins _ σ _ _ I1 (q _ hn)) fun ws s2 ⟨ps, H2, I2, rel, e, kvs, ep, lk, q2⟩ => ?_)
  subst ep
  obtain ⟨rs, c, rk⟩ := carries_of (P := X.prog) (w := X.w) rel
  obtain ⟨z, hd, vs0, r0, dd⟩ := dk_of I2.hok e
  cases r0
  refine ⟨rs, c, dd, fun h' dd' hs => ⟨.ref s.heap.objs.size, _, ?_, rfl, q2⟩⟩
  have hz:(mergeK [] kvs).length <= sizeLine := by
    have h1 := length_mergeK kvs []
    rw [List.length_nil] at h1
    rw [sizeLine_eq]; omega
  have he:∃ q, h'.get? s.heap.objs.size = some q := let ⟨q, _, _, hq, _⟩ := dd'; ⟨q, hq⟩
  exact d_write I2 (by rw [e]; exact True.intro) hs he (dk_new hz hd (rk.merge .nil) dd')
structure M1 (X:Cx) (o:Expr) (m:Str) (apos:Pos) (e:Expr) (cpos:Pos) : Prop where
  base:attributeBase o m X.env (eval o X.env) = eval o X.env
  few:((backTo cpos (starEach [e] X.env)).all (fun x => !x.1) && (backToKw cpos (keywordEach [] X.env)).all (fun x => x.1.isSome)
    && decide (([e] : List Expr).length + ([] : List Keyword).length + (if ([] : List Keyword).isEmpty then 0 else 1) < 30)) = true
  line:(apos.endLine == cpos.line) = true
  trees:backTo cpos (starEach [e] X.env) = [(false, eval e X.env)]
structure M2 (X:Cx) (o:Expr) (m:Str) (apos:Pos) (e f:Expr) (cpos:Pos) : Prop where
  base:attributeBase o m X.env (eval o X.env) = eval o X.env
  few:((backTo cpos (starEach [e, f] X.env)).all (fun x => !x.1) && (backToKw cpos (keywordEach [] X.env)).all (fun x => x.1.isSome)
    && decide (([e, f] : List Expr).length + ([] : List Keyword).length + (if ([] : List Keyword).isEmpty then 0 else 1) < 30)) = true
  line:(apos.endLine == cpos.line) = true
  trees:backTo cpos (starEach [e, f] X.env) = [(false, eval e X.env), (false, eval f X.env)]
def IsD (H:Hp) (a:Addr) : Prop := (∃ kvs, Rd H a (.dK kvs)) \/ ∃ kvs, Rd H a (.dT kvs)
theorem isD_at {X:Cx} {pins:List (Addr × Obj)} {σ:St} {H:Hp} {s:Shared} {a:Addr} (I:Inv X pins σ H s) (d:IsD H a) :
    s.TypeIs (.ref a) "dict" /\ (∀ b, Value.ref a = .ref b -> ∃ ob, s.heap.get? b = some ob /\ ob.dict = none) /\ (a == sysModules) = false := by
  rcases d with ⟨kvs, e⟩ | ⟨kvs, e⟩
  · obtain ⟨_, hd, vs, _, dd⟩ := dk_rd I.hok e
    refine ⟨dd.typeIs, fun b q => ?_, hd⟩
    cases q
    obtain ⟨ob, _, _, h1, h2, _⟩ := dd
    exact ⟨ob, h1, h2.2.1⟩
  · obtain ⟨_, hd, xs, _, dd⟩ := dt_rd I.hok e
    refine ⟨dd.typeIs, fun b q => ?_, hd⟩
    cases q
    obtain ⟨ob, _, _, h1, h2, _⟩ := dd
    exact ⟨ob, h1, h2.2.1⟩
section
variable {X:Cx} {pins:List (Addr × Obj)} {σ:St} {H:Hp} {s:Shared} {a:Addr} {y d:V} {u r:Value} {o:Option V} {A:Around} {E:Value -> Shared -> Prop}
theorem d_get2 {Q:Value -> Shared -> Prop} (hu:A.units + 1 < cLine) (I:Inv X pins σ H s) (g:DGet H a y o) (ry:RelV y u) (rd:RelV d r) (h:∀ w' s', Inv X pins σ H s' -> RelV (o.getD d) w' -> Q w' s') :
    wpAny (model X.prog X.w) A (call (.builtin "dict.get") [.ref a, u, r]) Q E s := by
  rcases g with ⟨kvs, k, e, ey, l⟩ | ⟨kvs, k, b, e, ey, eb, l⟩
  · subst ey
    obtain ⟨z, hd, vs, rel, dd⟩ := dk_rd I.hok e
    refine call_meetsIn PySem.F.slot_dict_get dd.typeIs PySem.F.entry_dict_get (PySem.F.args_dict_get_3 _ _ _) (meets_dict_get_default (mixKind X.prog X.w) a (kV_is ry) hd r) ⟨_, dd.mapOf, h _ _ (I.tok _) ?_⟩
    rw [l]
    exact (rel.val k).getD rd
  · subst ey
    cases (show u = Value.ref b from ry)
    obtain ⟨z, hd, xs, rel, dd⟩ := dt_rd I.hok e
    refine call_meetsIn PySem.F.slot_dict_get dd.typeIs PySem.F.entry_dict_get (PySem.F.args_dict_get_3 _ _ _) (meetsH_dict_get_default (tupleKind (mixKind X.prog X.w)) a b hd r) ⟨tupleKind_room_in1 hu, k, xs, key_of I.hok eb, dd, h _ _ (I.tok _) ?_⟩
    rw [l]
    exact (rel.val k).getD rd
end
section
variable {X:Cx} {o e f:Expr} {apos cpos:Pos} {td ty tx:TE}
end
section
variable {X:Cx} {pins:List (Addr × Obj)} {σ:St} {H:Hp} {s:Shared} {a:Addr} {kvs:List (Key × V)} {A:Around} {E:Value -> Shared -> Prop}
end
section
variable {X:Cx} {pins:List (Addr × Obj)} {σ:St} {H:Hp} {s:Shared} {a:Addr} {y:V} {u:Value} {A:Around} {E:Value -> Shared -> Prop}
end
end L2
namespace Att
open PySem PySem.W PySem.Calls PyProof.Rows
theorem ints_of_wellAll {P:Params} {h:Heap} : ∀ (ns:List Int) (vs:List Value), WellAll P h vs (ns.map WData.int) -> IntsAre vs ns := by
  intro ns
  induction ns with
  | nil =>
    intro vs w
    rw [List.map_nil] at w
    cases w
    exact .nil
  | cons n ns ih =>
    intro vs w
    rw [List.map_cons] at w
    cases w with
    | cons a b =>
      cases a
      exact .cons _ _ (ih _ b)
theorem script_of {l:OpenLaw} {n:Nat} (hn:l.most = some n) {P:Params} {h:Heap} {args:List WData} {vals:List Value}
    (hpre:l.row.toRowW.claim.pre args = true) (hwl:WellAll P h vals args) :
    ∃ a vs ns, vals = [Value.ref a] /\ args = [WData.list (ns.map WData.int)] /\ h.get? a = some { cls := .type "list", data := .seq vs.toArray } /\ IntsAre vs ns /\ ns.length <= n := by
  have hsh:WShape.hasAll [] args [.list .int] = true := (pre_splitW hpre).1
  have hc:l.pre.holds [] { args := args } = true := (pre_splitW hpre).2
  obtain ⟨d, r, rfl, h1, h2⟩ := hasAllW_cons hsh
  obtain rfl := hasAllW_nil h2
  obtain ⟨xs, rfl, h3⟩ := hasW_list h1
  obtain ⟨ns, rfl⟩ := items_int h3
  have hlen:ns.length <= n := by
    unfold OpenLaw.pre at hc
    have h4:(WTm.not (.lt (.lit (.int (n:Int))) (.len (.arg 0)))).holds [] { args := [.list (ns.map .int)] } = true := by
      have h4 := (holds_andW hc).1
      rw [hn] at h4
      exact h4
    have h5 := condW_of h4 (w_not (w_lt w_lit (w_len_list (w_arg rfl))))
    rw [List.length_map] at h5
    refine Nat.le_of_not_lt fun q => ?_
    have q':(n:Int) < ((ns.length:Nat) : Int) := by omega
    first
      | (rw [decide_eq_true q'] at h5; exact absurd h5 (by decide))
      | (simp at h5; omega)
  cases hwl with
  | cons w1 w2 =>
    cases w2
    cases w1 with
    | list ho hall => exact ⟨_, _, ns, rfl, rfl, ho, ints_of_wellAll ns _ hall, hlen⟩
theorem post_true (l:OpenLaw) (args:List WData) : l.row.toRowW.claim.post args (.bool true) args = true :=
  postW_of (r := l.row.toRowW) (X := (true == true))
    (show WShape.has [] (.bool true) .bool = true by first | rfl | decide | simp [WShape.has, WShape.arms, WShape.armsAll])
    (show (WTm.eq .res (.lit (.bool true))).value [] { args := args, res := some (.bool true), after := args } = some (.bool (true == true)) from w_eq_bool (w_res rfl) w_lit) rfl
theorem attach_call {l:OpenLaw} {n:Nat} {q:Program} {loose:List Str} {XP:(Str -> Option Value) -> Heap -> Prop} {YP:World -> Heap -> Prop} {d:DefRec}
    (hn:l.most = some n) (hdf:d.params.defaults = [])
    (call:∀ (w:World) (s₀ s₁:Shared) (mg mb:Str -> Option Value) (fa:Addr) (o:Obj) (pm cd doc:Value) (a:Addr) (vs:List Value) (ns:List Int),
      Ground q loose [] XP w s₀ mg mb s₁.heap -> YP w s₁.heap ->
      s₁.heap.get? fa = some o -> o.data = .func (docDef d.name d.params d.body d.scope pm cd doc) -> s₁.heap.CodeRec cd d.name -> mg d.name = some (.ref fa) ->
      s₁.heap.get? a = some { cls := .type "list", data := .seq vs.toArray } -> IntsAre vs ns -> ns.length <= n -> s₁.gens = #[] ->
      codeAny (model l.prog w) callerA (.call (.ref fa) ⟨[.ref a], []⟩) (fun r s' => r = .ok (.ret (.bool true)) /\ OldK s₁.heap s'.heap /\ s'.os = s₁.os /\ AllBare s'.gens) s₁) :
    WalkO q loose XP YP l.row.toRowW d [] (fun f vs => PySem.call f vs) := by
  intro w s₀ s₁ mg mb G Y fa o pm cd doc dV kV ho hd hcd hD hmg hg args vals as hpre hlay hrd hwl hlo
  obtain rfl:dV = .none := Dflts.none hD hdf
  obtain rfl:kV = .none := Dflts.noKw hD
  obtain ⟨a, vs, ns, rfl, rfl, hobj, hints, hlen⟩ := script_of hn hpre hwl
  refine enter_call (codeAny_mono (call w s₀ s₁ mg mb fa o pm cd doc a vs ns G Y ho (fd_plain hd) hcd hmg hobj hints hlen hg) fun r s' hq => ?_)
  obtain ⟨rfl, h2, h3, h4⟩ := hq
  exact ⟨.inl ⟨.bool true, .bool true, [], rfl, fun _ => rfl, .bool true, post_true l _, fun _ => ⟨List.Pairwise.nil, fun _ hm => (nomatch hm)⟩⟩, h2, h3, h4⟩
section
variable {prog:Program} {w:World} {A:Around} {E:Value -> Shared -> Prop} {s:Shared} {K:Frag}
end
end Att
namespace L2
open PySem PySem.Spec PyProof.Rows
theorem vals_ints:∀ {vs:List Value} {ns:List Int}, IntsAre vs ns -> Vals (ns.map V.int) vs
  | _, _, .nil => .nil
  | _, _, .cons n t h => .cons ⟨t, rfl⟩ (vals_ints h)
def Only (H:Hp) : Prop := ∀ b, H b = none \/ ∃ o xs, H b = some (.frz o (.lst xs))
theorem law_call {P:Program} {w:World} {K:PySem.W.Frag} {mg mb:Str -> Option Value} {CX:CXT} {k:Nat} {fa a:Addr} {fd:FuncData} {x:Str} {sp:Sp} {s₁:Shared} {vs:List Value} {ns:List Int}
    (KX : K.In s₁.heap) (hns : s₁.heap.Ns mainGlobals mg) (hb : s₁.heap.Ns builtinsNs mb) (hbb : ∀ x : Str, x ≠ "__name__" -> mb x = bootBuiltins x) (hlim : s₁.heap.NoLimit) (hg : s₁.gens = #[])
    (ha : s₁.heap.get? a = some { cls := .type "list", data := .seq vs.toArray }) (hi : IntsAre vs ns) (hl : ns.length <= sizeLine) (hr : Room k callerA)
    (F:∀ base:Heap, K.In base -> base.Ns mainGlobals mg -> FnOk P w K mg base CX k fa fd [x] sp) (hbind:∀ (s:Shared) (u:Value), BindsTo s fd ⟨[u], []⟩ [(x, u)])
    (hsp:∀ H:Hp, Only H -> SqL K H a (ns.map V.int) -> sp [.ref a] H (fun v _ => v = .bl true) fun _ _ _ => False)
    (hCX:∀ H e s', CX [] H s₁ (fun _ _ _ => False) e s' -> False) :
    codeAny (model P w) callerA (.call (.ref fa) ⟨[.ref a], []⟩) (fun r s' => r = .ok (.ret (.bool true)) /\ OldK s₁.heap s'.heap /\ s'.os = s₁.os /\ AllBare s'.gens) s₁ := by
  have rv := vals_ints hi
  have lenV := hi.length
  have core:∀ H:Hp, Only H -> SqL K H a (ns.map V.int) -> HOk P w H s₁.heap -> (∀ b, H b ≠ none -> b = a) -> (H a ≠ none -> K.lookup a = none) ->
      codeAny (model P w) callerA (.call (.ref fa) ⟨[.ref a], []⟩) (fun r s' => r = .ok (.ret (.bool true)) /\ OldK s₁.heap s'.heap /\ s'.os = s₁.os /\ AllBare s'.gens) s₁ := by
    intro H hO hS hok hA hK
    have base_of:∀ {b:Addr} {o:Obj}, s₁.heap.get? b = some o -> H b = none -> (hidT s₁.heap H).get? b = some o := fun e n => hidT_get e n
    have noA:∀ {b:Addr} {o:Obj} {es:Array DictEntry} {ep:Nat}, s₁.heap.get? b = some o -> o.data = .dict es ep -> H b = none := fun {b o es ep} e d => by
      cases q:H b with
      | none => rfl
      | some u =>
        have e':b = a := hA b (by rw [q]; simp)
        subst e'
        rw [ha] at e; cases e
        have d':Data.seq vs.toArray _ = Data.dict es ep := d
        cases d'
    have nsK:∀ {b:Addr} {m:Str -> Option Value}, s₁.heap.Ns b m -> (hidT s₁.heap H).Ns b m := fun {b m} ⟨o, es, ep, e, d, r⟩ => ⟨o, es, ep, base_of e (noA e d), d, r⟩
    have hKb:K.In (hidT s₁.heap H) := fun b o e => base_of (KX b o e) (by
      cases q:H b with
      | none => rfl
      | some u =>
        have e':b = a := hA b (by rw [q]; simp)
        subst e'
        rw [hK (by rw [q]; simp)] at e; cases e)
    have hM:Mod K mg (hidT s₁.heap H) := ⟨hKb, nsK hns, ⟨mb, nsK hb, hbb⟩, let ⟨mc, h1, h2⟩ := hlim; ⟨mc, nsK h1, h2⟩⟩
    have e0:Env0 P w K mg (hidT s₁.heap H) callerA [] s₁ H := ⟨rfl, hM, fun b o e => of_hidT e, Nat.le_of_eq (hidT_size _ _), trivial, fun b hb => absurd (show b ∈ ([] : List Addr) from hb) (by simp), hok, .of_eq hg⟩
    refine codeAny_mono ((F _ hKb (nsK hns)).run callerA [] s₁ H ⟨[.ref a], []⟩ [.ref a] [.ref a] _ _ hr e0 (hbind s₁ (.ref a)) (.cons rfl .nil) (hsp H hO hS)) fun r s' h => ?_
    cases r with
    | error e => exact (hCX H e s' h).elim
    | ok fl =>
      cases fl with
      | next => exact False.elim h
      | brk => exact False.elim h
      | cont => exact False.elim h
      | ret u =>
        obtain ⟨v, H', os, bare, un, hok', r', q⟩ := h
        have q':v = .bl true := q
        subst q'
        obtain rfl:u = Value.bool true := r'
        refine ⟨rfl, OldK.of_keep fun b o e => ?_, os, bare⟩
        cases q:H b with
        | none => exact un.keep b o e q (by intro z; exact absurd (show b ∈ ([] : List Addr) from z) (by simp)) (by simp)
        | some u =>
          rcases hO b with z | ⟨ob, xs, z⟩
          · rw [q] at z; cases z
          · have z2 := un.frzs b ob _ z
            obtain ⟨e1, _⟩ := hok b _ z
            obtain ⟨e2, _⟩ := hok' b _ z2
            rw [e] at e1; cases e1
            exact e2
  cases hk:K.lookup a with
  | some o =>
    have e := KX a o hk
    rw [ha] at e
    cases e
    refine core (fun _ => none) (fun _ => .inl rfl) (.inr ⟨_, vs.toArray, _, hk, rfl, rfl, rfl, by rw [List.size_toArray, lenV]; exact hl, by simpa using rv⟩) (fun b u z => by have z':(none:Option HO) = some u := z; cases z') (fun b z => absurd rfl z) fun z => absurd rfl z
  | none =>
    refine core (fun b => if b = a then some (.frz { cls := .type "list", data := .seq vs.toArray } (.lst (ns.map V.int))) else none) (fun b => ?_) (.inl (.inr ⟨{ cls := .type "list", data := .seq vs.toArray }, if_pos rfl⟩)) (fun b u z => ?_) (fun b z => ?_) fun _ => hk
    · by_cases hb:b = a
      · exact .inr ⟨_, _, if_pos hb⟩
      · exact .inl (if_neg hb)
    · by_cases hb : b = a
      · have z' := (if_pos hb).symm.trans z
        cases z'
        subst hb
        exact ⟨ha, by rw [List.length_map]; exact hl, vs, _, rv, ha⟩
      · have z' := (if_neg hb).symm.trans z
        cases z'
    · by_cases hb:b = a
      · exact hb
      · exact absurd (if_neg hb) z
end L2
namespace L2
open PySem PySem.Spec PyProof.Rows
theorem walk_of {l:PySem.W.OpenLaw} {n k:Nat} {q:Program} {loose:List Str} {XP:(Str -> Option Value) -> Heap -> Prop} {YP:World -> Heap -> Prop} {d:DefRec} {K:Params -> PySem.W.Frag} {CX:World -> CXT} {sp:World -> Sp} {x:Str}
    (hn:l.most = some n) (hn2:n <= sizeLine) (hdf:d.params.defaults = []) (hr:Room k callerA)
    (hY:∀ (w:World) (h:Heap), YP w h -> (K w.params).In h)
    (F:∀ (w:World) (mg:Str -> Option Value) (fa:Addr) (h:Heap), (K w.params).In h -> h.Ns mainGlobals mg -> mg d.name = some (.ref fa) ->
      ∃ fd:FuncData, (∀ (s:Shared) (u:Value), BindsTo s fd ⟨[u], []⟩ [(x, u)]) /\
        ∀ base:Heap, (K w.params).In base -> base.Ns mainGlobals mg -> FnOk l.prog w (K w.params) mg base (CX w) k fa fd [x] (sp w))
    (hsp:∀ (w:World) (H:Hp) (a:Addr) (ns:List Int), ns.length <= n -> Only H -> SqL (K w.params) H a (ns.map V.int) -> sp w [.ref a] H (fun v _ => v = .bl true) fun _ _ _ => False)
    (hCX:∀ (w:World) (H:Hp) (s:Shared) (e:Value) (s':Shared), CX w [] H s (fun _ _ _ => False) e s' -> False) :
    PySem.W.WalkO q loose XP YP l.row.toRowW d [] (fun f vs => PySem.call f vs) := by
  refine Att.attach_call hn hdf fun w s₀ s₁ mg mb fa o pm cd doc a vs ns G Y ho hd hcd hmg hobj hints hlen hg => ?_
  have KX := hY w _ Y
  obtain ⟨fd, hb, hF⟩ := F w mg fa _ KX G.T.g hmg
  exact law_call KX G.T.g G.T.b G.T.builtins G.T.nolimit hg hobj hints (Nat.le_trans hlen hn2) hr hF hb (fun H hO hS => hsp w H a ns hlen hO hS) fun H e s' => hCX w H s₁ e s'
end L2
namespace L2
open PySem PySem.Spec PyProof.Rows
def defArgs (s:Stmt) : Arguments := match s with
  | .FunctionDef _ a _ _ _ _ _ _ _ _ => a
  | _ => { posonlyargs := [], args := [], vararg := none, kwonlyargs := [], kw_defaults := [], kwarg := none, defaults := [] }
def defBody (s:Stmt) : List Stmt := match s with
  | .FunctionDef _ _ b _ _ _ _ _ _ _ => b
  | _ => []
def defScope (s:Stmt) : Scope := match s with
  | .FunctionDef _ _ _ _ _ _ sc _ _ _ => sc
  | _ => { kind := .function, names := [], isGenerator := false, isCoroutine := false }
abbrev CX0:CXT := fun _ _ _ _ _ _ => False
abbrev E0:XK := fun _ _ _ => False
structure Fun (K:PySem.W.Frag) (x qual:Str) (st:Stmt) (f:Addr) (fd:FuncData) : Prop where
  ex:∃ (oc:Value) (od:Option Addr) (kV doc pm:Value) (an:Option Addr) (cdv ct:Value) (osl:Array (Option Value)),
    fd = PySem.W.fnOf x qual (defArgs st) (defBody st) (defScope st) .none kV doc pm an cdv ct /\ K.lookup f = some ⟨oc, od, .func fd, osl⟩ /\ PySem.W.codeIn K cdv qual = true
  kp:PySem.W.keepIn K (.ref f) = true
section
variable {P:Program} {w:World} {K:PySem.W.Frag} {mg:Str -> Option Value} {base:Heap}
theorem Fun.ok {x qual:Str} {st:Stmt} {f:Addr} {fd:FuncData} {N ps:List Str} {k:Nat} {sp:Sp} (F:Fun K x qual st f fd) (S:FnScope N ps (defScope st)) (len:∀ vs H Q E, sp vs H Q E -> vs.length = ps.length)
    (hbody:∀ (cdv:Value) (A:Around) (outer:List Env) (s:Shared) (H:Hp) (vs:List V) (Q:VK) (E:XK), Room k (A.deeper (envOfC qual (defScope st) s.heap.objs.size f cdv)) -> sp vs H Q E ->
      ∃ t, PSs (cxOf CX0 P w K mg base N qual (defScope st) f cdv A outer s H E).nox (defBody st) t /\ t { nx := fun _ H' => Q .non H', rt := Q } (start N vs) H) : FnOk P w K mg base CX0 (k + 1) f fd ps sp := by
  obtain ⟨oc, od, kV, doc, pm, an, cdv, ct, osl, rfl, lk, hcd⟩ := F.ex
  refine fn_of lk hcd S len fun A outer s H vs Q E hr hsp => ?_
  obtain ⟨t, h, q⟩ := hbody cdv A outer s H vs Q E hr hsp
  exact ⟨t, h.nox, q⟩
theorem Fun.binds {x qual:Str} {st:Stmt} {f:Addr} {fd:FuncData} {ps:List Str} (F:Fun K x qual st f fd)
    (h:∀ (kV doc pm:Value) (an:Option Addr) (cdv ct:Value) (us:List Value), us.length = ps.length -> bindArgs (PySem.W.fnOf x qual (defArgs st) (defBody st) (defScope st) .none kV doc pm an cdv ct) ⟨us, []⟩ = pure (ps.zip us)) : Binds K fd ps [] := by
  obtain ⟨oc, od, kV, doc, pm, an, cdv, ct, osl, rfl, lk, hcd⟩ := F.ex
  exact .all (h kV doc pm an cdv ct)
theorem fun_mk {x qual:Str} {st:Stmt} {f:Addr} {oc:Value} {od an:Option Addr} {osl:Array (Option Value)} {kV doc pm cdv ct:Value} (l:K.lookup f = some ⟨oc, od, .func (PySem.W.fnOf x qual (defArgs st) (defBody st) (defScope st) .none kV doc pm an cdv ct), osl⟩)
    (c:PySem.W.codeIn K cdv qual = true) (k:PySem.W.keepIn K (.ref f) = true) : Fun K x qual st f (PySem.W.fnOf x qual (defArgs st) (defBody st) (defScope st) .none kV doc pm an cdv ct) := ⟨⟨oc, od, kV, doc, pm, an, cdv, ct, osl, rfl, l, c⟩, k⟩
end
section
variable {X:Cx}
theorem pv (i : Nat) {x : Str} {pos : Pos} (hN : X.N[i]? = some x := by rfl) (hv : Vis X.env.scope x := by first | exact Or.inl rfl | exact Or.inr (Or.inl rfl) | exact Or.inr (Or.inr rfl)) (hd : (x == ("__debug__" : Str)) = false := by decide)
    (hcd : (x == ("__classdict__" : Str)) = false := by decide) : PE X (.Name x pos) (tVar i) := pe_var hN hv hd hcd
end
theorem iteF {A B:Prop} (h:B) : if false = true then A else B := by
  rw [if_neg Bool.false_ne_true]
  exact h
theorem iteT {A B:Prop} (h:A) : if true = true then A else B := by
  rw [if_pos rfl]
  exact h
def Same (H H':Hp) : Prop := ∀ b o, H b = some o -> H' b = some o
theorem Same.refl (H:Hp) : Same H H := fun _ _ h => h
theorem Same.trans {H H1 H2:Hp} (a:Same H H1) (b:Same H1 H2) : Same H H2 := fun c o h => b c o (a c o h)
theorem Same.free {H H':Hp} (e:Same H H') {l:Addr} (h:H' l = Option.none) : H l = Option.none := by
  cases q:H l with
  | none => rfl
  | some o =>
    rw [e l o q] at h
    cases h
theorem Same.seq {K:PySem.W.Frag} {H H':Hp} {a:Addr} {xs:List V} (e:Same H H') (h:SqL K H a xs) : SqL K H' a xs := by
  rcases h with (h | ⟨o, h⟩) | h
  · exact .inl (.inl (e _ _ h))
  · exact .inl (.inr ⟨o, e _ _ h⟩)
  · exact .inr h
section
variable {κ:Type} [DecidableEq κ]
end
end L2
set_option autoImplicit false
namespace L2
open PySem PySem.Spec PyProof.Rows
section
variable {P:Program} {w:World} {K:PySem.W.Frag} {mg:Str -> Option Value} {base:Heap} {N:List Str} {qual:Str} {scope:Scope} {f:Addr} {cd:Value} {A:Around} {outer:List Env} {s₀:Shared} {H₀:Hp} {E:XK}
end
end L2
namespace L2
open PySem PySem.Spec PyProof.Rows
abbrev vMro : List Value := [.type "ValueError", .type "Exception", .type "BaseException", .type "object"]
def ClsAt (h : Heap) (C : Addr) (bm : List Value) : Prop := ∃ N nm q bs hdct sn sub ab col dd k0 k1 k2 k3 k5 mN, h.get? C = some (excClassObj nm q C N bs bm hdct sn sub ab col dd k0 k1 k2 k3 k5 "ValueError.__new__") /\ h.Ns N mN /\ mN "__init__" = none /\ OwnTail h vMro bm
theorem ClsAt.keeps {h h':Heap} {C:Addr} {bm:List Value} (x:ClsAt h C bm) (k:∀ b o, h.get? b = some o -> h'.get? b = some o) : ClsAt h' C bm := by
  obtain ⟨N, nm, q, bs, hd, sn, sub, ab, col, dd, k0, k1, k2, k3, k5, mN, e1, e2, e3, e4⟩ := x
  exact ⟨N, nm, q, bs, hd, sn, sub, ab, col, dd, k0, k1, k2, k3, k5, mN, k _ _ e1, e2.keeps k, e3, e4.keeps k⟩
structure XC (K:PySem.W.Frag) (mg:Str -> Option Value) (c:Str) (C:Addr) : Prop where
  gl:mg c = some (.ref C)
  ex : PySem.W.excIn K C vMro "ValueError.__new__" = true
section
variable {X:Cx} {c:Str} {C:Addr} {np cpos pos:Pos} {e₀:Expr} {rest:List Expr} {t:TA}
end
section
variable {M:Model} {A:Around} {E:Value -> Shared -> Prop}
end
end L2
namespace L2
open PySem PySem.Spec PyProof.Rows
abbrev TX := St -> Hp -> VK -> XK -> Prop
section
variable {X:Cx} {k:Nat} {f:Addr} {fd:FuncData} {ps:List Str} {sp:Sp} {dvs:List V} {ds:List Value} {x:Str} {p pos:Pos} {e:Expr} {es:List Expr} {t:TA}
end
section
variable {X:Cx} {pins:List (Addr × Obj)} {σ:St} {H:Hp} {s:Shared} {x:Addr}
end
section
variable {X:Cx} {hc:Str} {Ch:Addr} {np hpos pos epos:Pos} {b₀:Stmt} {suite:List Stmt} {ts:TS} {te:TX} {e:Expr}
end
end L2
namespace L2
open PySem PySem.Spec PySem.Calls PyProof.Rows
theorem attrQ_miss_list {prog:Program} {w:World} {A:Around} {E:Value -> Shared -> Prop} {s:Shared} {a:Addr} {o:Obj} {xs:Array Value} {k:Nat} {name:Str} {Q:Option Value -> Shared -> Prop}
    (hx : s.heap.get? a = some o) (hc : o.cls = .type "list") (hdat : o.data = .seq xs k) (hd : o.dict = none) (hmiss : typeLookup (.type "list") name = pure none) (hname : (["__module__", "__name__", "__qualname__", "__doc__", "__annotations__"] : List Str).contains name = false) (hA : A.handled = none)
    (h : ∀ h' tk e, Heap.NewExcOf s.heap h' e "AttributeError" -> Q none { s with heap := h', toks := tk }) (hsz : name.length + 100 <= sizeLine := by size_fits) :
    wpAny (model prog w) A (getAttr? (.ref a) name) Q E s := by
  obtain ⟨c, dct, dat, sl⟩ := o
  simp only at hc hdat hd
  subst hc hdat hd
  obtain ⟨hp, g, d, tk, os⟩ := s
  have hT : ∀ tk', (⟨hp, g, d, tk', os⟩ : Shared).TypeIs (.ref a) "list" := fun _ => ⟨_, hx, rfl⟩
  have f1 := sub_AttributeError
  have f3 := PySem.F.slot_list_getattribute.lookup
  have f4 := PySem.F.slot_list_getattribute.bind (.ref a)
  have f5 := am_list_getattr_none
  unfold getAttr? getAttrBy? getAttrBy
  repeat (any_goals (first | assumption | exact hT _ | ((with_reducible show wpAny _ _ (call (Value.builtin "list.__getattribute__") _ _) _ _ _); refine call_meets PySem.F.slot_list_getattribute (hT _) am_entry_list_getattribute (PySem.F.args_list_getattribute_2 _ _) (meets_getattribute_miss_list a xs k sl name _ hmiss hname hsz) ⟨hx, hA, fun h' tk' e hx' => ?_⟩) | wp_step))
  obtain ⟨t', u', he⟩ := hx'.there
  show wpAny _ _ (getattributeRaised _ _ _ _ _ _ _) _ _ _
  unfold getattributeRaised
  repeat (any_goals (first | assumption | wp_step))
  exact h _ _ _ hx'.of
end L2
namespace L2
open PySem PySem.Spec PySem.Calls PyProof.Rows
abbrev PItem := List Key × Addr × Value
def stAll (xs:List PItem) (its:List PItem) : List PItem := its.foldl (fun xs x => storedH xs x.1 x.2.1 x.2.2) xs
theorem F_entry_loop : entryFor table "dict.update.loop" = some Builtin.«dict.update.loop» := entryFor_of_tree (by kernel_rfl)
theorem F_plain_loop : plainId "dict.update.loop" = true := by decide +kernel
section
variable {prog:Program} {w:World}
abbrev tK (prog:Program) (w:World) := tupleKind (mixKind prog w)
def DRaw (prog:Program) (w:World) (h:Heap) (S:Addr) (xs:List PItem) : Prop := ∃ o es ep, h.get? S = some o /\ o.ExactDict /\ o.data = .dict es ep /\ es.toList = xs.map (entryOfKey (tK prog w)) /\ (xs.map (·.1)).Nodup
theorem is_keep {h h':Heap} {k:List Key} {a:Addr} (x:(tK prog w).is h k a) (e:∀ b o, h.get? b = some o -> h'.get? b = some o) : (tK prog w).is h' k a := by
  obtain ⟨o, items, n, h1, r⟩ := x
  exact ⟨o, items, n, e _ _ h1, r⟩
theorem DRaw.of {hb h:Heap} {S:Addr} {xs:List PItem} (d:DRaw prog w h S xs) (ks:∀ x ∈ xs, (tK prog w).is hb x.1 x.2.1) (e:∀ b o, hb.get? b = some o -> h.get? b = some o) : h.DictOfH (tK prog w) S xs := by
  obtain ⟨o, es, ep, h1, h2, h3, h4, h5⟩ := d
  exact ⟨o, es, ep, h1, h2, h3, h4, fun x hx => is_keep (ks x hx) e, h5⟩
theorem storedH_is {hb:Heap} {xs:List PItem} {k:List Key} {a:Addr} {v:Value} (ks:∀ x ∈ xs, (tK prog w).is hb x.1 x.2.1) (hk:(tK prog w).is hb k a) : ∀ x ∈ storedH xs k a v, (tK prog w).is hb x.1 x.2.1 := by
  unfold storedH
  split
  · intro x hx
    obtain ⟨y, hy, rfl⟩ := List.mem_map.mp hx
    have := ks y hy
    unfold putAt
    split <;> exact this
  · intro x hx
    rcases List.mem_append.mp hx with hx | hx
    · exact ks x hx
    · simp at hx; subst hx; exact hk
theorem storedH_len {xs:List PItem} {k:List Key} {a:Addr} {v:Value} : (storedH xs k a v).length <= xs.length + 1 := by
  unfold storedH
  split
  · rw [List.length_map]; omega
  · rw [List.length_append]; simp
variable {A:Around} {R:Result -> Shared -> Prop} {I:Addr} {fp wr:List Addr} {G:Array GenState -> Array GenState -> Prop} {n:Nat} {P:Nat -> Value -> Prop} {St:Nat -> Shared -> Prop}
theorem codeAny_dict_loop (W:WalksS prog w A.in1 I fp wr G n P St) (S:Addr) (hSf:S ∉ fp) (hu:A.in1.units < cLine) (hb:Heap) (hbS:hb.get? S = none) (hbw:∀ b ∈ wr, hb.get? b = none) (its:List PItem) (hn:its.length = n)
    (hval:∀ i v, P i v -> ∃ p x, v = .ref p /\ its[i]? = some x /\ hb.IsTuple p #[.ref x.2.1, x.2.2] /\ (tK prog w).is hb x.1 x.2.1) (hsz:n <= sizeLine) :
    ∀ (k i:Nat) (s:Shared) (xs:List PItem) (j:Int), n - i = k -> i <= n -> St i s -> (∀ b o, hb.get? b = some o -> s.heap.get? b = some o) -> (∀ x ∈ xs, (tK prog w).is hb x.1 x.2.1) -> xs.length <= i ->
      DRaw prog w s.heap S xs ->
      (∀ s', Moved (S :: wr) G s s' -> s'.heap.DictOfH (tK prog w) S (stAll xs (its.drop i)) -> R (.ok (.ret .none)) s') ->
      codeAny (model prog w) A (.builtin "dict.update.loop" ⟨[.ref S, .ref I, rawInt j, .none], []⟩) R s := by
  have hSw:S ∉ wr := fun h => hSf (W.sub _ h)
  have hsub:∀ b ∈ wr, b ∈ S :: wr := fun b hb => List.mem_cons_of_mem _ hb
  intro k
  induction k with
  | zero =>
    intro i s xs j hk hi hst K ks hxl hS hR
    have hin:i = n := by omega
    subst hin
    refine codeAny_builtin F_entry_loop ?_
    rw [Around.under_plainId F_plain_loop _]
    show wpAny _ A.in1 (pyNext (.ref I) >>= _) _ _ s
    refine wpAny_bind (W.done s _ _ hst fun s' hm => ?_)
    have hR' := hR s' (hm.mono hsub) (by
      rw [List.drop_of_length_le (by omega)]
      obtain ⟨o, es, ep, ho, rest⟩ := hS
      exact DRaw.of (hb := hb) ⟨o, es, ep, hm.heap S _ hSw ho, rest⟩ ks fun b o e => hm.heap b o (fun z => by rw [hbw b z] at e; cases e) (K b o e))
    show wpAny _ A.in1 (Builtin.Dict.addKeywords S [] >>= fun _ => ret Value.none) _ _ s'
    exact wpAny_bind (wpAny_pure (wpAny_pure hR'))
  | succ k ih =>
    intro i s xs j hk hi hst K ks hxl hS hR
    have hlt:i < n := by omega
    refine codeAny_builtin F_entry_loop ?_
    rw [Around.under_plainId F_plain_loop _]
    show wpAny _ A.in1 (pyNext (.ref I) >>= _) _ _ s
    refine wpAny_bind (W.item i s _ _ hlt hst fun v s' hP hst' hm => ?_)
    obtain ⟨p, x, rfl, hx, ht, hkey⟩ := hval i v hP
    have K':∀ b o, hb.get? b = some o -> s'.heap.get? b = some o := fun b o e => hm.heap b o (fun z => by rw [hbw b z] at e; cases e) (K b o e)
    obtain ⟨ot, hot, hct, nt, hdt⟩ := ht
    have hT : s'.TypeIs (.ref p) "tuple" := ⟨ot, K' _ _ hot, hct⟩
    have hS':DRaw prog w s'.heap S xs := by
      obtain ⟨o, es, ep, ho, rest⟩ := hS
      exact ⟨o, es, ep, hm.heap S _ hSw ho, rest⟩
    refine wpAny_bind (wpAny_holding ?_)
    refine wpAny_bind ?_
    refine wpAny_tryCatch ?_
    unfold Builtin.Dict.pairItems
    refine wpAny_bind (wpAny_typeOf hT ?_)
    rw [if_pos (by decide)]
    refine wpAny_bind (wpAny_seqItems (K' _ _ hot) hdt ?_)
    refine wpAny_pure ?_
    show wpAny _ A.in1 (holding [Value.ref x.2.1, x.2.2] (dictSet S (.ref x.2.1) x.2.2)) _ _ s'
    refine wpAny_holding ?_
    refine wpAny_dictSet_heap (knd := tK prog w) (hsz := by omega) hu (is_keep hkey K') (DRaw.of hS' ks K') fun h' hd' hs' => ?_
    have K2:∀ b o, hb.get? b = some o -> h'.get? b = some o := fun b o e => (hs'.2 b (fun z => by subst z; rw [hbS] at e; cases e)).trans (K' b o e)
    have hdrop:its.drop i = x :: its.drop (i + 1) := by
      have hil:i < its.length := by omega
      rw [List.drop_eq_getElem_cons hil]
      rw [List.getElem?_eq_getElem hil] at hx
      rw [Option.some.inj hx]
    refine wpAny_pure ⟨plainId_quiet F_plain_loop _, ih (i + 1) _ (storedH xs x.1 x.2.1 x.2.2) (j + 1) (by omega) hlt (W.frame _ s' _ _ hst' (Nat.le_add_right _ _) fun b hb o e => ?_) K2 (storedH_is ks hkey) (by have := storedH_len (xs := xs) (k := x.1) (a := x.2.1) (v := x.2.2); omega) ?_ fun s'' hm'' hS'' => ?_⟩
    · rw [hs'.2 b (fun h:b = S => hSf (by rw [<- h]; exact hb))]; exact e
    · obtain ⟨o, es, ep, h1, h2, h3, h4, _, h5⟩ := hd'
      exact ⟨o, es, ep, h1, h2, h3, h4, h5⟩
    · refine hR s'' (Moved.trans W.gtrans ((hm.mono hsub).then_heap (Nat.le_add_right _ _) fun b o hb e => ?_) hm'') (by rw [hdrop]; exact hS'')
      rw [hs'.2 b (fun h:b = S => hb (by rw [h]; exact List.mem_cons_self))]; exact e
end
end L2
namespace L2
open PySem PySem.Spec PySem.Calls PyProof.Rows
section
variable {prog:Program} {w:World} {A:Around} {E:Value -> Shared -> Prop} {s:Shared}
theorem call_dict_pairs {l : Addr} {items : Array Value} {nl : Nat} {its : List PItem} {Q : Value -> Shared -> Prop} (hh : A.handled = none) (hu : A.in1.in1.units < cLine) (hl : s.heap.get? l = some { cls := .type "list", data := .seq items nl }) (hn : its.length = items.size) (hsz : items.size <= sizeLine)
    (hval:∀ (i:Nat) (v:Value), items[i]? = some v -> ∃ (p:Addr) (x:PItem), v = .ref p /\ its[i]? = some x /\ s.heap.IsTuple p #[.ref x.2.1, x.2.2] /\ (tK prog w).is s.heap x.1 x.2.1)
    (h:∀ (h':Heap) (tk:Nat), h'.DictOfH (tK prog w) s.heap.objs.size (stAll [] its) -> (∀ b o, b < s.heap.objs.size -> s.heap.get? b = some o -> h'.get? b = some o) -> Q (.ref s.heap.objs.size) { s with heap := h', toks := tk }) :
    wpAny (model prog w) A (call (.type "dict") [.ref l]) Q E s := by
  refine callType_codes (Q₁ := fun obj s₁ => obj = .ref s.heap.objs.size /\ s₁ = { s with heap := s.heap.push { cls := .type "dict", data := .dict #[] } }) PySem.F.kt_called_dict (PySem.F.kt_typeCall_dict_1 _) PySem.F.entry_dict_init (kt_code_dict_new _ ⟨rfl, rfl⟩) ?_
  rintro obj s₁ ⟨rfl, rfl⟩
  have hD : (s.heap.push { cls := .type "dict", data := .dict #[] }).get? s.heap.objs.size = some { cls := .type "dict", data := .dict #[] } := Heap.get?_push_size _ rfl
  have hT : Shared.TypeIs { s with heap := s.heap.push { cls := .type "dict", data := .dict #[] } } (.ref s.heap.objs.size) "dict" := ⟨_, hD, rfl⟩
  refine ⟨hT, PySem.F.args_dict_init_2 _ _, ?_⟩
  unfold Builtin.«dict.__init__»
  refine wpAny_bind ?_
  unfold Builtin.Dict.selfAndRest
  refine wpAny_bind (wpAny_notOrdered_dict hT ?_)
  show wpAny _ _ (pure (s.heap.objs.size, [Value.ref l])) _ _ _
  refine wpAny_pure ?_
  show wpAny _ _ (Builtin.Dict.updateFrom "dict.__init__" s.heap.objs.size (.ref l) [] .none) _ _ _
  unfold Builtin.Dict.updateFrom
  have hl1 : (s.heap.push { cls := .type "dict", data := .dict #[] }).get? l = some { cls := .type "list", data := .seq items nl } := Heap.get?_push_of_some _ hl
  refine wpAny_bind (wpAny_typeOf ⟨_, hl1, rfl⟩ ?_)
  rw [if_pos (by decide)]
  refine wpAny_bind (attrQ_miss_list (s := { s with heap := s.heap.push { cls := .type "dict", data := .dict #[] } }) hl1 rfl rfl rfl (am_miss_of_fast (by decide +kernel)) (by decide +kernel) (by simp [hh]) fun h1 tk1 e1 hx1 => ?_)
  rw [if_pos (by decide)]
  refine wpAny_bind (wpAny_rule ?_)
  have k1:∀ b o, s.heap.get? b = some o -> h1.get? b = some o := fun b o e => hx1.keeps b o (Heap.get?_push_of_some _ e)
  have hl2 : h1.get? l = some { cls := .type "list", data := .seq items nl } := k1 _ _ hl
  have hD1 : h1.get? s.heap.objs.size = some { cls := .type "dict", data := .dict #[] } := hx1.keeps _ _ hD
  have hlt1:s.heap.objs.size < h1.objs.size := Heap.lt_size hD1
  have hll:l < s.heap.objs.size := Heap.lt_size hl
  refine wpAny_bind (wpAny_pyIter_list (s := ⟨h1, s.gens, s.drawn, tk1, s.os⟩) ⟨_, hl2, rfl, nl, rfl⟩ ?_)
  have hh3:A.in1.in1.handled = none := by simp [hh]
  have hno:∀ b, s.heap.objs.size <= b -> s.heap.get? b = none := fun b hb => by
    cases q:s.heap.get? b with
    | none => rfl
    | some o => exact absurd (Heap.lt_size q) (Nat.not_lt.mpr hb)
  have hneI:l ≠ h1.objs.size := Nat.ne_of_lt (Nat.lt_trans hll hlt1)
  have k2 : ∀ b o, h1.get? b = some o -> (h1.push { cls := .type "list_iterator", data := .fields #[.ref l, .int 0 0] }).get? b = some o := fun b o e => Heap.get?_push_of_some _ e
  refine wpAny_pure ⟨plainId_quiet F_plain_loop _, codeAny_dict_loop (A := A.in1) ((Walks.list hh3 h1.objs.size l hneI items).toS) s.heap.objs.size ?_ hu s.heap (hno _ (Nat.le_refl _)) ?_ its hn hval hsz (items.size - 0) 0 _ [] 0 rfl (Nat.zero_le _) ⟨⟨_, Heap.get?_push_size _ rfl, rfl, rfl⟩, ⟨_, k2 _ _ hl2, rfl, nl, rfl⟩⟩ (fun b o e => k2 _ _ (k1 b o e)) (fun x hx => nomatch hx) (Nat.le_refl _) ⟨_, #[], 0, k2 _ _ hD1, ?_, rfl, rfl, List.nodup_nil⟩ ?_⟩
  · simp only [List.mem_cons, List.not_mem_nil, or_false, not_or]
    exact ⟨Nat.ne_of_lt hlt1, Nat.ne_of_gt hll⟩
  · intro b hb
    simp only [List.mem_cons, List.not_mem_nil, or_false] at hb
    subst hb
    exact hno _ (Nat.le_of_lt hlt1)
  · exact ⟨rfl, rfl, rfl⟩
  · intro s' hm hS'
    obtain ⟨h', g', d', tk', os'⟩ := s'
    have eg:g' = s.gens := hm.gens
    have ed:d' = s.drawn := hm.drawn
    have eo:os' = s.os := hm.os
    subst eg; subst ed; subst eo
    refine ⟨rfl, h h' tk' hS' fun b o hb e => hm.heap b o ?_ (k2 _ _ (k1 _ _ e))⟩
    simp only [List.mem_cons, List.not_mem_nil, or_false, not_or]
    exact ⟨Nat.ne_of_lt hb, Nat.ne_of_lt (Nat.lt_trans hb hlt1)⟩
end
end L2
namespace L2
open PySem PySem.Spec PySem.Calls PyProof.Rows
def putAll (t kvs:List (List Key × V)) : List (List Key × V) := kvs.foldl (fun t x => putK t x.1 x.2) t
def PairsIn (H:Hp) : List V -> List (List Key × V) -> Prop := Paired fun v kv => ∃ p ka, v = .ref p /\ H p = some (.tup [.ref ka, kv.2]) /\ H ka = some (.tup (kv.1.map kV))
section
variable {P:Program} {w:World} {H:Hp} {h:Heap}
theorem pairs_its (ok:HOk P w H h) : ∀ {vs:List V} {us:List Value} {kvs:List (List Key × V)}, PairsIn H vs kvs -> Vals vs us ->
    ∃ its:List PItem, its.length = us.length /\ (∀ (i:Nat) (v:Value), us[i]? = some v -> ∃ (p:Addr) (x:PItem), v = .ref p /\ its[i]? = some x /\ h.IsTuple p #[.ref x.2.1, x.2.2] /\ (tK P w).is h x.1 x.2.1) /\
      ∀ t xs, KT H t xs -> KT H (putAll t kvs) (stAll xs its)
  | _, _, _, .nil, .nil => ⟨[], rfl, fun i v e => by simp at e, fun t xs r => r⟩
  | _, _, _, .cons (a := v) (b := kv) q t, .cons (b := u) r s => by
    obtain ⟨its, hl, hv, hk⟩ := pairs_its ok t s
    obtain ⟨p, ka, rfl, hp, hka⟩ := q
    cases r
    obtain ⟨_, is, r2, ot, ho, hc, n, hd⟩ := (show ObjOk P w H h p (.tup [.ref ka, kv.2]) from ok p _ hp)
    obtain ⟨u1, u2, rfl, ru1, ru2⟩ := vals2 r2
    cases ru1
    refine ⟨(kv.1, ka, u2) :: its, by simp [hl], fun i v e => ?_, fun t xs rt => ?_⟩
    · cases i with
      | zero => simp at e; subst e; exact ⟨p, (kv.1, ka, u2), rfl, rfl, ⟨ot, ho, hc, n, hd⟩, key_of ok hka⟩
      | succ i => exact hv i v (by simpa using e)
    · exact hk _ _ (rt.put kv.1 hka ru2)
theorem putAll_len:∀ (kvs t:List (List Key × V)), (putAll t kvs).length <= t.length + kvs.length
  | [], t => Nat.le_refl _
  | x :: r, t => by
    have := putAll_len r (putK t x.1 x.2)
    have h2 := length_putK t x.1 x.2
    show (putAll (putK t x.1 x.2) r).length <= _
    simp only [List.length_cons]; omega
end
section
variable {X:Cx}
theorem call_dictP (hc : X.calm = true) (hu : X.A.units + 64 < cLine) : CallR X (.type "dict") (fun xs H Q => ∃ l vs kvs, xs = [.ref l] /\ Rd H l (.lst vs) /\ PairsIn H vs kvs /\ ∀ p, H p = none -> Q (.ref p) (upd H p (.dT (putAll [] kvs)))) := by
  intro pins s σ H xs us Q I r h
  obtain ⟨l, vs, kvs, rfl, hl, hp, q⟩ := h
  obtain ⟨u, rfl, ru⟩ := vals1 r
  obtain rfl:u = Value.ref l := ru
  obtain ⟨hz, its, n, rv, hg⟩ := (show ObjOk X.prog X.w H s.heap l (.lst vs) from hl.ok I.hok)
  obtain ⟨pi, pl, pv, pk⟩ := pairs_its I.hok hp rv
  have hsz:its.toArray.size <= sizeLine := by rw [List.size_toArray, <- rv.length]; exact hz
  refine call_dict_pairs (I.ok.hd hc) (by show X.A.units + 1 + 1 < cLine; omega) hg (its := pi) (by rw [pl, List.size_toArray]) hsz (fun i v e => pv i v (by simpa using e)) fun h' tk hD hk => ?_
  have hf:H s.heap.objs.size = none := I.hok.fresh (Nat.le_refl _)
  refine ⟨.ref s.heap.objs.size, _, I.laid (a := s.heap.objs.size) (o := .dT (putAll [] kvs)) (t' := tk) (fun b o e => hk b o (Heap.lt_size e) e) (Nat.le_refl _) ?_, rfl, q _ hf⟩
  obtain ⟨o, es, ep, h1, h2, h3, h4, _, h5⟩ := hD
  refine ⟨?_, beq_eq_false_iff_ne.mpr (Ne.symm (Nat.ne_of_lt I.big)), stAll [] pi, (pk [] [] .nil).keeps fun b ys e => ?_, o, es, ep, h1, h2, h3, h4, h5⟩
  · have := putAll_len kvs []
    have h2 := Paired.length hp
    simp only [List.length_nil] at this
    omega
  · rw [upd_ne (ne_of_none e hf)]; exact e
end
end L2
namespace L2
open PySem PySem.Spec PySem.Calls PyProof.Rows
section
variable {X:Cx} {pins:List (Addr × Obj)} {σ:St} {H:Hp} {s:Shared} {a:Addr}
theorem Inv.retK (I:Inv X pins σ H s) (e:H a = some (.dT [])) : Inv X pins σ (upd H a (.dK [])) s := by
  obtain ⟨z, y, xs, r, o, es, ep, h1, h2, h3, h4, h5⟩ := (show ObjOk X.prog X.w H s.heap a (.dT []) from I.hok a _ e)
  cases r
  exact I.write (x := a) (e := a) (t' := s.toks) (h' := s.heap) (by rw [e]; exact True.intro) (.inl rfl) (fun b u _ q => q) ⟨o, h1⟩ ⟨z, y, [], .nil, o, es, ep, h1, h2, h3, by
    have e:es = #[] := by simpa using h4
    subst e
    intro x hx
    simp at hx, by
    have e:es = #[] := by simpa using h4
    subst e
    constructor, List.nodup_nil⟩
theorem Inv.retT (I:Inv X pins σ H s) (e:H a = some (.dK [])) : Inv X pins σ (upd H a (.dT [])) s := by
  obtain ⟨z, y, vs, r, o, es, ep, h1, h2, h3, h4, h5⟩ := (show ObjOk X.prog X.w H s.heap a (.dK []) from I.hok a _ e)
  cases r
  exact I.write (x := a) (e := a) (t' := s.toks) (h' := s.heap) (by rw [e]; exact True.intro) (.inl rfl) (fun b u _ q => q) ⟨o, h1⟩ ⟨z, y, [], .nil, o, es, ep, h1, h2, h3, (by
    generalize es.toList = l at h5
    obtain ⟨h5, _⟩ := h5
    cases l with
    | nil => rfl
    | cons x r => cases h5), List.nodup_nil⟩
end
end L2
namespace L2
open PySem PySem.Spec PySem.Calls PyProof.Rows
def DGetX (H:Hp) (a:Addr) (y:V) (r:Option V) : Prop :=
  DGet H a y r \/ (Rd H a (.dT []) /\ (∃ k, y = kV k) /\ r = none) \/ (Rd H a (.dK []) /\ (∃ (b:Addr) (k:List Key), y = .ref b /\ H b = some (.tup (k.map kV))) /\ r = none)
def DPutX (H:Hp) (a:Addr) (y v:V) (H':Hp) : Prop :=
  DPut H a y v H' \/ (H a = some (.dT []) /\ ∃ k, y = kV k /\ H' = upd H a (.dK [(k, v)])) \/ (H a = some (.dK []) /\ ∃ (b:Addr) (k:List Key), y = .ref b /\ H b = some (.tup (k.map kV)) /\ H' = upd H a (.dT [(k, v)]))
section
variable {X:Cx} {pins:List (Addr × Obj)} {σ:St} {H:Hp} {s:Shared} {a:Addr} {y v:V} {u r:Value} {o:Option V} {A:Around} {E:Value -> Shared -> Prop}
theorem emptyK {P:Program} {w:World} {h:Heap} (x:ObjOk P w H h a (.dT [])) : (a == sysModules) = false /\ h.DictOf (mixKind P w) a [] := by
  obtain ⟨z, y, xs, r, o, es, ep, h1, h2, h3, h4, h5⟩ := x
  cases r
  have e:es = #[] := by simpa using h4
  subst e
  exact ⟨y, o, #[], ep, h1, h2, h3, fun x hx => by simp at hx, by constructor, List.nodup_nil⟩
theorem emptyT {P:Program} {w:World} {h:Heap} (x:ObjOk P w H h a (.dK [])) : (a == sysModules) = false /\ h.DictOfH (tupleKind (mixKind P w)) a [] := by
  obtain ⟨z, y, vs, r, o, es, ep, h1, h2, h3, h4, h5⟩ := x
  cases r
  refine ⟨y, o, es, ep, h1, h2, h3, ?_, fun x hx => (nomatch hx), List.nodup_nil⟩
  generalize es.toList = l at h5
  obtain ⟨h5, _⟩ := h5
  cases l with
  | nil => rfl
  | cons x r => cases h5
theorem d_inX {Q:Value -> Shared -> Prop} (hu:A.units + 1 < cLine) (I:Inv X pins σ H s) (g:DGetX H a y o) (ry:RelV y u) (h:∀ s', Inv X pins σ H s' -> Q (.bool o.isSome) s') :
    wpAny (model X.prog X.w) A (compareOp .In u (.ref a)) Q E s := by
  rcases g with g | ⟨e, ⟨k, rfl⟩, rfl⟩ | ⟨e, ⟨b, k, rfl, eb⟩, rfl⟩
  · exact d_in hu I g ry h
  · obtain ⟨y, dd⟩ := emptyK (e.ok I.hok)
    exact wpAny_in_of (kV_is ry) y dd.mapOf (h _ (I.tok _))
  · obtain rfl:u = Value.ref b := ry
    obtain ⟨y, dd⟩ := emptyT (e.ok I.hok)
    exact wpAny_in_heap (tupleKind_room_in1 hu) (key_of I.hok eb) y dd (h _ (I.tok _))
theorem d_setItemX {H':Hp} {Q:Unit -> Shared -> Prop} (hu:A.units + 1 < cLine) (I:Inv X pins σ H s) (g:DPutX H a y v H') (ry:RelV y u) (rv:RelV v r) (h:∀ s', Inv X pins σ H' s' -> Q () s') :
    wpAny (model X.prog X.w) A (setItem (.ref a) u r) Q E s := by
  rcases g with g | ⟨e, k, rfl, rfl⟩ | ⟨e, b, k, rfl, eb, rfl⟩
  · exact d_setItem hu I g ry rv h
  · refine d_setItem hu (I.retK e) (DPut.k (kvs := []) (k := k) (v := v) upd_same (by decide)) ry rv fun s' I' => ?_
    rw [upd_upd] at I'
    exact h s' I'
  · refine d_setItem hu (I.retT e) (DPut.t (kvs := []) (k := k) (v := v) upd_same (by rw [upd_ne (ne_of eb e (fun z => nomatch z))]; exact eb) (by decide)) ry rv fun s' I' => ?_
    rw [upd_upd] at I'
    exact h s' I'
end
section
variable {X:Cx} {value o i:Expr} {td ty tv:TE} {pos pos':Pos}
def sDPutX (td ty tv:TE) : TS := fun D σ H => tv σ H fun v H1 => td σ H1 fun x H2 => ty σ H2 fun y H3 => ∃ a H4, x = .ref a /\ DPutX H3 a y v H4 /\ D.nx σ H4
theorem ps_dputX (hu:X.A.units + 1 < cLine) (ho:PE X o td) (hi:PE X i ty) (hv:PE X value tv) (hs:swapsWith value (some (.Subscript o i pos')) pos.line X.env = pure false) :
    PS X (.Assign [.Subscript o i pos'] value pos) (sDPutX td ty tv) := by
  intro pins s σ H D I h
  refine wpAny_Assign_Subscript (thn (hv pins s σ H _ I h) fun r s1 ⟨v, H1, I1, rv, q1⟩ => thn (ho pins s1 σ H1 _ I1 q1) fun u s2 ⟨x, H2, I2, rx, q2⟩ => thn (hi pins s2 σ H2 _ I2 q2) fun iv s3 ⟨y, H3, I3, ry, a, H4, ex, g, q3⟩ => ?_) hs
  subst ex
  obtain rfl:u = Value.ref a := rx
  exact d_setItemX hu I3 g ry rv fun s4 I4 => ⟨σ, H4, I4, q3⟩
end
end L2
namespace L2
open PySem PySem.Spec PySem.Calls PyProof.Rows
section
variable {X:Cx} {pins:List (Addr × Obj)} {σ:St} {H:Hp} {s:Shared} {a:Addr} {y d:V} {u r:Value} {o:Option V} {A:Around} {E:Value -> Shared -> Prop}
theorem d_get2X {Q:Value -> Shared -> Prop} (hu:A.units + 1 < cLine) (I:Inv X pins σ H s) (g:DGetX H a y o) (ry:RelV y u) (rd:RelV d r) (h:∀ w' s', Inv X pins σ H s' -> RelV (o.getD d) w' -> Q w' s') :
    wpAny (model X.prog X.w) A (call (.builtin "dict.get") [.ref a, u, r]) Q E s := by
  rcases g with g | ⟨e, ⟨k, rfl⟩, rfl⟩ | ⟨e, ⟨b, k, rfl, eb⟩, rfl⟩
  · exact d_get2 hu I g ry rd h
  · obtain ⟨y, dd⟩ := emptyK (e.ok I.hok)
    exact call_meetsIn PySem.F.slot_dict_get dd.typeIs PySem.F.entry_dict_get (PySem.F.args_dict_get_3 _ _ _) (meets_dict_get_default (mixKind X.prog X.w) a (kV_is ry) y r) ⟨_, dd.mapOf, h _ _ (I.tok _) rd⟩
  · obtain rfl:u = Value.ref b := ry
    obtain ⟨y, dd⟩ := emptyT (e.ok I.hok)
    exact call_meetsIn PySem.F.slot_dict_get dd.typeIs PySem.F.entry_dict_get (PySem.F.args_dict_get_3 _ _ _) (meetsH_dict_get_default (tupleKind (mixKind X.prog X.w)) a b y r) ⟨tupleKind_room_in1 hu, k, [], key_of I.hok eb, dd, h _ _ (I.tok _) rd⟩
end
def tDGet2X (td ty tx:TE) : TE := fun σ H Q => td σ H fun x H1 => ∃ a, x = .ref a /\ IsD H1 a /\ ty σ H1 fun y H2 => tx σ H2 fun z H3 => ∃ o, DGetX H3 a y o /\ Q (o.getD z) H3
section
variable {X:Cx} {o e f:Expr} {apos cpos:Pos} {td ty tx:TE}
theorem pe_dget2X (hu : X.A.units + 1 < cLine) (ho : PE X o td) (he : PE X e ty) (hf : PE X f tx) (m : M2 X o "get" apos e f cpos) : PE X (.Call (.Attribute o "get" apos) [e, f] [] cpos) (tDGet2X td ty tx) := by
  intro pins s σ H Q I h
  refine wpAny_Call_method m.base m.few m.line PySem.F.plainAttrs_dict PySem.F.slot_dict_get PySem.F.type_dict_get (thn (ho pins s σ H _ I h) fun u s1 ⟨x, H1, I1, rx, a, ex, d, q1⟩ => ?_)
  subst ex
  obtain rfl:u = Value.ref a := rx
  obtain ⟨t1, t2, _⟩ := isD_at I1 d
  refine ⟨t1, t2, ?_⟩
  rw [m.trees]
  refine Calls.callWith_builtin rfl (Calls.evalArgs_plain (Calls.spliced_cons (thn (he pins s1 σ H1 _ I1 q1) fun iv s2 ⟨y, H2, I2, ry, q2⟩ =>
    Calls.spliced_cons (thn (hf pins s2 σ H2 _ I2 q2) fun fv s3 ⟨z, H3, I3, rz, ov, g, q3⟩ => Calls.spliced_nil ?_))))
  exact d_get2X hu I3 g ry rz fun w' s4 I4 rw' => ⟨_, H3, I4, rw', q3⟩
end
end L2
namespace L2
open PySem PySem.Spec PySem.Calls PyProof.Rows
def dicO:HO -> Prop
  | .dK _ => True
  | .dT _ => True
  | _ => False
section
variable {X:Cx} {pins:List (Addr × Obj)} {σ:St} {H H':Hp} {s:Shared} {d:Addr} {o:Obj} {u:HO}
theorem Inv.view (I:Inv X pins σ H s) (hn:∀ b, H b = none -> H' b = none) (ht:∀ b xs, H b = some (.tup xs) -> H' b = some (.tup xs)) (hf:∀ b o u, X.H₀ b = some (.frz o u) -> H' b = some (.frz o u))
    (hb:∀ b ps, H b = some (.tbl ps) -> H' b = some (.tbl ps)) (hok:HOk X.prog X.w H' s.heap) : Inv X pins σ H' s where
  ok := I.ok
  os := I.os
  bare := I.bare
  base := ⟨I.base.keep, I.base.slot, fun b o e n hx => hn b (I.base.free b o e n hx), I.base.there, fun b xs e => ht b xs (I.base.tups b xs e), hf, fun b ps e => let ⟨m, q⟩ := I.base.tbls b ps e; ⟨m, hb b _ q⟩⟩
  loc := I.loc
  cell := I.cell
  free := hn _ I.free
  freeC := fun x c e => hn c (I.freeC x c e)
  pin := fun p hp => let ⟨a, b, c⟩ := I.pin p hp; ⟨a, hn _ b, c⟩
  hok := hok
  len := I.len
theorem view_ok {P:Program} {w:World} {h:Heap} (ok:HOk P w H h) {u':HO} (hd:∃ u, H d = some u /\ (∀ y, u ≠ .own y) /\ ∀ xs, u ≠ .tup xs) (new:ObjOk P w (upd H d u') h d u') : HOk P w (upd H d u') h := fun b v e => by
  obtain ⟨u, hu, h1, h2⟩ := hd
  by_cases hb:b = d
  · subst hb; rw [upd_same] at e; cases e; exact new
  · rw [upd_ne hb] at e
    refine (ok b v e).stay (fun _ _ _ q => q) (fun c q => ?_) fun c xs q => ?_
    · rw [upd_ne]
      · exact q
      · rintro rfl; rw [hu] at q; cases q; exact h1 _ rfl
    · rw [upd_ne]
      · exact q
      · rintro rfl; rw [hu] at q; cases q; exact h2 _ rfl
theorem dicO_no {u:HO} (h:dicO u) : (∀ y, u ≠ .own y) /\ (∀ xs, u ≠ .tup xs) /\ (∀ ps, u ≠ .tbl ps) /\ ∀ o v, u ≠ .frz o v := by
  cases u <;> first | exact h.elim | exact ⟨fun _ z => (nomatch z), fun _ z => (nomatch z), fun _ z => (nomatch z), fun _ _ z => (nomatch z)⟩
theorem objOk_dic {P:Program} {w:World} {h:Heap} (hu:dicO u) (x:ObjOk P w H h d u) (ht:∀ b xs, H b = some (.tup xs) -> H' b = some (.tup xs)) : ObjOk P w H' h d u := by
  cases u with
  | dK kvs => exact x
  | dT kvs =>
    obtain ⟨z, y, xs, r, q⟩ := x
    exact ⟨z, y, xs, Paired.mapP r fun p q z => ⟨z.1, ht _ _ z.2.1, z.2.2⟩, q⟩
  | _ => exact hu.elim
theorem Inv.frz (I:Inv X pins σ H s) (e:H d = some u) (hu:dicO u) (ho:s.heap.get? d = some o) : Inv X pins σ (upd H d (.frz o u)) s := by
  obtain ⟨n1, n2, n3, n4⟩ := dicO_no hu
  have ht:∀ b xs, H b = some (.tup xs) -> upd H d (.frz o u) b = some (.tup xs) := fun b xs q => by
    rw [upd_ne]
    · exact q
    · rintro rfl; rw [e] at q; cases q; exact n2 _ rfl
  refine I.view (fun b hb => ?_) ht (fun b o' u' q => ?_) (fun b ps q => ?_) (view_ok I.hok ⟨u, e, n1, n2⟩ ⟨ho, objOk_dic hu (I.hok d u e) ht⟩)
  · rw [upd_ne]
    · exact hb
    · rintro rfl; rw [e] at hb; cases hb
  · have q := I.base.frzs b o' u' q
    rw [upd_ne]
    · exact q
    · rintro rfl; rw [e] at q; cases q; exact n4 _ _ rfl
  · rw [upd_ne]
    · exact q
    · rintro rfl; rw [e] at q; cases q; exact n3 _ rfl
theorem Inv.nofrz (I:Inv X pins σ H s) (e:H d = some u) (hu:dicO u) : ∀ o v, X.H₀ d ≠ some (.frz o v) := fun o v q => by
  have := I.base.frzs d o v q
  rw [e] at this; cases this
  exact (dicO_no hu).2.2.2 _ _ rfl
theorem Inv.unfrz (I:Inv X pins σ H s) (e:H d = some (.frz o u)) (hu:dicO u) (hn:∀ o v, X.H₀ d ≠ some (.frz o v)) : Inv X pins σ (upd H d u) s := by
  have ht:∀ b xs, H b = some (.tup xs) -> upd H d u b = some (.tup xs) := fun b xs q => by
    rw [upd_ne]
    · exact q
    · rintro rfl; rw [e] at q; cases q
  have x:ObjOk X.prog X.w H s.heap d u := (show ObjOk X.prog X.w H s.heap d (.frz o u) from I.hok d _ e).2
  refine I.view (fun b hb => ?_) ht (fun b o' u' q => ?_) (fun b ps q => ?_) (view_ok I.hok ⟨_, e, fun _ z => (nomatch z), fun _ z => (nomatch z)⟩ (objOk_dic hu x ht))
  · rw [upd_ne]
    · exact hb
    · rintro rfl; rw [e] at hb; cases hb
  · have q2 := I.base.frzs b o' u' q
    rw [upd_ne]
    · exact q2
    · rintro rfl; exact hn _ _ q
  · rw [upd_ne]
    · exact q
    · rintro rfl; rw [e] at q; cases q
end
def Itd (d:Addr) (o:Obj) (u:HO) (kvs:List (Key × V)) : It :=
  ⟨fun i H => H d = some (.frz o u) /\ i < kvs.length, fun i H x H' => H' = H /\ ∃ k v, kvs[i]? = some (k, v) /\ x = kV k, fun i H => H d = some (.frz o u) /\ kvs.length <= i⟩
theorem kV_back {k:Key} {u:Value} {P:Program} {w:World} (h:(mixKind P w).is k u = true) : RelV (kV k) u := by
  rcases keyIs_shape (show keyIs k u = true from h) with ⟨i, t, rfl, rfl⟩ | ⟨x, t, rfl, rfl⟩
  · exact ⟨t, rfl⟩
  · exact ⟨t, rfl⟩
theorem dictAt_o {P:Program} {w:World} {h h':Heap} {d:Addr} {o:Obj} {vs:List (Key × Value)} {ep:Nat} (x:h.DictAt (mixKind P w) d vs ep) (e:h.get? d = some o) (e':h'.get? d = some o) : h'.DictAt (mixKind P w) d vs ep := by
  obtain ⟨o', es, ho, r⟩ := x
  rw [e] at ho; cases ho
  exact ⟨o, es, e', r⟩
theorem turn_dict {P:Program} {w:World} {K:PySem.W.Frag} {tg:Expr} {d it:Addr} {o:Obj} {u0:HO} {kvs:List (Key × V)} {vs:List (Key × Value)} {ep:Nat} {h0:Heap} (rel:KV kvs vs) (x0:h0.DictAt (mixKind P w) d vs ep) (e0:h0.get? d = some o) :
    Turn P w K tg (Itd d o u0 kvs) [it] it (fun i h => h.IsKeyIter it d i vs.length ep) where
  mem := by simp
  obj := fun i h st b hb => by
    have e:b = it := by simpa using hb
    subst e
    obtain ⟨o, e, c, q⟩ := st
    exact ⟨o, e, fun v z => by rw [q] at z; cases z⟩
  keep := fun i h h' st k => st.at fun o e => k it (by simp) o e
  item := by
    intro X hP hw hK hc i pins s σ H E I hf st hg
    subst hP hw hK
    obtain ⟨hd, hi⟩ := hg
    obtain ⟨eo, _⟩ := (show ObjOk X.prog X.w H s.heap d (.frz o u0) from I.hok d _ hd)
    have x1 := dictAt_o x0 e0 eo
    obtain ⟨f0, f1, f2, f3, f4, f5⟩ := hf it (by simp)
    have hiv:i < vs.length := by rw [<- rel.length]; exact hi
    have rg:∃ k v u, kvs[i]? = some (k, v) /\ vs[i]? = some (k, u) := by
      have hk:kvs[i]? = some kvs[i] := by simp [hi]
      have hv:vs[i]? = some vs[i] := by simp [hiv]
      have key:∀ {a:List (Key × V)} {b:List (Key × Value)}, KV a b -> ∀ (i:Nat) p q, a[i]? = some p -> b[i]? = some q -> p.1 = q.1 := by
        intro a b r
        induction r with
        | nil => intro i p q e; simp at e
        | cons hq t ih =>
          intro i p q e1 e2
          cases i with
          | zero => simp at e1 e2; subst e1 e2; exact hq.1
          | succ i => exact ih i p q (by simpa using e1) (by simpa using e2)
      have := key rel i _ _ hk hv
      exact ⟨kvs[i].1, kvs[i].2, vs[i].2, hk, by rw [hv, this]⟩
    obtain ⟨k, v, uv, h1, h2⟩ := rg
    refine wpAny_pyNext_dict_item st x1 h2 fun key h' hkey st' sb => ?_
    have I1:Inv X pins σ H { s with heap := h' } := I.turned (t' := s.toks) (fun b o hb e => (sb.2 b hb).trans e) f0 f1 f3 f4 f5
    obtain ⟨oi, e, c, q⟩ := id st'
    exact ⟨key, rfl, go_of (s := { s with heap := h' }) e c q (by decide) ⟨kV k, H, I1, kV_back hkey, ⟨rfl, k, v, h1, rfl⟩, st', fun b hb => (hf b hb).1⟩⟩
  done := by
    intro X hP hw hK hc i pins s σ H E I hf st hg
    subst hP hw hK
    obtain ⟨hd, hi⟩ := hg
    obtain ⟨eo, _⟩ := (show ObjOk X.prog X.w H s.heap d (.frz o u0) from I.hok d _ hd)
    have x1 := dictAt_o x0 e0 eo
    obtain ⟨f0, f1, f2, f3, f4, f5⟩ := hf it (by simp)
    have hl := rel.length
    exact wpAny_pyNext_dict_end (I.ok.hd hc) st x1 (by simp; omega) fun h' eb => ⟨rfl, I.turned (t' := s.toks) (fun b o hb e => eb b o hb e) f0 f1 f3 f4 f5⟩
  self := fun _ _ _ _ _ st h => wpAny_pyIter_keyiter st h
section
variable {X:Cx} {tg:Expr}
def iDic (X:Cx) (tl:TE) : TI := fun σ H R => tl σ H fun x H1 => ∃ d kvs u, x = .ref d /\ (u = .dK kvs \/ (u = .dT [] /\ kvs = [])) /\ ((∃ o, H1 d = some (.frz o u) /\ R (Itd d o u kvs) H1) \/ (H1 d = some u /\ ∀ o, (∀ o' v, X.H₀ d ≠ some (.frz o' v)) -> R (Itd d o u kvs) (upd H1 d (.frz o u))))
theorem pi_dict {l:Expr} {tl:TE} (hl:PE X l tl) : PI X tg l (iDic X tl) := by
  intro pins s σ H R I h
  refine thn (hl pins s σ H _ I h) fun v s1 ⟨x, H1, I1, r1, q1⟩ => ?_
  obtain ⟨d, kvs, u, e, hu, q⟩ := q1
  subst e
  cases r1
  have hdic:dicO u := by rcases hu with rfl | ⟨rfl, _⟩ <;> exact True.intro
  have fin:∀ (o:Obj) (H2:Hp), Inv X pins σ H2 s1 -> H2 d = some (.frz o u) -> R (Itd d o u kvs) H2 -> wpAny (model X.prog X.w) X.A (pyIter (.ref d)) (PIE X pins σ tg R) X.xe s1 := fun o H2 I2 e2 q2 => by
    obtain ⟨eo, hx⟩ := (show ObjOk X.prog X.w H2 s1.heap d (.frz o u) from I2.hok d _ e2)
    have key:(d == sysModules) = false /\ ∃ vs, KV kvs vs /\ s1.heap.DictOf (mixKind X.prog X.w) d vs := by
      rcases hu with rfl | ⟨rfl, rfl⟩
      · obtain ⟨z, hd, vs, rel, dd⟩ := hx
        exact ⟨hd, vs, rel, dd⟩
      · obtain ⟨hd, dd⟩ := emptyK hx
        exact ⟨hd, [], .nil, dd⟩
    obtain ⟨hd, vs, rel, dd⟩ := key
    obtain ⟨ep, da⟩ := dd.dictAt
    refine wpAny_pyIter_dict hd da ?_
    refine ⟨s1.heap.objs.size, [s1.heap.objs.size], _, _, H2, rfl, I2.kept (t' := s1.toks) fun b o e => Heap.get?_push_of_some _ e, turn_dict rel da eo, ⟨_, Heap.get?_push_size _ rfl, rfl, rfl⟩, fun b hb => ?_, q2⟩
    have e:b = s1.heap.objs.size := by simpa using hb
    subst e
    exact I2.fpOk (Nat.le_refl _) (I2.hok.fresh (Nat.le_refl _))
  rcases q with ⟨o, e1, q⟩ | ⟨e1, q⟩
  · exact fin o H1 I1 e1 q
  · have hob:∃ o, s1.heap.get? d = some o := by
      rcases hu with rfl | ⟨rfl, _⟩
      · obtain ⟨_, _, _, _, o, _, _, ho, _⟩ := (show ObjOk X.prog X.w H1 s1.heap d (.dK kvs) from I1.hok d _ e1)
        exact ⟨o, ho⟩
      · obtain ⟨_, _, _, _, o, _, _, ho, _⟩ := (show ObjOk X.prog X.w H1 s1.heap d (.dT []) from I1.hok d _ e1)
        exact ⟨o, ho⟩
    obtain ⟨o, ho⟩ := hob
    exact fin o _ (I1.frz e1 hdic ho) upd_same (q o (I1.nofrz e1 hdic))
def unD (X:Cx) (D:Ends) : Ends where
  nx := fun σ H => D.nx σ H \/ ∃ d o u, H d = some (.frz o u) /\ dicO u /\ (∀ o v, X.H₀ d ≠ some (.frz o v)) /\ D.nx σ (upd H d u)
  rt := D.rt
  bk := D.bk
  ct := D.ct
theorem ps_unD {st:Stmt} {t:TS} (h:PS X st t) : PS X st (fun D σ H => t (unD X D) σ H) := by
  intro pins s σ H D I q
  refine thn (h pins s σ H _ I q) fun f s' r => ?_
  cases f with
  | next =>
    obtain ⟨σ', H', I', r⟩ := r
    rcases r with r | ⟨d, o, u, e, hu, hn, r⟩
    · exact ⟨σ', H', I', r⟩
    · exact ⟨σ', _, I'.unfrz e hu hn, r⟩
  | _ => exact r
end
end L2
namespace L2
open PySem PySem.Spec PySem.Calls PyProof.Rows
abbrev KItem := Key × Value × Value
def stK (vs:List (Key × Value)) (its:List KItem) : List (Key × Value) := its.foldl (fun vs x => stored vs x.1 x.2.2) vs
section
variable {prog:Program} {w:World}
theorem dictOf_keep {h h':Heap} {S:Addr} {vs:List (Key × Value)} (d:h.DictOf (mixKind prog w) S vs) (e:∀ o, h.get? S = some o -> h'.get? S = some o) : h'.DictOf (mixKind prog w) S vs := let ⟨o, es, ep, ho, r⟩ := d; ⟨o, es, ep, e o ho, r⟩
variable {A:Around} {R:Result -> Shared -> Prop} {I:Addr} {fp wr:List Addr} {G:Array GenState -> Array GenState -> Prop} {n:Nat} {P:Nat -> Value -> Prop} {St:Nat -> Shared -> Prop}
theorem codeAny_dict_loopK (W:WalksS prog w A.in1 I fp wr G n P St) (S:Addr) (hSf:S ∉ fp) (hb:Heap) (hbS:hb.get? S = none) (hbw:∀ b ∈ wr, hb.get? b = none) (its:List KItem) (hn:its.length = n)
    (hval:∀ i v, P i v -> ∃ p x, v = .ref p /\ its[i]? = some x /\ hb.IsTuple p #[x.2.1, x.2.2] /\ (mixKind prog w).is x.1 x.2.1 = true) (hsz:n <= sizeLine) :
    ∀ (k i:Nat) (s:Shared) (vs:List (Key × Value)) (j:Int), n - i = k -> i <= n -> St i s -> (∀ b o, hb.get? b = some o -> s.heap.get? b = some o) -> vs.length <= i -> s.heap.DictOf (mixKind prog w) S vs ->
      (∀ s', Moved (S :: wr) G s s' -> s'.heap.DictOf (mixKind prog w) S (stK vs (its.drop i)) -> R (.ok (.ret .none)) s') ->
      codeAny (model prog w) A (.builtin "dict.update.loop" ⟨[.ref S, .ref I, rawInt j, .none], []⟩) R s := by
  have hSw:S ∉ wr := fun h => hSf (W.sub _ h)
  have hsub:∀ b ∈ wr, b ∈ S :: wr := fun b hb => List.mem_cons_of_mem _ hb
  intro k
  induction k with
  | zero =>
    intro i s vs j hk hi hst K hxl hS hR
    have hin:i = n := by omega
    subst hin
    refine codeAny_builtin F_entry_loop ?_
    rw [Around.under_plainId F_plain_loop _]
    show wpAny _ A.in1 (pyNext (.ref I) >>= _) _ _ s
    refine wpAny_bind (W.done s _ _ hst fun s' hm => ?_)
    have hR' := hR s' (hm.mono hsub) (by
      rw [List.drop_of_length_le (by omega)]
      exact dictOf_keep hS fun o e => hm.heap S o hSw e)
    show wpAny _ A.in1 (Builtin.Dict.addKeywords S [] >>= fun _ => ret Value.none) _ _ s'
    exact wpAny_bind (wpAny_pure (wpAny_pure hR'))
  | succ k ih =>
    intro i s vs j hk hi hst K hxl hS hR
    have hlt:i < n := by omega
    refine codeAny_builtin F_entry_loop ?_
    rw [Around.under_plainId F_plain_loop _]
    show wpAny _ A.in1 (pyNext (.ref I) >>= _) _ _ s
    refine wpAny_bind (W.item i s _ _ hlt hst fun v s' hP hst' hm => ?_)
    obtain ⟨p, x, rfl, hx, ht, hkey⟩ := hval i v hP
    have K':∀ b o, hb.get? b = some o -> s'.heap.get? b = some o := fun b o e => hm.heap b o (fun z => by rw [hbw b z] at e; cases e) (K b o e)
    obtain ⟨ot, hot, hct, nt, hdt⟩ := ht
    have hT : s'.TypeIs (.ref p) "tuple" := ⟨ot, K' _ _ hot, hct⟩
    have hS' := dictOf_keep hS fun o e => hm.heap S o hSw e
    refine wpAny_bind (wpAny_holding ?_)
    refine wpAny_bind ?_
    refine wpAny_tryCatch ?_
    unfold Builtin.Dict.pairItems
    refine wpAny_bind (wpAny_typeOf hT ?_)
    rw [if_pos (by decide)]
    refine wpAny_bind (wpAny_seqItems (K' _ _ hot) hdt ?_)
    refine wpAny_pure ?_
    show wpAny _ A.in1 (holding [x.2.1, x.2.2] (dictSet S x.2.1 x.2.2)) _ _ s'
    refine wpAny_holding ?_
    refine wpAny_dictSet_pairs (knd := mixKind prog w) (hsz := by omega) hkey hS' fun h' hd' hs' => ?_
    have K2:∀ b o, hb.get? b = some o -> h'.get? b = some o := fun b o e => (hs'.2 b (fun z => by subst z; rw [hbS] at e; cases e)).trans (K' b o e)
    have hdrop:its.drop i = x :: its.drop (i + 1) := by
      have hil:i < its.length := by omega
      rw [List.drop_eq_getElem_cons hil]
      rw [List.getElem?_eq_getElem hil] at hx
      rw [Option.some.inj hx]
    refine wpAny_pure ⟨plainId_quiet F_plain_loop _, ih (i + 1) _ (stored vs x.1 x.2.2) (j + 1) (by omega) hlt (W.frame _ s' _ _ hst' (Nat.le_add_right _ _) fun b hb o e => ?_) K2 (by have := stored_length_le vs x.1 x.2.2; omega) hd' fun s'' hm'' hS'' => ?_⟩
    · rw [hs'.2 b (fun h:b = S => hSf (by rw [<- h]; exact hb))]; exact e
    · refine hR s'' (Moved.trans W.gtrans ((hm.mono hsub).then_heap (Nat.le_add_right _ _) fun b o hb e => ?_) hm'') (by rw [hdrop]; exact hS'')
      rw [hs'.2 b (fun h:b = S => hb (by rw [h]; exact List.mem_cons_self))]; exact e
end
section
variable {prog:Program} {w:World} {A:Around} {E:Value -> Shared -> Prop} {s:Shared}
theorem call_dict_pairsK {l : Addr} {items : Array Value} {nl : Nat} {its : List KItem} {Q : Value -> Shared -> Prop} (hh : A.handled = none) (hl : s.heap.get? l = some { cls := .type "list", data := .seq items nl }) (hn : its.length = items.size) (hsz : items.size <= sizeLine)
    (hval:∀ (i:Nat) (v:Value), items[i]? = some v -> ∃ (p:Addr) (x:KItem), v = .ref p /\ its[i]? = some x /\ s.heap.IsTuple p #[x.2.1, x.2.2] /\ (mixKind prog w).is x.1 x.2.1 = true)
    (h:∀ (h':Heap) (tk:Nat), h'.DictOf (mixKind prog w) s.heap.objs.size (stK [] its) -> (∀ b o, b < s.heap.objs.size -> s.heap.get? b = some o -> h'.get? b = some o) -> Q (.ref s.heap.objs.size) { s with heap := h', toks := tk }) :
    wpAny (model prog w) A (call (.type "dict") [.ref l]) Q E s := by
  refine callType_codes (Q₁ := fun obj s₁ => obj = .ref s.heap.objs.size /\ s₁ = { s with heap := s.heap.push { cls := .type "dict", data := .dict #[] } }) PySem.F.kt_called_dict (PySem.F.kt_typeCall_dict_1 _) PySem.F.entry_dict_init (kt_code_dict_new _ ⟨rfl, rfl⟩) ?_
  rintro obj s₁ ⟨rfl, rfl⟩
  have hD : (s.heap.push { cls := .type "dict", data := .dict #[] }).get? s.heap.objs.size = some { cls := .type "dict", data := .dict #[] } := Heap.get?_push_size _ rfl
  have hT : Shared.TypeIs { s with heap := s.heap.push { cls := .type "dict", data := .dict #[] } } (.ref s.heap.objs.size) "dict" := ⟨_, hD, rfl⟩
  refine ⟨hT, PySem.F.args_dict_init_2 _ _, ?_⟩
  unfold Builtin.«dict.__init__»
  refine wpAny_bind ?_
  unfold Builtin.Dict.selfAndRest
  refine wpAny_bind (wpAny_notOrdered_dict hT ?_)
  show wpAny _ _ (pure (s.heap.objs.size, [Value.ref l])) _ _ _
  refine wpAny_pure ?_
  show wpAny _ _ (Builtin.Dict.updateFrom "dict.__init__" s.heap.objs.size (.ref l) [] .none) _ _ _
  unfold Builtin.Dict.updateFrom
  have hl1 : (s.heap.push { cls := .type "dict", data := .dict #[] }).get? l = some { cls := .type "list", data := .seq items nl } := Heap.get?_push_of_some _ hl
  refine wpAny_bind (wpAny_typeOf ⟨_, hl1, rfl⟩ ?_)
  rw [if_pos (by decide)]
  refine wpAny_bind (attrQ_miss_list (s := { s with heap := s.heap.push { cls := .type "dict", data := .dict #[] } }) hl1 rfl rfl rfl (am_miss_of_fast (by decide +kernel)) (by decide +kernel) (by simp [hh]) fun h1 tk1 e1 hx1 => ?_)
  rw [if_pos (by decide)]
  refine wpAny_bind (wpAny_rule ?_)
  have k1:∀ b o, s.heap.get? b = some o -> h1.get? b = some o := fun b o e => hx1.keeps b o (Heap.get?_push_of_some _ e)
  have hl2 : h1.get? l = some { cls := .type "list", data := .seq items nl } := k1 _ _ hl
  have hD1 : h1.get? s.heap.objs.size = some { cls := .type "dict", data := .dict #[] } := hx1.keeps _ _ hD
  have hlt1:s.heap.objs.size < h1.objs.size := Heap.lt_size hD1
  have hll:l < s.heap.objs.size := Heap.lt_size hl
  refine wpAny_bind (wpAny_pyIter_list (s := ⟨h1, s.gens, s.drawn, tk1, s.os⟩) ⟨_, hl2, rfl, nl, rfl⟩ ?_)
  have hh3:A.in1.in1.handled = none := by simp [hh]
  have hno:∀ b, s.heap.objs.size <= b -> s.heap.get? b = none := fun b hb => by
    cases q:s.heap.get? b with
    | none => rfl
    | some o => exact absurd (Heap.lt_size q) (Nat.not_lt.mpr hb)
  have hneI:l ≠ h1.objs.size := Nat.ne_of_lt (Nat.lt_trans hll hlt1)
  have k2 : ∀ b o, h1.get? b = some o -> (h1.push { cls := .type "list_iterator", data := .fields #[.ref l, .int 0 0] }).get? b = some o := fun b o e => Heap.get?_push_of_some _ e
  refine wpAny_pure ⟨plainId_quiet F_plain_loop _, codeAny_dict_loopK (A := A.in1) ((Walks.list hh3 h1.objs.size l hneI items).toS) s.heap.objs.size ?_ s.heap (hno _ (Nat.le_refl _)) ?_ its hn hval hsz (items.size - 0) 0 _ [] 0 rfl (Nat.zero_le _) ⟨⟨_, Heap.get?_push_size _ rfl, rfl, rfl⟩, ⟨_, k2 _ _ hl2, rfl, nl, rfl⟩⟩ (fun b o e => k2 _ _ (k1 b o e)) (Nat.le_refl _) ⟨_, #[], 0, k2 _ _ hD1, ⟨rfl, rfl, rfl⟩, rfl, fun x hx => by simp at hx, by constructor, List.nodup_nil⟩ ?_⟩
  · simp only [List.mem_cons, List.not_mem_nil, or_false, not_or]
    exact ⟨Nat.ne_of_lt hlt1, Nat.ne_of_gt hll⟩
  · intro b hb
    simp only [List.mem_cons, List.not_mem_nil, or_false] at hb
    subst hb
    exact hno _ (Nat.le_of_lt hlt1)
  · intro s' hm hS'
    obtain ⟨h', g', d', tk', os'⟩ := s'
    have eg:g' = s.gens := hm.gens
    have ed:d' = s.drawn := hm.drawn
    have eo:os' = s.os := hm.os
    subst eg; subst ed; subst eo
    refine ⟨rfl, h h' tk' hS' fun b o hb e => hm.heap b o ?_ (k2 _ _ (k1 _ _ e))⟩
    simp only [List.mem_cons, List.not_mem_nil, or_false, not_or]
    exact ⟨Nat.ne_of_lt hb, Nat.ne_of_lt (Nat.lt_trans hb hlt1)⟩
end
def PairsK (H:Hp) : List V -> List (Key × V) -> Prop := Paired fun v kv => ∃ p, v = .ref p /\ H p = some (.tup [kV kv.1, kv.2])
section
variable {P:Program} {w:World} {H:Hp} {h:Heap}
theorem pairsK_its (ok:HOk P w H h) : ∀ {vs:List V} {us:List Value} {kvs:List (Key × V)}, PairsK H vs kvs -> Vals vs us ->
    ∃ its:List KItem, its.length = us.length /\ (∀ (i:Nat) (v:Value), us[i]? = some v -> ∃ (p:Addr) (x:KItem), v = .ref p /\ its[i]? = some x /\ h.IsTuple p #[x.2.1, x.2.2] /\ (mixKind P w).is x.1 x.2.1 = true) /\
      ∀ t vs, KV t vs -> KV (mergeK t kvs) (stK vs its)
  | _, _, _, .nil, .nil => ⟨[], rfl, fun i v e => by simp at e, fun t xs r => r⟩
  | _, _, _, .cons (a := v) (b := kv) q t, .cons (b := u) r s => by
    obtain ⟨its, hl, hv, hk⟩ := pairsK_its ok t s
    obtain ⟨p, rfl, hp⟩ := q
    cases r
    obtain ⟨_, is, r2, ot, ho, hc, n, hd⟩ := (show ObjOk P w H h p (.tup [kV kv.1, kv.2]) from ok p _ hp)
    obtain ⟨u1, u2, rfl, ru1, ru2⟩ := vals2 r2
    refine ⟨(kv.1, u1, u2) :: its, by simp [hl], fun i v e => ?_, fun t xs rt => ?_⟩
    · cases i with
      | zero => simp at e; subst e; exact ⟨p, (kv.1, u1, u2), rfl, rfl, ⟨ot, ho, hc, n, hd⟩, kV_is ru1⟩
      | succ i => exact hv i v (by simpa using e)
    · exact hk _ _ (rt.put kv.1 ru2)
end
section
variable {X:Cx}
theorem call_dictK (hc : X.calm = true) : CallR X (.type "dict") (fun xs H Q => ∃ l vs kvs, xs = [.ref l] /\ Rd H l (.lst vs) /\ PairsK H vs kvs /\ ∀ p, H p = none -> Q (.ref p) (upd H p (.dK (mergeK [] kvs)))) := by
  intro pins s σ H xs us Q I r h
  obtain ⟨l, vs, kvs, rfl, hl, hp, q⟩ := h
  obtain ⟨u, rfl, ru⟩ := vals1 r
  obtain rfl:u = Value.ref l := ru
  obtain ⟨hz, its, n, rv, hg⟩ := (show ObjOk X.prog X.w H s.heap l (.lst vs) from hl.ok I.hok)
  obtain ⟨pi, pl, pv, pk⟩ := pairsK_its I.hok hp rv
  have hsz:its.toArray.size <= sizeLine := by rw [List.size_toArray, <- rv.length]; exact hz
  refine call_dict_pairsK (I.ok.hd hc) hg (its := pi) (by rw [pl, List.size_toArray]) hsz (fun i v e => pv i v (by simpa using e)) fun h' tk hD hk => ?_
  have hf:H s.heap.objs.size = none := I.hok.fresh (Nat.le_refl _)
  refine ⟨.ref s.heap.objs.size, _, I.laid (a := s.heap.objs.size) (o := .dK (mergeK [] kvs)) (t' := tk) (fun b o e => hk b o (Heap.lt_size e) e) (Nat.le_refl _) ?_, rfl, q _ hf⟩
  refine ⟨?_, beq_eq_false_iff_ne.mpr (Ne.symm (Nat.ne_of_lt I.big)), _, pk [] [] .nil, hD⟩
  have := length_mergeK kvs []
  have h2 := Paired.length hp
  simp only [List.length_nil] at this
  omega
theorem dk_all {pins:List (Addr × Obj)} {σ:St} {H:Hp} {s:Shared} {a:Addr} {kvs:List (Key × V)} (I:Inv X pins σ H s) (e:Rd H a (.dK kvs) \/ (Rd H a (.dT []) /\ kvs = [])) :
    kvs.length <= sizeLine /\ (a == sysModules) = false /\ ∃ vs, KV kvs vs /\ s.heap.DictOf (mixKind X.prog X.w) a vs := by
  rcases e with e | ⟨e, rfl⟩
  · exact dk_rd I.hok e
  · obtain ⟨y, dd⟩ := emptyK (e.ok I.hok)
    exact ⟨Nat.zero_le _, y, [], .nil, dd⟩
theorem mt_update : MtR X "dict.update" (fun x xs H Q => ∃ a b kvs more, x = .ref a /\ xs = [.ref b] /\ a ≠ b /\ (H a = some (.dK kvs) \/ (H a = some (.dT []) /\ kvs = [])) /\ (Rd H b (.dK more) \/ (Rd H b (.dT []) /\ more = [])) /\ kvs.length + more.length <= sizeLine /\ Q .non (upd H a (.dK (mergeK kvs more)))) := by
  intro pins s σ H x xs v us Q I rx rs q
  obtain ⟨a, b, kvs, more, rfl, rfl, hab, ha, hb, hz, q⟩ := q
  obtain rfl:v = Value.ref a := rx
  obtain ⟨u, rfl, ru⟩ := vals1 rs
  obtain rfl:u = Value.ref b := ru
  obtain ⟨z1, y1, vs, r1, d1⟩ := dk_all I (ha.imp .inl fun ⟨e, w⟩ => ⟨.inl e, w⟩)
  obtain ⟨z2, y2, ws, r2, d2⟩ := dk_all I hb
  refine call_meetsIn PySem.F.slot_dict_update d1.typeIs PySem.F.entry_dict_update (PySem.F.args_dict_update_2 _ _) (meets_dict_update (mixKind X.prog X.w) a b hab y2) ⟨vs, ws, d1, d2, by rw [<- r1.length, <- r2.length]; exact hz, fun h' hd ho hs => ?_⟩
  have he:∃ q, h'.get? a = some q := let ⟨q, _, _, hq, _⟩ := hd; ⟨q, hq⟩
  have mu:Mut (H a) := by rcases ha with e | ⟨e, _⟩ <;> (rw [e]; exact True.intro)
  have hl:(mergeK kvs more).length <= sizeLine := Nat.le_trans (length_mergeK more kvs) hz
  exact ⟨.non, _, d_write (t' := s.toks) I mu hs he (dk_new hl y1 (KV.merge r2 r1) hd), rfl, q⟩
end
end L2
namespace L2
open PySem PySem.Spec PySem.Calls PyProof.Rows
section
variable {prog:Program} {w:World} {A:Around} {E:Value -> Shared -> Prop} {s:Shared}
theorem sd_new {d:Addr} {vs:List (Key × Value)} {k:Key} {key dflt:Value} {Q:Value -> Shared -> Prop} (hkey:(mixKind prog w).is k key = true) (hm:s.heap.DictOf (mixKind prog w) d vs) (hn0:valueAt vs k = none)
    (h:∀ h', h'.DictOf (mixKind prog w) d (stored vs k dflt) -> Heap.SameBut d s.heap h' -> Q dflt { s with heap := h', toks := s.toks + 1 }) (hsz:vs.length <= sizeLine) : wpAny (model prog w) A (dictSetDefault d key dflt) Q E s := by
  obtain ⟨o, es, ep, ho, hc, hd, hk, hp, hn⟩ := hm
  have hes:es.size <= sizeLine := by
    have e1 := hp.length
    have e2:es.toList.length = es.size := by simp
    omega
  have hnone:vs.findIdx? (fun kv => decide (kv.1 = k)) = none := by
    rw [List.findIdx?_eq_none_iff]
    intro x hx
    refine decide_eq_false fun e => ?_
    have:(valueAt vs k).isSome = true := by
      unfold valueAt
      rw [Option.isSome_map, List.find?_isSome]
      exact ⟨x, hx, decide_eq_true e⟩
    rw [hn0] at this; cases this
  have hidx:(es.findIdx? fun e => (mixKind prog w).is k e.key) = none := by
    have:(es.findIdx? fun e => (mixKind prog w).is k e.key) = vs.findIdx? fun kv => decide (kv.1 = k) := by
      rw [<- hp.findIdx k]; obtain ⟨l⟩ := es; simp
    rw [this]; exact hnone
  have hnot:k ∉ vs.map (·.1) := not_mem_of_findIdx_none hnone
  have hany:¬ (vs.any fun kv => decide (kv.1 = k)) = true := by
    rw [List.any_eq_true]; rintro ⟨kv, hkv, he⟩; exact hnot (List.mem_map.mpr ⟨kv, hkv, of_decide_eq_true he⟩)
  unfold dictSetDefault
  try with_reducible refine wpAny_holding ?_
  refine wpAny_bind ((mixKind prog w).pyHash hkey ?_)
  refine wpAny_bind (wpAny_dictFind_of (s := { s with toks := s.toks + 1 }) hkey ho hd hk ?_)
  rw [hidx]
  refine wpAny_bind (wpAny_rule (wpAny_bind (wpAny_updateDictKeys (hz := hes) (s := { s with toks := s.toks + 1 }) ho hd (wpAny_pure (h _ ⟨_, _, ep + 1, Heap.get?_update_self _ ho (Obj.isFreed_of_dict (Obj.data_mapDictKeys hd _)), hc.mapDictKeys _, Obj.data_mapDictKeys hd _, hk.push hkey _, ?_, ?_⟩ (Heap.SameBut.update ..))))))
  · rw [stored, if_neg hany]
    have := hp.append hkey ((mixKind prog w).hash k) dflt
    obtain ⟨l⟩ := es
    simpa using this
  · rw [stored, if_neg hany, List.map_append, List.nodup_append]
    refine ⟨hn, by simp, ?_⟩
    intro a ha b hb
    simp only [List.map_cons, List.map_nil, List.mem_singleton] at hb
    subst hb
    exact fun e => hnot (e ▸ ha)
end
section
variable {X:Cx}
def rSetD:V -> List V -> Hp -> VK -> Prop := fun x xs H Q => ∃ a k y kvs, x = .ref a /\ xs = [kV k, y] /\ (H a = some (.dK kvs) \/ (H a = some (.dT []) /\ kvs = [])) /\ kvs.length < sizeLine /\
  ((∃ v, valV kvs k = some v /\ Q v H) \/ (valV kvs k = none /\ Q y (upd H a (.dK (putK kvs k y)))))
theorem mt_setD : MtR X "dict.setdefault" rSetD := by
  intro pins s σ H x xs v us Q I rx rs q
  obtain ⟨a, k, y, kvs, rfl, rfl, ha, hz, q⟩ := q
  obtain rfl:v = Value.ref a := rx
  obtain ⟨u1, u2, rfl, ru1, ru2⟩ := vals2 rs
  obtain ⟨z1, y1, vs, r1, d1⟩ := dk_all I (ha.imp .inl fun ⟨e, w⟩ => ⟨.inl e, w⟩)
  have hkey := kV_is (P := X.prog) (w := X.w) ru1
  refine wpAny_call_entry PySem.F.slot_dict_setdefault d1.typeIs PySem.F.entry_dict_setdefault ?_ (PySem.F.args_dict_setdefault_3 _ _ _)
  unfold Builtin.«dict.setdefault»
  refine wpAny_bind ?_
  unfold Builtin.Dict.keyAndDefault
  refine wpAny_bind (wpAny_notOrdered_dict d1.typeIs (show wpAny _ _ (pure (a, u1, some u2)) _ _ s from wpAny_pure ?_))
  show wpAny _ _ (if (a == sysModules) = true then _ else (dictSetDefault a u1 u2 >>= _)) _ _ s
  rw [if_neg (by rw [y1]; exact Bool.false_ne_true)]
  have hlen:vs.length <= sizeLine := by rw [<- r1.length]; omega
  have dle:s.heap.DictLe a sizeLine := fun o es ep ho hd => by
    obtain ⟨o', es', ep', ho', _, hd', _, hp, _⟩ := id d1
    rw [ho] at ho'; cases ho'
    rw [hd] at hd'; cases hd'
    have e1 := hp.length
    have e2:es.toList.length = es.size := by simp
    omega
  have rv := r1.val k
  rcases q with ⟨v, hv, q⟩ | ⟨hv, q⟩
  · obtain ⟨w', hw, rw'⟩ := RelO.some_of (v := v) (o := valueAt vs k) (by rw [<- hv]; exact rv)
    refine wpAny_bind (wpAny_dictSetDefault_of (hz := dle) hkey d1.mapOf (fun v' e => ?_) fun e => ?_)
    · rw [hw] at e; cases e
      exact wpAny_pure ⟨_, rfl, v, H, I.tok _, rw', q⟩
    · rw [hw] at e; cases e
  · have hn0:valueAt vs k = none := by
      have := rv.isSome_eq
      rw [hv] at this
      cases z:valueAt vs k with
      | none => rfl
      | some _ => rw [z] at this; cases this
    refine wpAny_bind (sd_new hkey d1 hn0 (fun h' dd' hs => wpAny_pure ⟨_, rfl, ?_⟩) hlen)
    have he:∃ q, h'.get? a = some q := let ⟨q, _, _, hq, _⟩ := dd'; ⟨q, hq⟩
    have mu:Mut (H a) := by rcases ha with e | ⟨e, _⟩ <;> (rw [e]; exact True.intro)
    have hl:(putK kvs k y).length <= sizeLine := by have := length_putK kvs k y; omega
    exact ⟨y, _, d_write (t' := s.toks + 1) I mu hs he (dk_new hl y1 (r1.put k ru2) dd'), ru2, q⟩
end
end L2
namespace L2
open PySem PySem.Spec PySem.Calls PyProof.Rows
def Itv (K:PySem.W.Frag) (a:Addr) (n:Nat) : It :=
  ⟨fun i H => ∃ xs, SqL K H a xs /\ xs.length = n /\ i < n, fun i H x H' => H' = H /\ ∀ xs, SqL K H a xs -> xs[n - 1 - i]? = some x, fun i H => n <= i⟩
theorem turn_rev {P:Program} {w:World} {K:PySem.W.Frag} {tg:Expr} (a it:Addr) (n:Nat) : Turn P w K tg (Itv K a n) [it] it (fun i h => i <= n /\ h.IsRevIter it a ((n:Int) - 1 - i)) where
  mem := by simp
  obj := fun i h st b hb => by
    have e:b = it := by simpa using hb
    subst e
    obtain ⟨_, o, e, c, d⟩ := st
    exact ⟨o, e, fun v z => by rw [d] at z; cases z⟩
  keep := fun i h h' st k => ⟨st.1, st.2.at fun o e => k it (by simp) o e⟩
  item := by
    intro X hP hw hK hc i pins s σ H E I hf st hg
    subst hP hw hK
    obtain ⟨xs, hq, hn, hi⟩ := hg
    obtain ⟨its, rv, p, hz⟩ := I.list hq
    have hx:xs[n - 1 - i]? = some xs[n - 1 - i] := by simp [show n - 1 - i < xs.length by omega]
    obtain ⟨u, hu, ru⟩ := rv.get hx
    obtain ⟨f0, f1, f2, f3, f4, f5⟩ := hf it (by simp)
    have ei:(n:Int) - 1 - i = ((n - 1 - i:Nat) : Int) := by omega
    have st2 := st.2
    rw [ei] at st2
    refine wpAny_pyNext_rev_item st2 p.isList (x := u) (by simpa using hu) fun h' st' sb => ?_
    have I1:Inv X pins σ H { s with heap := h' } := I.turned (t' := s.toks) (fun b o hb e => (sb.2 b hb).trans e) f0 f1 f3 f4 f5
    obtain ⟨o, e, c, d⟩ := id st'
    have e2:((n - 1 - i:Nat) : Int) - 1 = (n:Int) - 1 - ((i + 1:Nat) : Int) := by omega
    exact ⟨u, rfl, go_of (s := { s with heap := h' }) e c d (by decide) ⟨xs[n - 1 - i], H, I1, ru, ⟨rfl, fun ys hy => by rw [I.list_inj hy hq]; exact hx⟩, ⟨by omega, by rw [<- e2]; exact st'⟩, fun b hb => (hf b hb).1⟩⟩
  done := by
    intro X hP hw hK hc i pins s σ H E I hf st hg
    subst hP hw hK
    obtain ⟨f0, f1, f2, f3, f4, f5⟩ := hf it (by simp)
    have hin:i = n := Nat.le_antisymm st.1 hg
    have st2 := st.2
    rw [hin, show (n:Int) - 1 - (n:Nat) = -1 by omega] at st2
    exact wpAny_pyNext_rev_end (I.ok.hd hc) st2 fun h' eb => ⟨rfl, I.turned (t' := s.toks) (fun b o hb e => eb b o hb e) f0 f1 f3 f4 f5⟩
  self := fun _ _ _ _ _ st h => wpAny_pyIter_revIter st.2 h
section
variable {X:Cx} {tg:Expr}
def iRev (K:PySem.W.Frag) (ta:TA) : TI := fun σ H R => ta σ H fun vs H1 => ∃ a xs, vs = [.ref a] /\ SqL K H1 a xs /\ R (Itv K a xs.length) H1
theorem pi_rev {l : Expr} {ta : TA} {p pos : Pos} (hg : Gl X "reversed") (hm : X.mg "reversed" = none) (ha : PA X [l] ta) (hs : starEach [l] X.env = [(false, eval l X.env)] := by rfl) : PI X tg (.Call (.Name "reversed" p) [l] [] pos) (iRev X.K ta) := by
  intro pins s σ H R I h
  refine Call_ (ld_blt I hg hm boot_reversed (PyProof.Rows.callWith_type1 (thn (ha pos pins s σ H _ I h) fun us s1 ⟨vs, H1, I1, r1, q1⟩ => ?_) hs rfl))
  obtain ⟨a, xs, rfl, hq, q⟩ := q1
  obtain ⟨u, rfl, ru⟩ := vals1 r1
  obtain rfl:u = Value.ref a := ru
  obtain ⟨its, rv, pl, hz⟩ := I1.list hq
  refine call_reversed_list pl.isList ?_
  have hn:(its.toArray.size:Int) - 1 = (xs.length:Int) - 1 - ((0:Nat) : Int) := by rw [List.size_toArray, <- rv.length]; simp
  have st0:(s1.heap.push (revObj a ((its.toArray.size:Int) - 1))).IsRevIter s1.heap.objs.size a ((xs.length:Int) - 1 - ((0:Nat) : Int)) := ⟨_, Heap.get?_push_size _ rfl, rfl, by rw [<- hn]; rfl⟩
  refine wpAny_pyIter_revIter st0 ?_
  refine ⟨s1.heap.objs.size, [s1.heap.objs.size], _, _, H1, rfl, I1.kept (t' := s1.toks) fun b o e => Heap.get?_push_of_some _ e, turn_rev a _ xs.length, ⟨Nat.zero_le _, st0⟩, fun b hb => ?_, q⟩
  have e:b = s1.heap.objs.size := by simpa using hb
  subst e
  exact I1.fpOk (Nat.le_refl _) (I1.hok.fresh (Nat.le_refl _))
end
end L2
namespace ST
open PySem PySem.SetTable
def st (m:Nat) (h:Int) : Probe := { j := bits h % (m + 1), more := runEnd m (bits h % (m + 1)) - bits h % (m + 1), i := bits h % (m + 1), perturb := bits h, dummy := none }
def rs (m:Nat) (p:Nat × Nat) : Probe := { j := p.1, more := runEnd m p.1 - p.1, i := p.1, perturb := p.2, dummy := none }
def adv (m:Nat) (p:Probe) : Probe := if p.more > 0 then { p with j := p.j + 1, more := p.more - 1 } else { p with j := (leap m p.i p.perturb).1, more := runEnd m (leap m p.i p.perturb).1 - (leap m p.i p.perturb).1, i := (leap m p.i p.perturb).1, perturb := (leap m p.i p.perturb).2 }
theorem advance_eq (t:SetTable) (p:Probe) : t.advance p = adv t.mask p := rfl
def it (m:Nat) : Nat -> Probe -> Probe
  | 0, p => p
  | n + 1, p => it m n (adv m p)
theorem it_add (m:Nat) : ∀ (a b:Nat) (p:Probe), it m (a + b) p = it m b (it m a p)
  | 0, b, p => by rw [Nat.zero_add]; rfl
  | a + 1, b, p => by rw [Nat.succ_add]; exact it_add m a b (adv m p)
theorem it_snoc (m n:Nat) (p:Probe) : it m (n + 1) p = adv m (it m n p) := it_add m n 1 p
structure Va (m:Nat) (p:Probe) : Prop where
  i:p.i <= m
  more:p.more <= 9
  j:p.j + p.more <= m
  q:p.perturb < 2 ^ 64
  d:p.dummy = none
theorem bits_lt (h:Int) : bits h < 2 ^ 64 := by
  unfold bits
  have := Int.emod_lt_of_pos h (show (0:Int) < 2 ^ 64 by decide)
  have h2 := Int.emod_nonneg h (show (2 ^ 64:Int) ≠ 0 by decide)
  omega
theorem run_le (m i:Nat) (h:i <= m) : runEnd m i - i <= 9 /\ i + (runEnd m i - i) <= m := by
  unfold runEnd; split <;> omega
theorem Va.rs {m:Nat} {p:Nat × Nat} (h1:p.1 <= m) (h2:p.2 < 2 ^ 64) : Va m (rs m p) := ⟨h1, (run_le m _ h1).1, (run_le m _ h1).2, h2, rfl⟩
theorem Va.st (m:Nat) (h:Int) : Va m (st m h) := by
  have:bits h % (m + 1) <= m := Nat.le_of_lt_succ (Nat.mod_lt _ (Nat.succ_pos m))
  exact ⟨this, (run_le m _ this).1, (run_le m _ this).2, bits_lt h, rfl⟩
theorem leap_le (m i q:Nat) : (leap m i q).1 <= m := by
  exact Nat.le_of_lt_succ (Nat.mod_lt _ (Nat.succ_pos m))
theorem leap_q (m i q:Nat) : (leap m i q).2 = q / 32 := rfl
theorem Va.adv {m:Nat} {p:Probe} (v:Va m p) : Va m (adv m p) := by
  unfold ST.adv
  split
  · exact ⟨v.i, by dsimp only; have := v.more; omega, by dsimp only; have := v.j; omega, v.q, v.d⟩
  · have l := leap_le m p.i p.perturb
    exact ⟨l, (run_le m _ l).1, (run_le m _ l).2, by dsimp only; rw [leap_q]; have := v.q; have := Nat.div_le_self p.perturb 32; omega, v.d⟩
theorem Va.it {m:Nat} : ∀ {n:Nat} {p:Probe}, Va m p -> Va m (it m n p)
  | 0, _, v => v
  | n + 1, _, v => Va.it (n := n) v.adv
theorem Va.jle {m:Nat} {p:Probe} (v:Va m p) : p.j <= m := by have := v.j; omega
theorem to_leap {m:Nat} : ∀ (k:Nat) (p:Probe), p.more = k -> Va m p -> it m (k + 1) p = rs m (leap m p.i p.perturb)
  | 0, p, e, v => by
    show adv m p = _
    unfold adv rs
    rw [if_neg (by omega)]
    obtain ⟨j, mo, i, q, d⟩ := p
    cases v.d
    rfl
  | k + 1, p, e, v => by
    have e1:adv m p = { p with j := p.j + 1, more := p.more - 1 } := by unfold adv; rw [if_pos (by omega)]
    show it m (k + 1) (adv m p) = _
    have := to_leap k (adv m p) (by rw [e1]; show p.more - 1 = k; omega) v.adv
    rw [this, e1]
def lp (m:Nat) : Nat -> Nat × Nat -> Nat × Nat
  | 0, p => p
  | n + 1, p => lp m n (leap m p.1 p.2)
theorem lp_add (m:Nat) : ∀ (a b:Nat) (p:Nat × Nat), lp m (a + b) p = lp m b (lp m a p)
  | 0, b, p => by rw [Nat.zero_add]; rfl
  | a + 1, b, p => by rw [Nat.succ_add]; exact lp_add m a b _
theorem lp_q (m:Nat) : ∀ (n:Nat) (p:Nat × Nat), (lp m n p).2 = p.2 / 32 ^ n
  | 0, p => by simp [lp]
  | n + 1, p => by
    show (lp m n (leap m p.1 p.2)).2 = _
    rw [lp_q m n, leap_q, Nat.div_div_eq_div_mul, Nat.pow_succ, Nat.mul_comm]
theorem lp_le (m:Nat) : ∀ (n:Nat) (p:Nat × Nat), p.1 <= m -> (lp m n p).1 <= m
  | 0, p, h => h
  | n + 1, p, _ => lp_le m n _ (leap_le m _ _)
theorem to_leaps {m:Nat} : ∀ (L:Nat) (p:Probe), Va m p -> ∃ n, n <= 10 * (L + 1) /\ it m n p = rs m (lp m (L + 1) (p.i, p.perturb))
  | 0, p, v => ⟨p.more + 1, by have := v.more; omega, to_leap _ p rfl v⟩
  | L + 1, p, v => by
    have h1 := to_leap _ p rfl v
    have v1:Va m (rs m (leap m p.i p.perturb)) := by rw [<- h1]; exact v.it
    obtain ⟨n, hn, e⟩ := to_leaps L _ v1
    refine ⟨p.more + 1 + n, by have := v.more; omega, ?_⟩
    rw [it_add, h1, e]
    rfl
def f5 (m i:Nat) : Nat := (i * 5 + 1) % (m + 1)
def fN (m:Nat) : Nat -> Nat -> Nat
  | 0, i => i
  | n + 1, i => fN m n (f5 m i)
def orbL (m:Nat) : Nat -> Nat -> List Nat
  | 0, _ => []
  | n + 1, i => i :: orbL m n (f5 m i)
theorem orbL_get (m:Nat) : ∀ (n i k:Nat), k < n -> (orbL m n i)[k]? = some (fN m k i)
  | n + 1, i, 0, _ => rfl
  | n + 1, i, k + 1, h => orbL_get m n _ k (by omega)
theorem orbL_len (m:Nat) : ∀ (n i:Nat), (orbL m n i).length = n
  | 0, _ => rfl
  | n + 1, i => by show (orbL m n _).length + 1 = _; rw [orbL_len]
theorem fN_add (m:Nat) : ∀ (a b i:Nat), fN m (a + b) i = fN m b (fN m a i)
  | 0, b, i => by rw [Nat.zero_add]; rfl
  | a + 1, b, i => by rw [Nat.succ_add]; exact fN_add m a b _
def okM (m:Nat) : Bool := ((List.range (m + 1)).all fun j => (orbL m (m + 1) 0).contains j) && (fN m (m + 1) 0 == 0)
def Msk (m:Nat) : Prop := m = 7 \/ m = 31 \/ m = 127
theorem okM_all {m:Nat} (h:Msk m) : okM m = true := by
  rcases h with rfl | rfl | rfl <;> decide +kernel
theorem reach0 {m j:Nat} (h:Msk m) (hj:j <= m) : ∃ n, n <= m /\ fN m n 0 = j := by
  have := okM_all h
  unfold okM at this
  simp only [Bool.and_eq_true, List.all_eq_true] at this
  have h1 := this.1 j (List.mem_range.mpr (by omega))
  rw [List.contains_iff_mem, List.mem_iff_getElem?] at h1
  obtain ⟨n, hn⟩ := h1
  have hl := (List.getElem?_eq_some_iff.mp hn).1
  rw [orbL_len] at hl
  rw [orbL_get m _ _ _ hl] at hn
  exact ⟨n, by omega, Option.some.inj hn⟩
theorem reachA {m i j:Nat} (h:Msk m) (hi:i <= m) (hj:j <= m) : ∃ n, n <= m /\ fN m n i = j := by
  obtain ⟨a, ha, ea⟩ := reach0 h hi
  obtain ⟨b, hb, eb⟩ := reach0 h hj
  by_cases hab:a <= b
  · refine ⟨b - a, by omega, ?_⟩
    rw [<- ea, <- fN_add, show a + (b - a) = b by omega, eb]
  · refine ⟨m + 1 + b - a, by omega, ?_⟩
    have z := okM_all h
    unfold okM at z
    simp only [Bool.and_eq_true, beq_iff_eq] at z
    rw [<- ea, <- fN_add, show a + (m + 1 + b - a) = m + 1 + b by omega, fN_add, z.2, eb]
theorem lp_zero (m:Nat) : ∀ (n i:Nat), lp m n (i, 0) = (fN m n i, 0)
  | 0, _ => rfl
  | n + 1, i => by
    show lp m n (leap m i 0) = _
    have:leap m i 0 = (f5 m i, 0) := rfl
    rw [this]; exact lp_zero m n _
theorem lp_cover {m j:Nat} (h:Msk m) (hj:j <= m) (p:Nat × Nat) (h1:p.1 <= m) (h2:p.2 < 2 ^ 64) : ∃ n, 13 <= n /\ n <= m + 13 /\ (lp m n p).1 = j := by
  have hp13:(2:Nat) ^ 64 < 32 ^ 13 := by decide
  have hq:(lp m 13 p).2 = 0 := by rw [lp_q]; exact Nat.div_eq_of_lt (by omega)
  obtain ⟨n, hn, e⟩ := reachA h (lp_le m 13 p h1) hj
  refine ⟨13 + n, by omega, by omega, ?_⟩
  rw [lp_add]
  have:lp m 13 p = ((lp m 13 p).1, 0) := by rw [<- hq]
  rw [this, lp_zero]
  exact e
theorem cover {m j:Nat} (h:Msk m) (hj:j <= m) {p:Probe} (v:Va m p) : ∃ n, n < 10 * turns m /\ (it m n p).j = j := by
  obtain ⟨L, h1, h2, e⟩ := lp_cover h hj (p.i, p.perturb) v.i v.q
  obtain ⟨n, hn, en⟩ := to_leaps (L - 1) p v
  rw [show L - 1 + 1 = L by omega] at en hn
  refine ⟨n, by unfold turns; omega, ?_⟩
  rw [en]; exact e
end ST
namespace ST
open PySem PySem.SetTable
def Ris (xs:List Nat) : Prop := xs.Pairwise (· < ·)
theorem below_go {xs:Array Nat} {j:Nat} (hr:Ris xs.toList) : ∀ (fuel lo hi:Nat), lo <= hi -> hi <= xs.size -> hi - lo <= fuel ->
    (∀ i (h:i < xs.size), i < lo -> xs[i] < j) -> (∀ i (h:i < xs.size), hi <= i -> j <= xs[i]) ->
    below.go xs j fuel lo hi <= xs.size /\ (∀ i (h:i < xs.size), i < below.go xs j fuel lo hi -> xs[i] < j) /\ ∀ i (h:i < xs.size), below.go xs j fuel lo hi <= i -> j <= xs[i]
  | 0, lo, hi, h1, h2, h3, h4, h5 => by
    have:lo = hi := by omega
    subst this
    exact ⟨h2, h4, h5⟩
  | f + 1, lo, hi, h1, h2, h3, h4, h5 => by
    have mono:∀ a b (ha:a < xs.size) (hb:b < xs.size), a <= b -> xs[a] <= xs[b] := by
      intro a b ha hb hab
      rcases Nat.lt_or_eq_of_le hab with h | h
      · have := List.pairwise_iff_getElem.mp hr a b (by simpa using ha) (by simpa using hb) h
        simpa using Nat.le_of_lt this
      · subst h; exact Nat.le_refl _
    unfold below.go
    by_cases hc:lo < hi
    · rw [if_pos hc]
      have hm:(lo + hi) / 2 < xs.size := by omega
      have eg:xs.getD ((lo + hi) / 2) j = xs[(lo + hi) / 2] := by simp [Array.getD, hm]
      dsimp only
      rw [eg]
      by_cases hq:xs[(lo + hi) / 2] < j
      · rw [if_pos hq]
        refine below_go hr f _ _ (by omega) h2 (by omega) (fun i h hi' => ?_) h5
        exact Nat.lt_of_le_of_lt (mono i _ h hm (by omega)) hq
      · rw [if_neg hq]
        refine below_go hr f _ _ (by omega) (by omega) (by omega) h4 fun i h hi' => ?_
        exact Nat.le_trans (by omega) (mono _ i hm h hi')
    · rw [if_neg hc]
      have:lo = hi := by omega
      subst this
      exact ⟨h2, h4, h5⟩
theorem below_spec {xs:Array Nat} (j:Nat) (hr:Ris xs.toList) : below xs j <= xs.size /\ (∀ i (h:i < xs.size), i < below xs j -> xs[i] < j) /\ ∀ i (h:i < xs.size), below xs j <= i -> j <= xs[i] := by
  unfold below
  exact below_go hr xs.size 0 xs.size (Nat.zero_le _) (Nat.le_refl _) (by omega) (fun i h z => by omega) fun i h z => by omega
theorem below_at {xs:Array Nat} {i:Nat} (hr:Ris xs.toList) (h:i < xs.size) : below xs xs[i] = i := by
  obtain ⟨a, b, c⟩ := below_spec xs[i] hr
  rcases Nat.lt_trichotomy (below xs xs[i]) i with q | q | q
  · have hb:below xs xs[i] < xs.size := by omega
    have h1 := c (below xs xs[i]) hb (Nat.le_refl _)
    have h2 := List.pairwise_iff_getElem.mp hr _ i (by simpa using hb) (by simpa using h) q
    simp at h2
    omega
  · exact q
  · have := b i h q; omega
theorem has_empty (j:Nat) : has #[] j = false := rfl
structure Tb (t:SetTable) : Prop where
  msk:Msk t.mask
  dum:t.dummies = #[]
  ris:Ris t.place.toList
  le:∀ j ∈ t.place.toList, j <= t.mask
theorem slot_live {t:SetTable} (h:Tb t) {i:Nat} (hi:i < t.place.size) : t.slot t.place[i] = .live i := by
  unfold slot
  dsimp only
  rw [below_at h.ris hi]
  rw [if_pos]
  simp [hi]
theorem slot_empty {t:SetTable} (h:Tb t) {j:Nat} (hj:j ∉ t.place.toList) : t.slot j = .empty := by
  unfold slot
  dsimp only
  rw [if_neg, h.dum, has_empty]
  · rfl
  · intro e
    have e:t.place[below t.place j]? = some j := by simpa using e
    obtain ⟨h1, h2⟩ := Array.getElem?_eq_some_iff.mp e
    exact hj (by rw [<- h2]; simp)
theorem slot_cases {t:SetTable} (h:Tb t) (j:Nat) : (j ∉ t.place.toList /\ t.slot j = .empty) \/ ∃ i, ∃ hi:i < t.place.size, t.place[i] = j /\ t.slot j = .live i := by
  by_cases hj:j ∈ t.place.toList
  · right
    obtain ⟨i, hi, e⟩ := List.mem_iff_getElem.mp hj
    have hi':i < t.place.size := by simpa using hi
    have e':t.place[i] = j := by simpa using e
    exact ⟨i, hi', e', by rw [<- e']; exact slot_live h hi'⟩
  · exact .inl ⟨hj, slot_empty h hj⟩
def Lv (t:SetTable) (j:Nat) : Prop := j ∈ t.place.toList
inductive PrSpec (t:SetTable) (ha:Nat -> Int) (h:Int) (p:Probe) : Option Met -> Prop
  | em (n:Nat) (e:¬ Lv t (it t.mask n p).j) (b:∀ k, k < n -> ∃ i, ∃ hi:i < t.place.size, t.place[i] = (it t.mask k p).j /\ ha i ≠ h) : PrSpec t ha h p (some (.empty (it t.mask n p).j none))
  | ca (n i:Nat) (hi:i < t.place.size) (e:t.place[i] = (it t.mask n p).j) (q:ha i = h) (b:∀ k, k < n -> ∃ i, ∃ hi:i < t.place.size, t.place[i] = (it t.mask k p).j /\ ha i ≠ h) :
    PrSpec t ha h p (some (.candidate (it t.mask n p).j i (it t.mask (n + 1) p)))
theorem probe_go {t:SetTable} (h:Tb t) (ha:Nat -> Int) (x:Int) : ∀ (fuel:Nat) (p:Probe), Va t.mask p -> (∃ n, n < fuel /\ ¬ Lv t (it t.mask n p).j) -> PrSpec t ha x p (probe.go t ha x fuel p)
  | 0, p, v, ⟨n, hn, _⟩ => by omega
  | f + 1, p, v, ⟨n, hn, he⟩ => by
    unfold probe.go
    rcases slot_cases h p.j with ⟨h1, e⟩ | ⟨i, hi, h1, e⟩
    · rw [e]
      dsimp only
      have := PrSpec.em (t := t) (ha := ha) (h := x) (p := p) 0 h1 fun k hk => by omega
      rw [v.d]
      exact this
    · rw [e]
      dsimp only
      by_cases hq:ha i = x
      · rw [if_pos (by simpa using hq)]
        exact PrSpec.ca (t := t) (ha := ha) (h := x) (p := p) 0 i hi h1 hq fun k hk => by omega
      · rw [if_neg (by simpa using hq), advance_eq]
        have hn0:n ≠ 0 := by
          rintro rfl
          exact he (by show p.j ∈ t.place.toList; rw [<- h1]; simp)
        have ih := probe_go h ha x f (adv t.mask p) v.adv ⟨n - 1, by omega, by
          have:it t.mask (n - 1) (adv t.mask p) = it t.mask n p := by
            show _ = it t.mask n p
            rw [show n = (n - 1) + 1 by omega]; rfl
          rw [this]; exact he⟩
        have shift:∀ {nn:Nat}, (∀ k, k < nn -> ∃ i, ∃ hi:i < t.place.size, t.place[i] = (it t.mask k (adv t.mask p)).j /\ ha i ≠ x) -> ∀ k, k < nn + 1 -> ∃ i, ∃ hi:i < t.place.size, t.place[i] = (it t.mask k p).j /\ ha i ≠ x := by
          intro nn b k hk
          cases k with
          | zero => exact ⟨i, hi, h1, hq⟩
          | succ k => exact b k (by omega)
        generalize probe.go t ha x f (adv t.mask p) = rr at ih
        cases ih with
        | em n' e' b => exact PrSpec.em (t := t) (ha := ha) (h := x) (p := p) (n' + 1) e' (shift b)
        | ca n' i' hi' e' q' b => exact PrSpec.ca (t := t) (ha := ha) (h := x) (p := p) (n' + 1) i' hi' e' q' (shift b)
theorem len_le:∀ (l1 l2:List Nat), l1.Nodup -> (∀ x ∈ l1, x ∈ l2) -> l1.length <= l2.length
  | [], _, _, _ => Nat.zero_le _
  | a :: l1, l2, nd, hs => by
    have ha:a ∈ l2 := hs a (List.mem_cons_self ..)
    have ih := len_le l1 (l2.erase a) (List.nodup_cons.mp nd).2 fun x hx => by
      have:x ≠ a := fun e => (List.nodup_cons.mp nd).1 (e ▸ hx)
      exact (List.mem_erase_of_ne this).mpr (hs x (List.mem_cons_of_mem _ hx))
    rw [List.length_erase_of_mem ha] at ih
    have:0 < l2.length := List.length_pos_of_mem ha
    simp only [List.length_cons]; omega
theorem some_empty {t:SetTable} (h:Tb t) (hs:t.place.size <= t.mask) : ∃ j, j <= t.mask /\ ¬ Lv t j := by
  refine Classical.byContradiction fun hn => ?_
  have hall:∀ j, j <= t.mask -> j ∈ t.place.toList := fun j hj => Classical.byContradiction fun z => hn ⟨j, hj, z⟩
  have := len_le (List.range (t.mask + 1)) t.place.toList List.nodup_range fun j hj => hall j (by have := List.mem_range.mp hj; omega)
  simp at this
  omega
theorem probe_spec {t:SetTable} (h:Tb t) (hs:t.place.size <= t.mask) (ha:Nat -> Int) (x:Int) {p:Probe} (v:Va t.mask p) : PrSpec t ha x p (t.probe ha x p) := by
  obtain ⟨j, hj, hn⟩ := some_empty h hs
  obtain ⟨n, h1, h2⟩ := cover h.msk hj v
  unfold probe
  exact probe_go h ha x _ p v ⟨n, h1, by rw [h2]; exact hn⟩
end ST
namespace ST
open PySem PySem.SetTable
def Rea (m:Nat) (lv:Nat -> Prop) (h:Int) (j:Nat) : Prop := ∃ n, (it m n (st m h)).j = j /\ ∀ k, k < n -> lv (it m k (st m h)).j
theorem Rea.mono {m:Nat} {lv lv':Nat -> Prop} {h:Int} {j:Nat} (r:Rea m lv h j) (s:∀ j, lv j -> lv' j) : Rea m lv' h j := let ⟨n, e, b⟩ := r; ⟨n, e, fun k hk => s _ (b k hk)⟩
structure Tbl {V:Type} (t:SetTable) (es:Array (Int × V)) : Prop where
  tb:Tb t
  len:t.place.size = es.size
  rea:∀ q ∈ t.place.toList.zip es.toList, Rea t.mask (· ∈ t.place.toList) q.2.1 q.1
def Spare (t:SetTable) : Prop := t.place.size * 5 < t.mask * 3
theorem insertAt_toList {α:Type} (xs:Array α) (p:Nat) (x:α) (h:p <= xs.size) : (insertAt xs p x).toList = xs.toList.take p ++ x :: xs.toList.drop p := by
  unfold insertAt
  simp [Array.toList_extract, List.extract_eq_drop_take, List.take_of_length_le]
theorem insertAt_size {α:Type} (xs:Array α) (p:Nat) (x:α) (h:p <= xs.size) : (insertAt xs p x).size = xs.size + 1 := by
  rw [<- Array.length_toList, insertAt_toList xs p x h]
  simp; omega
theorem put_fst {t:SetTable} (h:Tb t) (j:Nat) : (t.put j).1 = { t with place := insertAt t.place (below t.place j) j } := by
  unfold put
  dsimp only
  rw [h.dum]
  have:has #[] j = false := has_empty j
  rw [if_neg (by rw [this]; simp), <- h.dum]
theorem put_snd (t:SetTable) (j:Nat) : (t.put j).2 = below t.place j := rfl
theorem zip_insert {α β:Type} (xs:List α) (ys:List β) (p:Nat) (x:α) (y:β) (h:xs.length = ys.length) : (xs.take p ++ x :: xs.drop p).zip (ys.take p ++ y :: ys.drop p) = (xs.zip ys).take p ++ (x, y) :: (xs.zip ys).drop p := by
  rw [List.zip_append (by simp [h]), List.zip_cons_cons]
  simp [List.zip, List.take_zipWith, List.drop_zipWith]
theorem put_ok {V:Type} {t:SetTable} {es:Array (Int × V)} (h:Tbl t es) {j:Nat} (hj:j ∉ t.place.toList) (hjm:j <= t.mask) {hh:Int} {v:V} (r:Rea t.mask (· ∈ t.place.toList) hh j) :
    Tbl (t.put j).1 (insertAt es (t.put j).2 (hh, v)) /\ (t.put j).1.mask = t.mask /\ (t.put j).1.place.size = t.place.size + 1 := by
  obtain ⟨a, b, c⟩ := below_spec j h.tb.ris
  rw [put_fst h.tb, put_snd]
  have ae:below t.place j <= es.size := by rw [<- h.len]; exact a
  have el := insertAt_toList t.place _ j a
  have ee := insertAt_toList es (below t.place j) (hh, v) ae
  have mem:∀ k, k ∈ (insertAt t.place (below t.place j) j).toList ↔ k = j \/ k ∈ t.place.toList := by
    intro k
    rw [el, List.mem_append, List.mem_cons]
    constructor
    · rintro (z | rfl | z)
      · exact .inr (List.mem_of_mem_take z)
      · exact .inl rfl
      · exact .inr (List.mem_of_mem_drop z)
    · rintro (rfl | z)
      · exact .inr (.inl rfl)
      · rw [<- List.take_append_drop (below t.place j) t.place.toList, List.mem_append] at z
        exact z.elim .inl fun z => .inr (.inr z)
  refine ⟨⟨⟨h.tb.msk, h.tb.dum, ?_, fun k hk => ?_⟩, ?_, fun q hq => ?_⟩, rfl, insertAt_size _ _ _ a⟩
  · show Ris (insertAt t.place (below t.place j) j).toList
    rw [el]
    unfold Ris
    rw [List.pairwise_append]
    refine ⟨h.tb.ris.sublist (List.take_sublist _ _), ?_, ?_⟩
    · rw [List.pairwise_cons]
      refine ⟨fun k hk => ?_, h.tb.ris.sublist (List.drop_sublist _ _)⟩
      obtain ⟨i, hi, e⟩ := List.mem_iff_getElem.mp hk
      rw [List.length_drop] at hi
      have hi2:below t.place j + i < t.place.size := by simp at hi; omega
      have e2:t.place[below t.place j + i] = k := by rw [<- e]; simp
      have := c _ hi2 (by omega)
      rw [e2] at this
      have:k ≠ j := fun z => hj (by rw [<- z, <- e2]; simp)
      omega
    · intro k hk l hl
      obtain ⟨i, hi, e⟩ := List.mem_iff_getElem.mp hk
      rw [List.length_take] at hi
      have hi2:i < t.place.size := by simp at hi; omega
      have e2:t.place[i] = k := by rw [<- e]; simp
      have l1 := b i hi2 (by omega)
      rw [e2] at l1
      rw [List.mem_cons] at hl
      rcases hl with rfl | hl
      · exact l1
      · obtain ⟨i', hi', e'⟩ := List.mem_iff_getElem.mp hl
        rw [List.length_drop] at hi'
        have hi3:below t.place j + i' < t.place.size := by simp at hi'; omega
        have e3:t.place[below t.place j + i'] = l := by rw [<- e']; simp
        have := c _ hi3 (by omega)
        rw [e3] at this
        omega
  · rcases (mem k).mp hk with rfl | z
    · exact hjm
    · exact h.tb.le k z
  · show (insertAt t.place (below t.place j) j).size = _
    rw [insertAt_size _ _ _ a, insertAt_size _ _ _ ae, h.len]
  · have hq:q ∈ (insertAt t.place (below t.place j) j).toList.zip (insertAt es (below t.place j) (hh, v)).toList := hq
    rw [el, ee, zip_insert _ _ _ _ _ (by simpa using h.len)] at hq
    have sub:∀ k, k ∈ t.place.toList -> k ∈ (insertAt t.place (below t.place j) j).toList := fun k hk => (mem k).mpr (.inr hk)
    rw [List.mem_append, List.mem_cons] at hq
    rcases hq with z | rfl | z
    · exact (h.rea q (List.mem_of_mem_take z)).mono sub
    · exact r.mono sub
    · exact (h.rea q (List.mem_of_mem_drop z)).mono sub
def ow (owner:Array (Option Nat)) (j:Nat) : Prop := ∃ k, owner[j]? = some (some k)
theorem run_it {m:Nat} (i q:Nat) : ∀ k, k <= runEnd m i - i -> it m k (rs m (i, q)) = { j := i + k, more := runEnd m i - i - k, i := i, perturb := q, dummy := none }
  | 0, _ => rfl
  | k + 1, h => by
    rw [it_snoc, run_it i q k (by omega)]
    unfold adv
    rw [if_pos (by dsimp only; omega)]
    dsimp only
    congr 1
theorem free_spec {m:Nat} {owner:Array (Option Nat)} (hs:owner.size = m + 1) : ∀ (fuel i q:Nat), i <= m -> q < 2 ^ 64 -> (∃ L, L < fuel /\ ¬ ow owner (lp m L (i, q)).1) ->
    ∃ j, layClean.free m owner fuel i q = some j /\ j <= m /\ ¬ ow owner j /\ ∃ n, (it m n (rs m (i, q))).j = j /\ ∀ k, k < n -> ow owner (it m k (rs m (i, q))).j
  | 0, i, q, _, _, ⟨L, h, _⟩ => by omega
  | f + 1, i, q, hi, hq, ⟨L, hL, hn⟩ => by
    obtain ⟨r1, r2⟩ := run_le m i hi
    have hre:runEnd m i + 1 - i = (runEnd m i - i) + 1 := by
      have:i <= runEnd m i := by unfold runEnd; split <;> omega
      omega
    have isn:∀ k, k <= runEnd m i - i -> ((owner.getD (i + k) (some 0)).isNone = true ↔ ¬ ow owner (i + k)) := by
      intro k hk
      have hb:i + k < owner.size := by omega
      have e:owner[i + k]? = some owner[i + k] := by simp [hb]
      have e2:owner.getD (i + k) (some 0) = owner[i + k] := by simp [Array.getD, hb]
      unfold ow
      rw [e2, e]
      cases owner[i + k] <;> simp
    unfold layClean.free
    cases hf:(List.range (runEnd m i + 1 - i)).find? fun k => (owner.getD (i + k) (some 0)).isNone with
    | some k =>
      dsimp only
      rw [List.find?_range_eq_some] at hf
      obtain ⟨h1, h2, h3⟩ := hf
      have h2 := List.mem_range.mp h2
      have hk:k <= runEnd m i - i := by omega
      refine ⟨i + k, rfl, by omega, (isn k hk).mp h1, k, by rw [run_it i q k hk], fun k' hk' => ?_⟩
      rw [run_it i q k' (by omega)]
      have := h3 k' hk'
      refine Classical.byContradiction fun z => ?_
      rw [(isn k' (by omega)).mpr z] at this
      simp at this
    | none =>
      dsimp only
      rw [List.find?_range_eq_none] at hf
      have hrun:∀ k, k <= runEnd m i - i -> ow owner (i + k) := by
        intro k hk
        refine Classical.byContradiction fun z => ?_
        have := hf k (by omega)
        rw [(isn k hk).mpr z] at this
        simp at this
      have hL0:L ≠ 0 := by
        rintro rfl
        exact hn (hrun 0 (Nat.zero_le _))
      have ih := free_spec hs f (leap m i q).1 (leap m i q).2 (leap_le m i q) (by rw [leap_q]; have := Nat.div_le_self q 32; omega) ⟨L - 1, by omega, by
        have:lp m L (i, q) = lp m (L - 1) (leap m i q) := by rw [show L = (L - 1) + 1 by omega]; rfl
        rw [this] at hn; exact hn⟩
      obtain ⟨j, e, hj, hnj, n, en, hb⟩ := ih
      refine ⟨j, e, hj, hnj, runEnd m i - i + 1 + n, ?_, fun k hk => ?_⟩
      · rw [it_add, to_leap (runEnd m i - i) (rs m (i, q)) rfl (Va.rs hi hq)]
        exact en
      · by_cases hk2 : k <= runEnd m i - i
        · rw [run_it i q k hk2]; exact hrun k hk2
        · have:it m k (rs m (i, q)) = it m (k - (runEnd m i - i + 1)) (rs m (leap m i q)) := by
            rw [show k = (runEnd m i - i + 1) + (k - (runEnd m i - i + 1)) by omega, it_add, to_leap (runEnd m i - i) (rs m (i, q)) rfl (Va.rs hi hq)]
            congr 1; omega
          rw [this]
          exact hb _ (by omega)
structure Own (m:Nat) (hs:List Int) (owner:Array (Option Nat)) : Prop where
  size:owner.size = m + 1
  all:∀ k:Nat, k < hs.length -> ∃ j:Nat, owner[j]? = some (some k)
  lt:∀ j k:Nat, owner[j]? = some (some k) -> k < hs.length
  rea:∀ (j k:Nat) (h:Int), owner[j]? = some (some k) -> hs[k]? = some h -> Rea m (ow owner) h j
  inj:∀ j j' k:Nat, owner[j]? = some (some k) -> owner[j']? = some (some k) -> j = j'
theorem Own.spare {m:Nat} {hs:List Int} {owner:Array (Option Nat)} (o:Own m hs owner) (hl:hs.length <= m) : ∃ j, j <= m /\ ¬ ow owner j := by
  refine Classical.byContradiction fun hn => ?_
  have hall:∀ j, j <= m -> ow owner j := fun j hj => Classical.byContradiction fun z => hn ⟨j, hj, z⟩
  let g:Nat -> Nat := fun j => ((owner[j]?).getD none).getD 0
  have hg:∀ j, j <= m -> owner[j]? = some (some (g j)) := fun j hj => by
    obtain ⟨k, hk⟩ := hall j hj
    show owner[j]? = some (some (((owner[j]?).getD none).getD 0))
    rw [hk]; rfl
  have nd:((List.range (m + 1)).map g).Nodup := by
    unfold List.Nodup
    rw [List.pairwise_map]
    have := List.nodup_range (n := m + 1)
    refine List.Pairwise.imp_of_mem (fun {a b} ha hb hab e => hab ?_) this
    have ha := List.mem_range.mp ha
    have hb := List.mem_range.mp hb
    exact o.inj a b (g a) (hg a (by omega)) (by rw [e]; exact hg b (by omega))
  have := len_le _ (List.range hs.length) nd fun x hx => by
    obtain ⟨j, hj, rfl⟩ := List.mem_map.mp hx
    have hj := List.mem_range.mp hj
    exact List.mem_range.mpr (o.lt j _ (hg j (by omega)))
  simp at this
  omega
theorem lay_step {m:Nat} (hm:Msk m) {hs:List Int} {owner:Array (Option Nat)} (o:Own m hs owner) (hl:hs.length <= m) (h:Int) :
    ∃ j, layClean.free m owner (turns m) (bits h % (m + 1)) (bits h) = some j /\ Own m (hs ++ [h]) (owner.setIfInBounds j (some hs.length)) := by
  obtain ⟨j0, hj0, hn0⟩ := o.spare hl
  have hi:bits h % (m + 1) <= m := Nat.le_of_lt_succ (Nat.mod_lt _ (Nat.succ_pos m))
  obtain ⟨L, l1, l2, el⟩ := lp_cover hm hj0 (bits h % (m + 1), bits h) hi (bits_lt h)
  obtain ⟨j, e, hj, hnj, n, en, hb⟩ := free_spec o.size (turns m) _ _ hi (bits_lt h) ⟨L, by unfold turns; omega, by rw [el]; exact hn0⟩
  refine ⟨j, e, ?_⟩
  have hjb:j < owner.size := by rw [o.size]; omega
  have get:∀ i, (owner.setIfInBounds j (some hs.length))[i]? = if i = j then some (some hs.length) else owner[i]? := by
    intro i
    rw [Array.getElem?_setIfInBounds]
    by_cases hij:j = i
    · subst hij; rw [if_pos rfl, if_pos hjb, if_pos rfl]
    · rw [if_neg hij, if_neg (fun z => hij z.symm)]
  have sub:∀ i, ow owner i -> ow (owner.setIfInBounds j (some hs.length)) i := by
    rintro i ⟨k, hk⟩
    by_cases hij:i = j
    · exact ⟨_, by rw [get, if_pos hij]⟩
    · exact ⟨k, by rw [get, if_neg hij]; exact hk⟩
  have inv:∀ i k, (owner.setIfInBounds j (some hs.length))[i]? = some (some k) -> (i = j /\ k = hs.length) \/ (i ≠ j /\ owner[i]? = some (some k)) := by
    intro i k hk
    rw [get] at hk
    by_cases hij:i = j
    · rw [if_pos hij] at hk
      exact .inl ⟨hij, by simpa using hk.symm⟩
    · rw [if_neg hij] at hk; exact .inr ⟨hij, hk⟩
  refine ⟨by rw [Array.size_setIfInBounds, o.size], fun k hk => ?_, fun i k hk => ?_, fun i k h' hk hh => ?_, fun i i' k h1 h2 => ?_⟩
  · rw [List.length_append, List.length_singleton] at hk
    by_cases hkl:k = hs.length
    · exact ⟨j, by rw [get, if_pos rfl, hkl]⟩
    · obtain ⟨i, hi⟩ := o.all k (by omega)
      refine ⟨i, ?_⟩
      rw [get, if_neg]
      · exact hi
      · rintro rfl; exact hnj ⟨k, hi⟩
  · rw [List.length_append, List.length_singleton]
    rcases inv i k hk with ⟨_, rfl⟩ | ⟨_, z⟩
    · omega
    · have := o.lt i k z; omega
  · rcases inv i k hk with ⟨rfl, rfl⟩ | ⟨hij, z⟩
    · rw [List.getElem?_append_right (Nat.le_refl _), Nat.sub_self] at hh
      cases hh
      exact ⟨n, en, fun k hk => sub _ (hb k hk)⟩
    · have hkl := o.lt i k z
      rw [List.getElem?_append_left hkl] at hh
      exact (o.rea i k h' z hh).mono sub
  · rcases inv i k h1 with ⟨rfl, rfl⟩ | ⟨hij, z⟩ <;> rcases inv i' _ h2 with ⟨rfl, e'⟩ | ⟨hij', z'⟩
    · rfl
    · have := o.lt _ _ z'; omega
    · have := o.lt _ _ z; omega
    · exact o.inj i i' k z z'
theorem lay_go {m:Nat} (hm:Msk m) : ∀ (suf pre:List Int) (owner:Array (Option Nat)), Own m pre owner -> pre.length + suf.length <= m ->
    ∃ owner', suf.foldl (fun acc h => do
      let (owner, k) <- acc
      let j <- layClean.free m owner (turns m) (bits h % (m + 1)) (bits h)
      pure (owner.setIfInBounds j (some k), k + 1)) (some (owner, pre.length)) = some (owner', pre.length + suf.length) /\ Own m (pre ++ suf) owner'
  | [], pre, owner, o, _ => ⟨owner, rfl, by rw [List.append_nil]; exact o⟩
  | h :: suf, pre, owner, o, hl => by
    simp only [List.length_cons] at hl
    obtain ⟨j, e, o'⟩ := lay_step hm o (by omega) h
    obtain ⟨owner', e2, o2⟩ := lay_go hm suf (pre ++ [h]) _ o' (by simp; omega)
    refine ⟨owner', ?_, by rw [List.append_assoc] at o2; exact o2⟩
    rw [List.foldl_cons]
    show List.foldl _ ((layClean.free m owner (turns m) (bits h % (m + 1)) (bits h)).bind fun j => some (owner.setIfInBounds j (some pre.length), pre.length + 1)) suf = _
    rw [e]
    show List.foldl _ (some (owner.setIfInBounds j (some pre.length), pre.length + 1)) suf = _
    rw [List.length_append, List.length_singleton] at e2
    rw [e2]
    simp only [List.length_cons]
    congr 2; omega
theorem lay_ok {m:Nat} (hm:Msk m) (hs:Array Int) (hl:hs.size <= m) : ∃ owner, layClean m hs = some owner /\ Own m hs.toList owner := by
  have o0:Own m [] (Array.replicate (m + 1) none) := by
    have no:∀ j k:Nat, (Array.replicate (m + 1) (none:Option Nat))[j]? = some (some k) -> False := by
      intro j k h
      rw [Array.getElem?_replicate] at h
      split at h <;> simp at h
    exact ⟨by simp, fun k hk => by simp at hk, fun j k h => (no j k h).elim, fun j k _ h => (no j k h).elim, fun j _ k h => (no j k h).elim⟩
  obtain ⟨owner, e, o⟩ := lay_go hm hs.toList [] _ o0 (by simpa using hl)
  refine ⟨owner, ?_, by simpa using o⟩
  unfold layClean
  rw [<- Array.foldl_toList]
  rw [List.length_nil] at e
  rw [e]; rfl
end ST
namespace ST
open PySem PySem.SetTable
theorem fm_idx {α:Type} (es:Array α) : ∀ (l:List Nat), (∀ k ∈ l, k < es.size) -> (l.filterMap (es[·]?)).length = l.length /\ ∀ i:Nat, (l.filterMap (es[·]?))[i]? = (l[i]?).bind (es[·]?)
  | [], _ => ⟨rfl, fun i => by simp⟩
  | k :: l, h => by
    have hk:k < es.size := h k (List.mem_cons_self ..)
    have e:es[k]? = some es[k] := by simp [hk]
    obtain ⟨a, b⟩ := fm_idx es l fun k hk => h k (List.mem_cons_of_mem _ hk)
    rw [List.filterMap_cons_some e]
    refine ⟨by simp [a], fun i => ?_⟩
    cases i with
    | zero => simp [e]
    | succ i => simpa using b i
theorem live_fst (o:Nat -> Option Nat) : ∀ l:List Nat, (l.filterMap fun j => (o j).map (j, ·)).map Prod.fst = l.filter fun j => (o j).isSome
  | [] => rfl
  | j :: l => by
    rw [List.filterMap_cons, List.filter_cons]
    cases e:o j with
    | none => simpa using live_fst o l
    | some k => simpa using live_fst o l
theorem live_mem (owner:Array (Option Nat)) (m:Nat) (hs:owner.size = m + 1) (j k:Nat) : (j, k) ∈ ((List.range (m + 1)).filterMap fun j => (owner.getD j none).map (j, ·)) ↔ owner[j]? = some (some k) := by
  rw [List.mem_filterMap]
  constructor
  · rintro ⟨a, h1, h2⟩
    have h1 := List.mem_range.mp h1
    have hb:a < owner.size := by omega
    have e:owner.getD a none = owner[a] := by simp [Array.getD, hb]
    rw [e] at h2
    obtain ⟨k', e1, e2⟩ := Option.map_eq_some_iff.mp h2
    cases e2
    rw [show owner[j]? = some owner[j] by simp [hb], e1]
  · intro h
    obtain ⟨hb, e⟩ := Array.getElem?_eq_some_iff.mp h
    refine ⟨j, List.mem_range.mpr (by omega), ?_⟩
    have e2:owner.getD j none = owner[j] := by simp [Array.getD, hb]
    rw [e2, e]; rfl
structure Laid {V:Type} (m:Nat) (es es':Array (Int × V)) (t':SetTable) : Prop where
  tbl:Tbl t' es'
  mask:t'.mask = m
  size:es'.size = es.size
  mem:∀ x, x ∈ es'.toList ↔ x ∈ es.toList
  pw:∀ R:Int × V -> Int × V -> Prop, (∀ x y, R x y -> R y x) -> es.toList.Pairwise R -> es'.toList.Pairwise R
theorem laid_ok {V:Type} {m:Nat} (hm:Msk m) (es:Array (Int × V)) (hl:es.size <= m) (finger moves:Nat) (led plain:Bool) :
    ∃ t' order, laid m finger moves led plain (es.map (·.1)) = some (t', order) /\ Laid m es (order.filterMap (es[·]?)) t' /\ t'.led = led /\ t'.plain = plain := by
  obtain ⟨owner, eo, o⟩ := lay_ok hm (es.map (·.1)) (by simpa using hl)
  have len:(es.map (·.1)).toList.length = es.size := by simp
  let live := (List.range (m + 1)).filterMap fun j => (owner.getD j none).map (j, ·)
  have lm:∀ j k, (j, k) ∈ live ↔ owner[j]? = some (some k) := live_mem owner m o.size
  have ris:Ris (live.map Prod.fst) := by
    show Ris (((List.range (m + 1)).filterMap fun j => (owner.getD j none).map (j, ·)).map Prod.fst)
    rw [live_fst]
    exact List.pairwise_lt_range.sublist (List.filter_sublist)
  have ndS:(live.map Prod.snd).Nodup := by
    unfold List.Nodup
    unfold Ris at ris
    rw [List.pairwise_map] at ris ⊢
    refine List.Pairwise.imp_of_mem (fun {a b} ha hb hab e => ?_) ris
    have h1 := (lm a.1 a.2).mp ha
    have h2 := (lm b.1 b.2).mp hb
    rw [<- e] at h2
    have := o.inj _ _ _ h1 h2
    omega
  have lt:∀ k ∈ live.map Prod.snd, k < es.size := by
    intro k hk
    obtain ⟨p, hp, rfl⟩ := List.mem_map.mp hk
    have := o.lt p.1 p.2 ((lm p.1 p.2).mp hp)
    rwa [len] at this
  have all:∀ k, k < es.size -> k ∈ live.map Prod.snd := by
    intro k hk
    obtain ⟨j, hj⟩ := o.all k (by rw [len]; exact hk)
    exact List.mem_map.mpr ⟨(j, k), (lm j k).mpr hj, rfl⟩
  have ll:live.length = es.size := by
    have a := len_le _ (List.range es.size) ndS fun k hk => List.mem_range.mpr (lt k hk)
    have b := len_le (List.range es.size) (live.map Prod.snd) List.nodup_range fun k hk => all k (List.mem_range.mp hk)
    simp at a b
    omega
  obtain ⟨f1, f2⟩ := fm_idx es (live.map Prod.snd) lt
  refine ⟨{ mask := m, place := (live.map (·.1)).toArray, dummies := #[], finger, led, moves, plain }, (live.map (·.2)).toArray, ?_, ?_, rfl, rfl⟩
  · unfold laid
    rw [eo]
    rfl
  · have el:((live.map (·.2)).toArray.filterMap (es[·]?)).toList = (live.map Prod.snd).filterMap (es[·]?) := by simp
    have es':((live.map (·.2)).toArray.filterMap (es[·]?)).size = es.size := by
      rw [<- Array.length_toList, el, f1, List.length_map, ll]
    refine ⟨⟨⟨hm, rfl, by simpa using ris, fun j hj => ?_⟩, ?_, fun q hq => ?_⟩, rfl, es', fun x => ?_, fun R sy pw => ?_⟩
    · have hj:j ∈ live.map Prod.fst := by simpa using hj
      obtain ⟨p, hp, rfl⟩ := List.mem_map.mp hj
      obtain ⟨hb, _⟩ := Array.getElem?_eq_some_iff.mp ((lm p.1 p.2).mp hp)
      show p.1 <= m
      have := o.size
      omega
    · rw [es']; simpa using ll
    · have hq:q ∈ (live.map Prod.fst).zip ((live.map Prod.snd).filterMap (es[·]?)) := by rw [el] at hq; simpa using hq
      obtain ⟨i, hi⟩ := List.mem_iff_getElem?.mp hq
      rw [List.getElem?_zip_eq_some, f2] at hi
      obtain ⟨h1, h2⟩ := hi
      rw [List.getElem?_map] at h1 h2
      obtain ⟨p, hp, e1⟩ := Option.map_eq_some_iff.mp h1
      rw [hp] at h2
      have h2:es[p.2]? = some q.2 := h2
      have ho := (lm p.1 p.2).mp (List.mem_iff_getElem?.mpr ⟨i, hp⟩)
      have hh:(es.map (·.1)).toList[p.2]? = some q.2.1 := by
        rw [Array.getElem?_toList, Array.getElem?_map, h2]; rfl
      rw [<- e1]
      refine (o.rea p.1 p.2 q.2.1 ho hh).mono fun j ⟨k, hk⟩ => ?_
      show j ∈ (live.map (·.1)).toArray.toList
      simpa using ⟨k, (lm j k).mpr hk⟩
    · rw [el]
      constructor
      · intro hx
        obtain ⟨k, _, h2⟩ := List.mem_filterMap.mp hx
        exact List.mem_iff_getElem?.mpr ⟨k, by rw [Array.getElem?_toList]; exact h2⟩
      · intro hx
        obtain ⟨k, hk⟩ := List.mem_iff_getElem?.mp hx
        have hb:k < es.size := by have := (List.getElem?_eq_some_iff.mp hk).1; simpa using this
        exact List.mem_filterMap.mpr ⟨k, all k hb, by rw [Array.getElem?_toList] at hk; exact hk⟩
    · rw [el]
      rw [List.pairwise_iff_getElem]
      intro a b ha hb hab
      have ea := f2 a
      have eb := f2 b
      rw [List.getElem?_eq_getElem ha] at ea
      rw [List.getElem?_eq_getElem hb] at eb
      rw [f1] at ha hb
      rw [List.getElem?_eq_getElem ha] at ea
      rw [List.getElem?_eq_getElem hb] at eb
      have hne:(live.map Prod.snd)[a] ≠ (live.map Prod.snd)[b] := List.pairwise_iff_getElem.mp ndS a b ha hb hab
      have ea:es[(live.map Prod.snd)[a]]? = some _ := ea.symm
      have eb:es[(live.map Prod.snd)[b]]? = some _ := eb.symm
      obtain ⟨ka, va⟩ := Array.getElem?_eq_some_iff.mp ea
      obtain ⟨kb, vb⟩ := Array.getElem?_eq_some_iff.mp eb
      have P := List.pairwise_iff_getElem.mp pw
      rw [<- va, <- vb]
      rcases Nat.lt_or_gt_of_ne hne with z | z
      · simpa using P _ _ (by simpa using ka) (by simpa using kb) z
      · refine sy _ _ ?_
        simpa using P _ _ (by simpa using kb) (by simpa using ka) z
end ST
namespace ST
open PySem PySem.W PyProof.Rows
structure Lt (N:Nat) (lt:Nat -> Nat -> Bool) : Prop where
  irr:∀ i, lt i i = false
  tr:∀ i j k, lt i j = true -> lt j k = true -> lt i k = true
  tot:∀ i j, i < N -> j < N -> i ≠ j -> lt i j = true \/ lt j i = true
abbrev Cmp := Nat -> Nat -> (Bool -> Shared -> Prop) -> Shared -> Prop
def Ans (N:Nat) (lt:Nat -> Nat -> Bool) (cmp:Cmp) (s:Shared) : Prop := ∀ i j C, i < N -> j < N -> C (lt i j) s -> cmp i j C s
def Pm (N:Nat) (p:Array Nat) : Prop := p.toList.Perm (List.range N)
def at0 (p:Array Nat) (i:Nat) : Nat := p.getD i 0
section
variable {N:Nat} {lt:Nat -> Nat -> Bool} {cmp:Cmp} {s:Shared} {p:Array Nat}
theorem Pm.size (h:Pm N p) : p.size = N := by have := h.length_eq; simpa using this
theorem Pm.perm {p':Array Nat} (h:Pm N p) (q:p'.Perm p) : Pm N p' := (Array.perm_iff_toList_perm.mp q).trans h
theorem at_get {i:Nat} (hi:i < p.size) : p[i]? = some (at0 p i) := by unfold at0; simp [Array.getD, hi]
theorem at_of {p':Array Nat} {i k:Nat} (h:p'[i]? = p[k]?) : at0 p' i = at0 p k := by
  unfold at0
  rw [Array.getD_eq_getD_getElem?, Array.getD_eq_getD_getElem?, h]
theorem Pm.bd (h:Pm N p) {i:Nat} (hi:i < N) : at0 p i < N := by
  have hi':i < p.size := by rw [h.size]; exact hi
  have:at0 p i ∈ p.toList := List.mem_iff_getElem?.mpr ⟨i, by rw [Array.getElem?_toList]; exact at_get hi'⟩
  exact List.mem_range.mp (h.mem_iff.mp this)
theorem Pm.ne (h:Pm N p) {i j:Nat} (hi:i < N) (hj:j < N) (e:i ≠ j) : at0 p i ≠ at0 p j := by
  have nd:p.toList.Nodup := h.nodup_iff.mpr List.nodup_range
  have hi':i < p.size := by rw [h.size]; exact hi
  have hj':j < p.size := by rw [h.size]; exact hj
  have gi:p.toList[i]'(by simpa using hi') = at0 p i := by simp [at0, Array.getD, hi']
  have gj:p.toList[j]'(by simpa using hj') = at0 p j := by simp [at0, Array.getD, hj']
  intro z
  rcases Nat.lt_or_gt_of_ne e with q | q
  · exact List.pairwise_iff_getElem.mp nd i j (by simpa using hi') (by simpa using hj') q (by rw [gi, gj]; exact z)
  · exact List.pairwise_iff_getElem.mp nd j i (by simpa using hj') (by simpa using hi') q (by rw [gi, gj]; exact z.symm)
def So (lt:Nat -> Nat -> Bool) (p:Array Nat) (k:Nat) : Prop := ∀ a b, a < b -> b < k -> lt (at0 p a) (at0 p b) = true
def De (lt:Nat -> Nat -> Bool) (p:Array Nat) (k:Nat) : Prop := ∀ a b, a < b -> b < k -> lt (at0 p b) (at0 p a) = true
theorem Lt.of_not (o:Lt N lt) {i j:Nat} (hi:i < N) (hj:j < N) (e:i ≠ j) (h:lt i j = false) : lt j i = true := by
  rcases o.tot i j hi hj e with z | z
  · rw [h] at z; cases z
  · exact z
theorem So.snoc (o:Lt N lt) {k:Nat} (h:So lt p k) (hk:1 <= k) (l:lt (at0 p (k - 1)) (at0 p k) = true) : So lt p (k + 1) := by
  intro a b hab hb
  by_cases e:b = k
  · subst e
    by_cases e2:a = b - 1
    · rw [e2]; exact l
    · exact o.tr _ _ _ (h a (b - 1) (by omega) (by omega)) l
  · exact h a b hab (by omega)
theorem De.snoc (o:Lt N lt) {k:Nat} (h:De lt p k) (hk:1 <= k) (l:lt (at0 p k) (at0 p (k - 1)) = true) : De lt p (k + 1) := by
  intro a b hab hb
  by_cases e:b = k
  · subst e
    by_cases e2:a = b - 1
    · rw [e2]; exact l
    · exact o.tr _ _ _ l (h a (b - 1) (by omega) (by omega))
  · exact h a b hab (by omega)
theorem wp_asc (o:Lt N lt) (an:Ans N lt cmp s) (pm:Pm N p) : ∀ (f n:Nat) {Q:Nat -> Shared -> Prop}, 1 <= n -> n + f = N -> So lt p n ->
    (∀ m, n <= m -> m <= N -> So lt p m -> (m < N -> lt (at0 p m) (at0 p (m - 1)) = true) -> Q m s) -> (kas_asc p f n).kasWp cmp Q s
  | 0, n, Q, h1, h2, h3, k => k n (Nat.le_refl _) (by omega) h3 fun z => by omega
  | f + 1, n, Q, h1, h2, h3, k => by
    refine an _ _ _ (pm.bd (by omega)) (pm.bd (by omega)) ?_
    show KasT.kasWp cmp (if lt (at0 p n) (at0 p (n - 1)) = true then .ret n else kas_asc p f (n + 1)) Q s
    by_cases c:lt (at0 p n) (at0 p (n - 1)) = true
    · rw [if_pos c]
      exact k n (Nat.le_refl _) (by omega) h3 fun _ => c
    · rw [if_neg c]
      have c:lt (at0 p n) (at0 p (n - 1)) = false := by simpa using c
      exact wp_asc o an pm f (n + 1) (by omega) (by omega) (h3.snoc o h1 (o.of_not (pm.bd (by omega)) (pm.bd (by omega)) (pm.ne (by omega) (by omega) (by omega)) c)) fun m a b c d => k m (by omega) b c d
theorem wp_desc (o:Lt N lt) (an:Ans N lt cmp s) (pm:Pm N p) : ∀ (f n:Nat) {Q:Array Nat × Nat × Nat -> Shared -> Prop}, 1 <= n -> n + f = N -> De lt p n ->
    (∀ m, n <= m -> m <= N -> De lt p m -> Q (p, m, 0) s) -> (kas_desc f p n 0).kasWp cmp Q s
  | 0, n, Q, h1, h2, h3, k => k n (Nat.le_refl _) (by omega) h3
  | f + 1, n, Q, h1, h2, h3, k => by
    refine an _ _ _ (pm.bd (by omega)) (pm.bd (by omega)) ?_
    show KasT.kasWp cmp (if lt (at0 p n) (at0 p (n - 1)) = true then (if 0 > 0 then kas_desc f (kas_rev p (n - (0 + 1)) n) (n + 1) 0 else kas_desc f p (n + 1) 0)
      else .ask (at0 p (n - 1)) (at0 p n) fun d => if d = true then .ret (p, n, 0) else kas_desc f p (n + 1) (0 + 1)) Q s
    by_cases c:lt (at0 p n) (at0 p (n - 1)) = true
    · rw [if_pos c, if_neg (by omega)]
      exact wp_desc o an pm f (n + 1) (by omega) (by omega) (h3.snoc o h1 c) fun m a b c => k m (by omega) b c
    · rw [if_neg c]
      have c:lt (at0 p n) (at0 p (n - 1)) = false := by simpa using c
      refine an _ _ _ (pm.bd (by omega)) (pm.bd (by omega)) ?_
      rw [o.of_not (pm.bd (by omega)) (pm.bd (by omega)) (pm.ne (by omega) (by omega) (by omega)) c]
      show KasT.kasWp cmp (if true = true then _ else _) Q s
      rw [if_pos rfl]
      exact k n (Nat.le_refl _) (by omega) h3
theorem rev_at (n:Nat) (hn:n <= p.size) (k:Nat) : at0 (kas_rev p 0 n) k = if k < n then at0 p (n - 1 - k) else at0 p k := by
  have e := getElem?_mirror_all (xs := p) (i := 0) hn k
  unfold kas_rev
  by_cases h:k < n
  · rw [if_pos h]
    rw [if_pos ⟨Nat.zero_le _, h⟩, Nat.zero_add] at e
    exact at_of e
  · rw [if_neg h]
    rw [if_neg (by omega)] at e
    exact at_of e
theorem wp_tail3 (o:Lt N lt) (an:Ans N lt cmp s) (pm:Pm N p) {n:Nat} {Q:Nat × Array Nat -> Shared -> Prop} (h1:1 <= n) (hn:n <= N) (hd:De lt p n)
    (k:∀ m p', 1 <= m -> m <= N -> Pm N p' -> So lt p' m -> Q (m, p') s) : (kas_tail3 n N p).kasWp cmp Q s := by
  unfold kas_tail3
  rw [KasT.kasWp_bind]
  have pm':Pm N (kas_rev p 0 n) := pm.perm (mirror_perm _ _ _ _)
  refine wp_asc o an pm' (N - n) n h1 (by omega) ?_ fun m a b c _ => k m _ (by omega) b pm' c
  intro a b hab hb
  rw [rev_at n (by rw [pm.size]; exact hn), rev_at n (by rw [pm.size]; exact hn), if_pos (by omega), if_pos hb]
  exact hd _ _ (by omega) (by omega)
theorem wp_count (o:Lt N lt) (an:Ans N lt cmp s) (pm:Pm N p) {Q:Nat × Array Nat -> Shared -> Prop} (h2:2 <= N)
    (k:∀ m p', 1 <= m -> m <= N -> Pm N p' -> So lt p' m -> Q (m, p') s) : (kas_count N p).kasWp cmp Q s := by
  unfold kas_count
  rw [KasT.kasWp_bind]
  refine wp_asc o an pm (N - 1) 1 (Nat.le_refl _) (by omega) (fun a b hab hb => by omega) fun m a b c d => ?_
  by_cases e:m = N
  · rw [if_pos (by simpa using e)]
    exact k m p a b pm c
  · rw [if_neg (by simpa using e)]
    by_cases hm:m > 1
    · rw [if_pos hm]
      refine an _ _ _ (pm.bd (by omega)) (pm.bd (by omega)) ?_
      have:lt (at0 p 0) (at0 p (m - 1)) = true := c 0 (m - 1) (by omega) (by omega)
      show KasT.kasWp cmp (if lt (at0 p 0) (at0 p (m - 1)) = true then _ else _) Q s
      rw [if_pos this]
      exact k m p a b pm c
    · rw [if_neg hm]
      have hm1:m = 1 := by omega
      subst hm1
      unfold kas_descPart
      rw [KasT.kasWp_bind]
      have l := d (by omega)
      refine wp_desc o an pm (N - (1 + 1)) (1 + 1) (by omega) (by omega) (fun a b hab hb => ?_) fun m' a' b' c' => ?_
      · have:a = 0 := by omega
        have:b = 1 := by omega
        subst_vars
        exact l
      · show KasT.kasWp cmp (if 0 > 0 then _ else kas_tail3 m' N p) Q s
        rw [if_neg (by omega)]
        exact wp_tail3 o an pm (by omega) b' c' k
theorem wp_place (o:Lt N lt) (an:Ans N lt cmp s) (pm:Pm N p) {i:Nat} (hi:i < N) (so:So lt p i) : ∀ (f l r:Nat) {Q:Nat -> Shared -> Prop}, l <= r -> r <= i -> r - l <= f ->
    (∀ a, a < l -> lt (at0 p a) (at0 p i) = true) -> (∀ a, r <= a -> a < i -> lt (at0 p i) (at0 p a) = true) ->
    (∀ m, m <= i -> (∀ a, a < m -> lt (at0 p a) (at0 p i) = true) -> (∀ a, m <= a -> a < i -> lt (at0 p i) (at0 p a) = true) -> Q m s) -> (kas_place p i f l r).kasWp cmp Q s
  | 0, l, r, Q, h1, h2, h3, h4, h5, k => k l (by omega) h4 fun a x y => h5 a (by omega) y
  | f + 1, l, r, Q, h1, h2, h3, h4, h5, k => by
    unfold kas_place
    by_cases c:l >= r
    · rw [if_pos c]
      exact k l (by omega) h4 fun a x y => h5 a (by omega) y
    · rw [if_neg c]
      refine an _ _ _ (pm.bd hi) (pm.bd (by omega)) ?_
      show KasT.kasWp cmp (if lt (at0 p i) (at0 p ((l + r) / 2)) = true then _ else _) Q s
      by_cases q:lt (at0 p i) (at0 p ((l + r) / 2)) = true
      · rw [if_pos q]
        refine wp_place o an pm hi so f l ((l + r) / 2) (by omega) (by omega) (by omega) h4 (fun a x y => ?_) k
        by_cases e:a = (l + r) / 2
        · rw [e]; exact q
        · exact o.tr _ _ _ q (so _ _ (by omega) y)
      · rw [if_neg q]
        have q:lt (at0 p i) (at0 p ((l + r) / 2)) = false := by simpa using q
        have q := o.of_not (pm.bd hi) (pm.bd (by omega)) (pm.ne hi (by omega) (by omega)) q
        refine wp_place o an pm hi so f _ r (by omega) h2 (by omega) (fun a x => ?_) h5 k
        by_cases e:a = (l + r) / 2
        · rw [e]; exact q
        · exact o.tr _ _ _ (so _ _ (by omega) (by omega)) q
theorem bub_at {i l:Nat} (hi:i < p.size) (hl:l <= i) (k:Nat) : at0 (bubble p i (i - l)) k = if k = l then at0 p i else if l < k /\ k <= i then at0 p (k - 1) else at0 p k := by
  have e := getElem?_bubble hi (i - l) (by omega) k
  rw [show i - (i - l) = l by omega] at e
  by_cases h1:k = l
  · rw [if_pos h1] at e ⊢; exact at_of e
  · rw [if_neg h1] at e ⊢
    by_cases h2:l < k /\ k <= i
    · rw [if_pos h2] at e ⊢; exact at_of e
    · rw [if_neg h2] at e ⊢; exact at_of e
theorem wp_bin (o:Lt N lt) (an:Ans N lt cmp s) : ∀ (f i:Nat) (p:Array Nat) {Q:Array Nat -> Shared -> Prop}, Pm N p -> i + f = N -> So lt p i ->
    (∀ p', Pm N p' -> So lt p' N -> Q p' s) -> (kas_bin f p i).kasWp cmp Q s
  | 0, i, p, Q, pm, h, so, k => k p pm (by rw [<- h]; exact so)
  | f + 1, i, p, Q, pm, h, so, k => by
    unfold kas_bin
    rw [KasT.kasWp_bind]
    refine wp_place o an pm (by omega) so i 0 i (by omega) (Nat.le_refl _) (by omega) (fun a x => by omega) (fun a x y => by omega) fun m hm lo hi => ?_
    refine wp_bin o an f (i + 1) _ (pm.perm (bubble_perm _ _ _)) (by omega) (fun a b hab hb => ?_) k
    have hs:i < p.size := by rw [pm.size]; omega
    rw [bub_at hs hm, bub_at hs hm]
    repeat' split
    all_goals first | omega | (exact hi _ (by omega) (by omega)) | (exact lo _ (by omega)) | (exact so _ _ (by omega) (by omega))
theorem wp_sort (o:Lt N lt) (an:Ans N lt cmp s) (h2:2 <= N) {Q:Array Nat -> Shared -> Prop} (k:∀ p, Pm N p -> So lt p N -> Q p s) : (kas_sort N).kasWp cmp Q s := by
  unfold kas_sort
  rw [KasT.kasWp_bind]
  have pm:Pm N (List.toArray (List.range N)) := by unfold Pm; simp
  refine wp_count o an pm h2 fun m p' a b c d => ?_
  show KasT.kasWp cmp (if m < N then kas_bin (N - max m 1) p' (max m 1) else .ret p') Q s
  by_cases e:m < N
  · rw [if_pos e]
    have:max m 1 = m := by omega
    rw [this]
    exact wp_bin o an (N - m) m p' c (by omega) d k
  · rw [if_neg e]
    have:m = N := by omega
    subst this
    exact k p' c d
end
end ST
namespace L2
open PySem PySem.Spec PySem.Calls PyProof.Rows ST
abbrev iK (ns:List Int) : List Key := ns.map Sum.inl
section
variable {prog:Program} {w:World} {A:Around} {E:Value -> Shared -> Prop} {s:Shared}
theorem mix_int {i:Int} {v:Value} (h:(mixKind prog w).is (.inl i) v = true) : ∃ t, v = .int i t := by
  rcases keyIs_shape (show keyIs (.inl i) v = true from h) with ⟨j, t, e, rfl⟩ | ⟨x, t, e, _⟩
  · cases e; exact ⟨t, rfl⟩
  · cases e
theorem items_int:∀ {ns:List Int} {vs:List Value}, ItemsAre (mixKind prog w) (iK ns) vs -> ∀ v ∈ vs, ∃ i t, v = .int i t
  | [], _, h, v, hv => by cases h; simp at hv
  | n :: ns, _, h, v, hv => by
    cases h with
    | cons h1 h2 =>
      rcases List.mem_cons.mp hv with rfl | hv
      · obtain ⟨t, rfl⟩ := mix_int h1; exact ⟨n, t, rfl⟩
      · exact items_int h2 v hv
theorem hashBV {ns:List Int} {b:Addr} {Q:Bool -> Shared -> Prop} (hk:(tK prog w).is s.heap (iK ns) b) (h:Q true s) : wpAny (model prog w) A (hashByValue 8 (.ref b)) Q E s := by
  have hT := IsTupleKey.typeIs hk
  obtain ⟨o, items, n, ho, _, hd, hi⟩ := hk
  unfold hashByValue
  refine wpAny_bind (wpAny_specialOf hT PySem.F.slot_tuple_hash.lookup ?_)
  dsimp only
  refine wpAny_bind (wpAny_seqItems ho hd ?_)
  refine wpAny_bind ?_
  show wpAny _ _ (forIn items _ _) _ _ s
  rw [<- Array.forIn_toList]
  refine wpAny_forIn_list _ (fun rest r s' => r.1 = none /\ s' = s /\ ∀ v ∈ rest, ∃ i t, v = Value.int i t) _ ?_ ?_ _ _ ⟨rfl, rfl, items_int hi⟩
  · rintro v rest r s' ⟨hr, rfl, hall⟩
    obtain ⟨i, t, rfl⟩ := hall v List.mem_cons_self
    refine wpAny_bind (wpAny_pure ?_)
    simp only [Bool.not_true, Bool.false_eq_true, if_false]
    exact wpAny_pure ⟨rfl, rfl, fun u hu' => hall u (List.mem_cons_of_mem _ hu')⟩
  · rintro ⟨r1, r2⟩ s' ⟨hr, rfl, _⟩
    simp only at hr
    subst hr
    exact wpAny_pure h
theorem notClass {ns:List Int} {b:Addr} {Q:Bool -> Shared -> Prop} (hk:(tK prog w).is s.heap (iK ns) b) (h:Q false s) : wpAny (model prog w) A (ofAClassStatement 8 (.ref b)) Q E s := by
  have hT := IsTupleKey.typeIs hk
  obtain ⟨o, items, n, ho, _, hd, hi⟩ := hk
  unfold ofAClassStatement
  refine wpAny_bind (wpAny_typeOf hT ?_)
  dsimp only
  rw [if_pos (by decide)]
  refine wpAny_bind (wpAny_pure ?_)
  simp only [Bool.not_true, Bool.false_eq_true, if_false]
  refine wpAny_bind (wpAny_seqItems ho hd ?_)
  refine wpAny_bind ?_
  show wpAny _ _ (forIn items _ _) _ _ s
  rw [<- Array.forIn_toList]
  refine wpAny_forIn_list _ (fun rest r s' => r.1 = none /\ s' = s /\ ∀ v ∈ rest, ∃ i t, v = Value.int i t) _ ?_ ?_ _ _ ⟨rfl, rfl, items_int hi⟩
  · rintro v rest r s' ⟨hr, rfl, hall⟩
    obtain ⟨i, t, rfl⟩ := hall v List.mem_cons_self
    refine wpAny_bind (wpAny_pure ?_)
    simp only [Bool.false_eq_true, if_false]
    exact wpAny_pure ⟨rfl, rfl, fun u hu' => hall u (List.mem_cons_of_mem _ hu')⟩
  · rintro ⟨r1, r2⟩ s' ⟨hr, rfl, _⟩
    simp only at hr
    subst hr
    exact wpAny_pure h
theorem unseen {ns:List Int} {b:Addr} {ys:List Value} {Q:Bool -> Shared -> Prop} (hk:(tK prog w).is s.heap (iK ns) b) (hy:∀ y ∈ ys, ∃ ms c, y = .ref c /\ (tK prog w).is s.heap (iK ms) c) (h:Q false s) : wpAny (model prog w) A (searchCouldBeSeen (.ref b) ys) Q E s := by
  unfold searchCouldBeSeen
  refine wpAny_bind ?_
  refine wpAny_forIn_list _ (fun rest r s' => r.1 = none /\ s' = s /\ ∀ y ∈ rest, ∃ ms c, y = .ref c /\ (tK prog w).is s.heap (iK ms) c) _ ?_ ?_ _ _ ⟨rfl, rfl, hy⟩
  · rintro v rest r s' ⟨hr, rfl, hall⟩
    obtain ⟨ms, c, rfl, hc⟩ := hall v List.mem_cons_self
    have fin:∀ u ∈ rest, ∃ ms c, u = Value.ref c /\ (tK prog w).is s'.heap (iK ms) c := fun u hu' => hall u (List.mem_cons_of_mem _ hu')
    dsimp only
    split
    · exact wpAny_pure ⟨rfl, rfl, fin⟩
    · refine wpAny_bind ((tK prog w).quiet hk ?_)
      simp only [Bool.not_true, Bool.false_eq_true, if_false]
      refine wpAny_bind ((tK prog w).quiet hc ?_)
      simp only [Bool.not_true, Bool.false_eq_true, if_false]
      refine wpAny_bind (notClass hk ?_)
      simp only [Bool.false_eq_true, if_false]
      refine wpAny_bind (notClass hc ?_)
      simp only [Bool.false_eq_true, if_false]
      exact wpAny_pure ⟨rfl, rfl, fin⟩
  · rintro ⟨r1, r2⟩ s' ⟨hr, rfl, _⟩
    simp only at hr
    subst hr
    exact wpAny_pure h
end
end L2
namespace L2
open PySem PySem.Spec PySem.Calls PyProof.Rows ST
section
variable {prog:Program} {w:World} {A:Around} {E:Value -> Shared -> Prop} {s:Shared}
def Els (prog:Program) (w:World) (h:Heap) (es:Array (Int × Value)) : Prop := ∀ e ∈ es.toList, ∃ ms c, e = ((tK prog w).hash (iK ms), Value.ref c) /\ (tK prog w).is h (iK ms) c
theorem msk_odd {m:Nat} (h:Msk m) : (m % 2 == 0) = false := by rcases h with rfl | rfl | rfl <;> rfl
theorem Tbl.fits {t:SetTable} {es:Array (Int × Value)} (T:Tbl t es) (hs:t.place.size <= t.mask) : t.fits es.size = true := by
  unfold SetTable.fits SetTable.fill
  rw [T.tb.dum]
  simp [T.len] at hs ⊢
  exact hs
theorem mem_at {α:Type} {es:Array α} {i:Nat} {e:α} (h:es[i]? = some e) : e ∈ es.toList := List.mem_iff_getElem?.mpr ⟨i, by rw [Array.getElem?_toList]; exact h⟩
theorem wp_search {a b:Addr} {o:Obj} {es:Array (Int × Value)} {ep:Nat} {t:SetTable} {ns:List Int} {Q:SetFound -> Shared -> Prop} (ho:s.heap.get? a = some o) (hd:o.data = .set es ep t) (T:Tbl t es) (hs:t.place.size <= t.mask)
    (hu:A.units < cLine) (hk:(tK prog w).is s.heap (iK ns) b) (el:Els prog w s.heap es)
    (h1:(∃ e ∈ es.toList, ∃ c, e.2 = .ref c /\ (tK prog w).is s.heap (iK ns) c) -> Q (.there none) s)
    (h2:(∀ e ∈ es.toList, ∀ c, e.2 = .ref c -> ¬ (tK prog w).is s.heap (iK ns) c) -> ∀ j, j ∉ t.place.toList -> j <= t.mask -> Rea t.mask (· ∈ t.place.toList) ((tK prog w).hash (iK ns)) j -> Q (.free j false) s) :
    ∀ (fuel n:Nat) (stand:Option SetTable.Probe), stand.getD (t.probeStart ((tK prog w).hash (iK ns))) = it t.mask n (st t.mask ((tK prog w).hash (iK ns))) ->
      (∀ k, k < n -> ∃ i e, ∃ hi:i < t.place.size, t.place[i] = (it t.mask k (st t.mask ((tK prog w).hash (iK ns)))).j /\ es[i]? = some e /\ ∀ c, e.2 = .ref c -> ¬ (tK prog w).is s.heap (iK ns) c) ->
      (∃ N, n <= N /\ N < n + fuel /\ (it t.mask N (st t.mask ((tK prog w).hash (iK ns)))).j ∉ t.place.toList) ->
      wpAny (model prog w) A (setSearchFrom a (.ref b) ((tK prog w).hash (iK ns)) true fuel stand) Q E s
  | 0, n, stand, _, _, ⟨N, x1, x2, _⟩ => by omega
  | fuel + 1, n, stand, e1, e2, ⟨N, x1, x2, x3⟩ => by
    have v0:Va t.mask (it t.mask n (st t.mask ((tK prog w).hash (iK ns)))) := (Va.st _ _).it
    have sp := probe_spec T.tb hs (fun i => (es[i]?.map (·.1)).getD 0) ((tK prog w).hash (iK ns)) v0
    have at_:∀ i, i < t.place.size -> ∃ e, es[i]? = some e := fun i hi => ⟨es[i]'(by rw [<- T.len]; exact hi), by simp [T.len ▸ hi]⟩
    unfold setSearchFrom
    refine wpAny_bind (wpAny_setState_of ho hd (Tbl.fits T hs) ?_)
    dsimp only
    have hg:t.gaveWay = false := msk_odd T.tb.msk
    rw [hg]
    simp only [Bool.false_eq_true, if_false]
    rw [e1]
    have pre:∀ {nn:Nat}, (∀ k, k < nn -> ∃ i, ∃ hi:i < t.place.size, t.place[i] = (it t.mask k (it t.mask n (st t.mask ((tK prog w).hash (iK ns))))).j /\ (es[i]?.map (·.1)).getD 0 ≠ (tK prog w).hash (iK ns)) ->
        ∀ k, k < n + nn -> ∃ i e, ∃ hi:i < t.place.size, t.place[i] = (it t.mask k (st t.mask ((tK prog w).hash (iK ns)))).j /\ es[i]? = some e /\ ∀ c, e.2 = .ref c -> ¬ (tK prog w).is s.heap (iK ns) c := by
      intro nn hb k hk'
      by_cases hkn:k < n
      · exact e2 k hkn
      · obtain ⟨i, hi, q1, q2⟩ := hb (k - n) (by omega)
        obtain ⟨e, he⟩ := at_ i hi
        refine ⟨i, e, hi, ?_, he, fun c hc his => q2 ?_⟩
        · rw [q1, <- it_add, show n + (k - n) = k by omega]
        · obtain ⟨ms, c', rfl, his'⟩ := el e (mem_at he)
          have hc':c' = c := by injection hc
          subst hc'
          rw [he]
          show (tK prog w).hash (iK ms) = _
          rw [(tK prog w).inj his' his]
    generalize hq0:t.probe _ _ (it t.mask n (st t.mask ((tK prog w).hash (iK ns)))) = pr
    have hpr:t.probe (fun i => (es[i]?.map (·.1)).getD 0) ((tK prog w).hash (iK ns)) (it t.mask n (st t.mask ((tK prog w).hash (iK ns)))) = pr := hq0
    rw [hpr] at sp
    clear hpr hq0
    cases sp with
    | em nn hem hb =>
      dsimp only
      refine wpAny_pure (h2 ?_ _ hem (v0.it).jle ?_)
      · intro e he c hc his
        obtain ⟨i, hi⟩ := List.mem_iff_getElem?.mp he
        rw [Array.getElem?_toList] at hi
        have hil:i < t.place.size := by rw [T.len]; exact (Array.getElem?_eq_some_iff.mp hi).1
        obtain ⟨ms, c', rfl, his'⟩ := el e he
        have hc':c' = c := by injection hc
        subst hc'
        have ek := (tK prog w).inj his' his
        have hz:(t.place[i], ((tK prog w).hash (iK ms), Value.ref c')) ∈ t.place.toList.zip es.toList := List.mem_iff_getElem?.mpr ⟨i, by rw [List.getElem?_zip_eq_some]; exact ⟨by simp [hil], by rw [Array.getElem?_toList]; exact hi⟩⟩
        obtain ⟨m, em, eb⟩ := T.rea _ hz
        have em:(it t.mask m (st t.mask ((tK prog w).hash (iK ms)))).j = t.place[i] := em
        rw [ek] at em eb
        have hm:m < n + nn := by
          rcases Nat.lt_trichotomy m (n + nn) with q | q | q
          · exact q
          · exfalso
            refine hem ?_
            show (it t.mask nn (it t.mask n _)).j ∈ t.place.toList
            rw [<- it_add, <- q, em]; simp
          · exfalso
            refine hem ?_
            show (it t.mask nn (it t.mask n _)).j ∈ t.place.toList
            rw [<- it_add]; exact eb _ q
        obtain ⟨i', e', hi', q1, q2, q3⟩ := pre hb m hm
        have hii:i' = i := by
          have:t.place[i'] = t.place[i] := q1.trans em
          rcases Nat.lt_trichotomy i' i with q | q | q
          · have := List.pairwise_iff_getElem.mp T.tb.ris i' i (by simpa using hi') (by simpa using hil) q
            simp at this; omega
          · exact q
          · have := List.pairwise_iff_getElem.mp T.tb.ris i i' (by simpa using hil) (by simpa using hi') q
            simp at this; omega
        subst hii
        rw [hi] at q2; cases q2
        exact q3 c' rfl his
      · refine ⟨n + nn, by rw [it_add], fun k hk' => ?_⟩
        obtain ⟨i, e, hi, q1, _⟩ := pre hb k hk'
        show _ ∈ t.place.toList
        rw [<- q1]; simp
    | ca nn i hi hij hq hb =>
      dsimp only
      obtain ⟨e, he⟩ := at_ i hi
      obtain ⟨ms, c, rfl, his⟩ := el e (mem_at he)
      have rest:wpAny (model prog w) A (do
          let some (_, y) := es[i]? | unsupported "internal:set-entry"
          let equal <- holding [y] (eqBool y (.ref b))
          let (es', _, t') <- setState a
          if true && equal then return SetFound.there none
          let some same := t'.sameMemory t.moves t.mask | unsupported "set.changed-during-lookup:is-the-new-block-at-the-old-address"
          let still <- match (if same then t'.slot (it t.mask nn (it t.mask n (st t.mask ((tK prog w).hash (iK ns))))).j else .empty) with
            | .live i' => match es'[i']? with
              | some (_, y') => do pure (if <- isSame y' y then some i' else none)
              | none => pure none
            | _ => pure none
          match still with
          | none => rule "set.search.anew"; setSearchFrom a (.ref b) ((tK prog w).hash (iK ns)) true fuel none
          | some i' => if equal then return .there (some i') else setSearchFrom a (.ref b) ((tK prog w).hash (iK ns)) true fuel (some (it t.mask (nn + 1) (it t.mask n (st t.mask ((tK prog w).hash (iK ns))))))) Q E s := by
        rw [he]
        dsimp only
        refine wpAny_bind (wpAny_holding ((tK prog w).eqBool hu his hk ?_))
        refine wpAny_bind (wpAny_setState_of ho hd (Tbl.fits T hs) ?_)
        dsimp only
        by_cases hkk:iK ms = iK ns
        · rw [decide_eq_true hkk]
          simp only [Bool.and_self, if_true]
          exact wpAny_pure (h1 ⟨_, mem_at he, c, rfl, by rw [<- hkk]; exact his⟩)
        · rw [decide_eq_false hkk]
          simp only [Bool.and_false, Bool.false_eq_true, if_false]
          have hsm:t.sameMemory t.moves t.mask = some true := by unfold SetTable.sameMemory; simp
          rw [hsm]
          dsimp only
          rw [if_pos rfl, <- hij, slot_live T.tb hi]
          dsimp only
          rw [he]
          dsimp only
          refine wpAny_bind (wpAny_isSame_ref_self ?_)
          refine wpAny_bind (wpAny_pure ?_)
          rw [if_pos rfl]
          try dsimp only
          refine wp_search ho hd T hs hu hk el h1 h2 fuel (n + (nn + 1)) _ ?_ ?_ ⟨N, ?_, ?_, x3⟩
          · exact (it_add t.mask n (nn + 1) _).symm
          · intro k hk'
            by_cases hkn:k < n + nn
            · exact pre hb k hkn
            · have:k = n + nn := by omega
              subst this
              refine ⟨i, _, hi, by rw [hij, it_add], he, fun c' hc' hh => hkk ?_⟩
              have:c = c' := by injection hc'
              subst this
              exact (tK prog w).inj his hh
          · refine Classical.byContradiction fun hc => ?_
            have hN:N < n + (nn + 1) := by omega
            by_cases hNn:N < n + nn
            · obtain ⟨i', e', hi', q1, _⟩ := pre hb N hNn
              exact x3 (by rw [<- q1]; simp)
            · have:N = n + nn := by omega
              subst this
              exact x3 (by rw [it_add, <- hij]; simp)
          · omega
      split
      · refine wpAny_bind (unseen hk ?_ ?_)
        · intro y hy
          obtain ⟨e', he', rfl⟩ := List.mem_map.mp hy
          have he2:e' ∈ es.toList := by
            have := (Array.mem_toList_iff).mp he'
            rw [Array.mem_filter] at this
            exact Array.mem_toList_iff.mpr this.1
          obtain ⟨ms', c', rfl, his'⟩ := el e' he2
          exact ⟨ms', c', rfl, his'⟩
        · simp only [Bool.false_eq_true, if_false]
          exact rest
      · exact rest
end
end L2
namespace L2
open PySem PySem.Spec PySem.Calls PyProof.Rows ST
def byT (w : World) : Bool := w.params.followText "set-order"
def SetAt (w:World) (h:Heap) (a:Addr) (es:Array (Int × Value)) : Prop := ∃ o ep t, h.get? a = some o /\ o.ExactSet /\ o.data = .set es ep t /\ Tbl t es /\ Spare t /\ t.plain = true /\ t.led = !byT w
theorem SetAt.keep {w:World} {h h':Heap} {a:Addr} {es:Array (Int × Value)} (x:SetAt w h a es) (k:∀ o, h.get? a = some o -> h'.get? a = some o) : SetAt w h' a es := let ⟨o, ep, t, e, r⟩ := x; ⟨o, ep, t, k o e, r⟩
theorem spare_le {t:SetTable} (h:Spare t) : t.place.size <= t.mask := by unfold Spare at h; omega
section
variable {prog:Program} {w:World} {A:Around} {E:Value -> Shared -> Prop} {s:Shared}
structure Grown (es es':Array (Int × Value)) (x:Int × Value) : Prop where
  mem:∀ y, y ∈ es'.toList ↔ y = x \/ y ∈ es.toList
  pw:∀ R:Int × Value -> Int × Value -> Prop, (∀ x y, R x y -> R y x) -> es.toList.Pairwise R -> (∀ e ∈ es.toList, R e x) -> es'.toList.Pairwise R
  size:es'.size = es.size + 1
theorem grown_ins (es:Array (Int × Value)) (p:Nat) (x:Int × Value) (hp:p <= es.size) : Grown es (SetTable.insertAt es p x) x := by
  have e := ST.insertAt_toList es p x hp
  refine ⟨fun y => ?_, fun R sy pw hx => ?_, ST.insertAt_size es p x hp⟩
  · rw [e, List.mem_append, List.mem_cons]
    constructor
    · rintro (z | rfl | z)
      · exact .inr (List.mem_of_mem_take z)
      · exact .inl rfl
      · exact .inr (List.mem_of_mem_drop z)
    · rintro (rfl | z)
      · exact .inr (.inl rfl)
      · rw [<- List.take_append_drop p es.toList, List.mem_append] at z
        exact z.elim .inl fun z => .inr (.inr z)
  · rw [e, List.pairwise_append]
    rw [<- List.take_append_drop p es.toList, List.pairwise_append] at pw
    obtain ⟨p1, p2, p3⟩ := pw
    refine ⟨p1, ?_, ?_⟩
    · rw [List.pairwise_cons]
      exact ⟨fun y hy => sy _ _ (hx y (List.mem_of_mem_drop hy)), p2⟩
    · intro y hy z hz
      rcases List.mem_cons.mp hz with rfl | hz
      · exact hx y (List.mem_of_mem_take hy)
      · exact p3 y hy z hz
theorem Grown.laid {es es1 es2:Array (Int × Value)} {x:Int × Value} {m:Nat} {t:SetTable} (g:Grown es es1 x) (l:Laid m es1 es2 t) : Grown es es2 x :=
  ⟨fun y => (l.mem y).trans (g.mem y), fun R sy pw hx => l.pw R sy (g.pw R sy pw hx), by rw [l.size, g.size]⟩
theorem put_state {a:Addr} {o:Obj} {es:Array (Int × Value)} {ep:Nat} {t:SetTable} (es':Array (Int × Value)) (t':SetTable) {h:Heap} (ho:h.get? a = some o) (hex:o.ExactSet) (hd:o.data = .set es ep t) :
    ∃ o', (h.update a (Obj.putSet es' t')).get? a = some o' /\ o'.ExactSet /\ o'.data = .set es' (ep + 1) t' := by
  have := Heap.get?_update_self (Obj.putSet es' t') ho (by rw [putSet_of es' t' hd]; rfl)
  rw [putSet_of es' t' hd] at this
  exact ⟨_, this, hex, rfl⟩
theorem relay_mask {t:SetTable} {n:Nat} (h:Msk t.mask) (h1:n * 5 < t.mask * 3) (h2:(n + 1) * 5 >= t.mask * 3) (h3:n + 1 <= 63) : ∃ m, SetTable.sizeAbove (SetTable.grown (n + 1)) = m + 1 /\ Msk m /\ (n + 1) * 5 < m * 3 := by
  rcases h with e | e | e <;> rw [e] at h1 h2
  · have:n = 4 := by omega
    subst this
    exact ⟨31, by decide, .inr (.inl rfl), by omega⟩
  · have:n = 18 := by omega
    subst this
    exact ⟨127, by decide, .inr (.inr rfl), by omega⟩
  · omega
theorem wp_relay {a:Addr} {o:Obj} {es:Array (Int × Value)} {ep:Nat} {t:SetTable} {n m:Nat} {Q:Unit -> Shared -> Prop} (ho:s.heap.get? a = some o) (hex:o.ExactSet) (hd:o.data = .set es ep t) (hf:t.fits es.size = true) (hm:Msk m) (hn:SetTable.sizeAbove n = m + 1) (hl:es.size * 5 < m * 3) (hpl:t.plain = true) (hle:t.led = !byT w)
    (h:∀ es' t', Laid m es es' t' -> SetAt w (s.heap.update a (Obj.putSet es' t')) a es' -> Q () { s with heap := s.heap.update a (Obj.putSet es' t') }) : wpAny (model prog w) A (setRelay a n) Q E s := by
  have hmb:m <= 127 := by rcases hm with rfl | rfl | rfl <;> omega
  unfold setRelay
  refine wpAny_bind (wpAny_setState_of ho hd hf ?_)
  dsimp only
  rw [if_neg (by rw [hn, sizeLine_eq]; omega)]
  obtain ⟨t', order, e, L, hlp, hp⟩ := laid_ok hm es (by omega) t.finger (t.movedTo m) t.led t.plain
  have er:t.relaid (es.map (·.1)) n = some (t', order) := by
    unfold SetTable.relaid
    rw [hn]
    exact e
  rw [er]
  show wpAny _ _ (do
    let r <- (do
      if (order.filterMap (es[·]?)).size != es.size then unsupported "internal:set-table-lost-an-element"
      pure (order.filterMap (es[·]?), t') : Sem (Array (Int × Value) × SetTable))
    storeSet a r.1 r.2) _ _ _
  refine wpAny_bind ?_
  rw [if_neg (by rw [L.size]; simp)]
  refine wpAny_pure ?_
  refine wpAny_storeSet_of ho hd ?_ (by show (order.filterMap (es[·]?)).size <= _; rw [L.size, sizeLine_eq]; omega)
  obtain ⟨o', g1, g2, g3⟩ := put_state (order.filterMap (es[·]?)) t' ho hex hd
  refine h _ t' L ⟨o', _, t', g1, g2, g3, L.tbl, ?_, by rw [hp]; exact hpl, by rw [hlp]; exact hle⟩
  unfold Spare
  rw [L.tbl.len, L.size, L.mask]
  exact hl
end
end L2
namespace L2
open PySem PySem.Spec PySem.Calls PyProof.Rows ST
section
variable {prog:Program} {w:World} {A:Around} {E:Value -> Shared -> Prop} {s:Shared}
theorem some_far {t:SetTable} {es:Array (Int × Value)} (T:Tbl t es) (hs:t.place.size <= t.mask) (h:Int) : ∃ N, N < 100000 /\ (it t.mask N (st t.mask h)).j ∉ t.place.toList := by
  obtain ⟨j, hj, hn⟩ := some_empty T.tb hs
  obtain ⟨N, h1, h2⟩ := cover T.tb.msk hj (Va.st t.mask h)
  refine ⟨N, ?_, by rw [h2]; exact hn⟩
  have:t.mask <= 127 := by rcases T.tb.msk with e | e | e <;> rw [e] <;> omega
  unfold SetTable.turns at h1
  omega
theorem wp_add {a b:Addr} {es:Array (Int × Value)} {ns:List Int} {Q:Bool -> Shared -> Prop} (hu:A.units < cLine) (hk:(tK prog w).is s.heap (iK ns) b) (hS:SetAt w s.heap a es) (el:Els prog w s.heap es) (hz:es.size + 1 <= 63)
    (h1:∀ tk, s.toks <= tk -> (∃ e ∈ es.toList, ∃ c, e.2 = .ref c /\ (tK prog w).is s.heap (iK ns) c) -> Q false { s with toks := tk })
    (h2:∀ tk h' es', s.toks <= tk -> (∀ e ∈ es.toList, ∀ c, e.2 = .ref c -> ¬ (tK prog w).is s.heap (iK ns) c) -> Heap.SameBut a s.heap h' -> SetAt w h' a es' -> Grown es es' ((tK prog w).hash (iK ns), .ref b) -> Q true { s with heap := h', toks := tk }) :
    wpAny (model prog w) A (setAdd a (.ref b)) Q E s := by
  obtain ⟨o, ep, t, ho, hex, hd, T, sp, hpl, hle⟩ := hS
  have hf := Tbl.fits T (spare_le sp)
  unfold setAdd
  refine wpAny_holding ?_
  refine wpAny_bind ((tK prog w).pyHash hu hk ?_)
  have htk:s.toks <= s.toks + (tK prog w).draws (iK ns) := Nat.le_add_right _ _
  generalize s.toks + (tK prog w).draws (iK ns) = tk at htk
  unfold setAddHashed setAddHashedIn
  refine wpAny_holding ?_
  refine wpAny_bind (wpAny_setState_of (s := { s with toks := tk }) ho hd hf ?_)
  dsimp only
  have hbs:byScan (.ref b) es = false := by simp [byScan, Value.scannable]
  rw [hbs]
  simp only [Bool.false_eq_true, if_false]
  unfold setSearch
  obtain ⟨N, n1, n2⟩ := some_far T (spare_le sp) ((tK prog w).hash (iK ns))
  refine wpAny_bind (wp_search (s := { s with toks := tk }) ho hd T (spare_le sp) hu hk el (fun hin => ?_) (fun hout j hj hjm hr => ?_) 100000 0 none rfl (fun k hk' => by omega) ⟨N, Nat.zero_le _, by omega, n2⟩)
  · exact wpAny_pure (h1 tk htk hin)
  · dsimp only
    refine wpAny_bind (wpAny_setState_of (s := { s with toks := tk }) ho hd hf ?_)
    dsimp only
    obtain ⟨T', em, ez⟩ := put_ok T hj hjm (v := Value.ref b) hr
    have hpl':(t.put j).1.plain = true := by rw [put_fst T.tb]; exact hpl
    have hle':(t.put j).1.led = !byT w := by rw [put_fst T.tb]; exact hle
    rw [hpl']
    simp only [if_true]
    refine wpAny_bind (hashBV (s := { s with toks := tk }) hk ?_)
    simp only [if_true]
    have hp:(t.put j).2 <= es.size := by rw [put_snd, <- T.len]; exact (below_spec j T.tb.ris).1
    have g := grown_ins es (t.put j).2 ((tK prog w).hash (iK ns), Value.ref b) hp
    refine wpAny_bind (wpAny_storeSet_of (s := { s with toks := tk }) ho hd ?_ (by rw [g.size, sizeLine_eq]; omega))
    obtain ⟨o1, q1, q2, q3⟩ := put_state (SetTable.insertAt es (t.put j).2 ((tK prog w).hash (iK ns), Value.ref b)) (t.put j).1 ho hex hd
    have sb := Heap.SameBut.update s.heap a (Obj.putSet (SetTable.insertAt es (t.put j).2 ((tK prog w).hash (iK ns), Value.ref b)) (t.put j).1)
    have fill:(t.put j).1.fill = es.size + 1 := by
      unfold SetTable.fill
      rw [T'.tb.dum, ez, T.len]; rfl
    by_cases hfull:(t.put j).1.tooFull = true
    · rw [hfull]
      simp only [Bool.not_false, Bool.and_self, if_true]
      unfold SetTable.tooFull at hfull
      rw [fill, em] at hfull
      have hfull:(es.size + 1) * 5 >= t.mask * 3 := by simpa using hfull
      have sp':es.size * 5 < t.mask * 3 := by rw [<- T.len]; exact sp
      obtain ⟨m, m1, m2, m3⟩ := relay_mask T.tb.msk sp' hfull hz
      have le':(t.put j).1.place.size <= (t.put j).1.mask := by
        rw [ez, em]; unfold Spare at sp
        have:t.mask >= 7 := by rcases T.tb.msk with e | e | e <;> rw [e] <;> omega
        omega
      refine wpAny_bind (wp_relay (s := { s with heap := s.heap.update a (Obj.putSet (SetTable.insertAt es (t.put j).2 ((tK prog w).hash (iK ns), Value.ref b)) (t.put j).1), toks := tk }) q1 q2 q3 (Tbl.fits T' le') m2 m1 (by rw [g.size]; exact m3) hpl' hle' fun es' t' L sa => ?_)
      exact wpAny_pure (h2 tk _ es' htk hout (sb.trans (Heap.SameBut.update _ a _)) sa (g.laid L))
    · have hfull:(t.put j).1.tooFull = false := by simpa using hfull
      rw [hfull]
      simp only [Bool.and_false, Bool.false_eq_true, if_false]
      refine wpAny_pure (h2 tk _ _ htk hout sb ⟨o1, _, _, q1, q2, q3, T', ?_, hpl', hle'⟩ g)
      unfold SetTable.tooFull at hfull
      unfold Spare
      rw [fill] at hfull
      rw [ez, T.len]
      simpa using hfull
end
end L2
namespace L2
open PySem PySem.Spec PySem.Calls PyProof.Rows ST
abbrev TItem := List Int × Addr
theorem iK_inj {a b:List Int} (h:iK a = iK b) : a = b := by
  induction a generalizing b with
  | nil => cases b with
    | nil => rfl
    | cons _ _ => cases h
  | cons x a ih => cases b with
    | nil => cases h
    | cons y b =>
      simp only [iK, List.map_cons, List.cons.injEq] at h
      rw [Sum.inl.inj h.1, ih h.2]
section
variable {prog:Program} {w:World}
structure SInv (prog:Program) (w:World) (es:Array (Int × Value)) (xs:List TItem) : Prop where
  el:∀ e ∈ es.toList, ∃ x ∈ xs, e = ((tK prog w).hash (iK x.1), Value.ref x.2)
  sz:es.size <= xs.length
  pw:es.toList.Pairwise fun e e' => ∀ x x':TItem, e = ((tK prog w).hash (iK x.1), Value.ref x.2) -> e' = ((tK prog w).hash (iK x'.1), Value.ref x'.2) -> x ∈ xs -> x' ∈ xs -> x.1 ≠ x'.1
  all:∀ x ∈ xs, ∃ y ∈ xs, y.1 = x.1 /\ ((tK prog w).hash (iK y.1), Value.ref y.2) ∈ es.toList
variable {A:Around} {R:Result -> Shared -> Prop} {I:Addr} {fp wr:List Addr} {G:Array GenState -> Array GenState -> Prop} {n:Nat} {P:Nat -> Value -> Prop} {St:Nat -> Shared -> Prop}
theorem SInv.els {hb h:Heap} {es:Array (Int × Value)} {xs:List TItem} (v:SInv prog w es xs) (hx:∀ x ∈ xs, (tK prog w).is hb (iK x.1) x.2) (K:∀ b o, hb.get? b = some o -> h.get? b = some o) : Els prog w h es := fun e he => by
  obtain ⟨x, h1, rfl⟩ := v.el e he
  exact ⟨x.1, x.2, rfl, is_keep (hx x h1) K⟩
def Uni (xs:List TItem) : Prop := ∀ x ∈ xs, ∀ y ∈ xs, x.2 = y.2 -> x.1 = y.1
theorem SInv.seen {es:Array (Int × Value)} {xs:List TItem} {x:TItem} (v:SInv prog w es xs) (hin:∃ y ∈ xs, y.1 = x.1) (un:Uni (xs ++ [x])) : SInv prog w es (xs ++ [x]) := by
  refine ⟨fun e he => ?_, ?_, ?_, fun y hy => ?_⟩
  · obtain ⟨z, h1, h2⟩ := v.el e he
    exact ⟨z, List.mem_append_left _ h1, h2⟩
  · have := v.sz; simp; omega
  · refine List.Pairwise.imp_of_mem (fun {a b} ha hb hab z z' e1 e2 m1 m2 => ?_) v.pw
    obtain ⟨y, y1, y2⟩ := v.el a ha
    obtain ⟨y', y1', y2'⟩ := v.el b hb
    have q1:z.2 = y.2 := by rw [e1] at y2; simp only [Prod.mk.injEq, Value.ref.injEq] at y2; exact y2.2
    have q2:z'.2 = y'.2 := by rw [e2] at y2'; simp only [Prod.mk.injEq, Value.ref.injEq] at y2'; exact y2'.2
    rw [un z m1 y (List.mem_append_left _ y1) q1, un z' m2 y' (List.mem_append_left _ y1') q2]
    exact hab y y' y2 y2' y1 y1'
  · rcases List.mem_append.mp hy with hy | hy
    · obtain ⟨z, h1, h2⟩ := v.all y hy
      exact ⟨z, List.mem_append_left _ h1, h2⟩
    · rw [List.mem_singleton] at hy; subst hy
      obtain ⟨y', h1, h2⟩ := hin
      obtain ⟨z, g1, g2, g3⟩ := v.all y' h1
      exact ⟨z, List.mem_append_left _ g1, g2.trans h2, g3⟩
theorem SInv.new {es es':Array (Int × Value)} {xs:List TItem} {x:TItem} (v:SInv prog w es xs) (hin:¬ ∃ y ∈ xs, y.1 = x.1) (un:Uni (xs ++ [x])) (g:Grown es es' ((tK prog w).hash (iK x.1), .ref x.2)) : SInv prog w es' (xs ++ [x]) := by
  have hx:x ∈ xs ++ [x] := List.mem_append_right _ (List.mem_singleton.mpr rfl)
  refine ⟨fun e he => ?_, ?_, ?_, fun y hy => ?_⟩
  · rcases (g.mem e).mp he with rfl | he
    · exact ⟨x, hx, rfl⟩
    · obtain ⟨z, h1, h2⟩ := v.el e he
      exact ⟨z, List.mem_append_left _ h1, h2⟩
  · have := v.sz; rw [g.size]; simp; omega
  · refine g.pw _ (fun a b hab z z' e1 e2 m1 m2 h => hab z' z e2 e1 m2 m1 h.symm) ?_ ?_
    · refine List.Pairwise.imp_of_mem (fun {a b} ha hb hab z z' e1 e2 m1 m2 => ?_) v.pw
      obtain ⟨y, y1, y2⟩ := v.el a ha
      obtain ⟨y', y1', y2'⟩ := v.el b hb
      have q1:z.2 = y.2 := by rw [e1] at y2; simp only [Prod.mk.injEq, Value.ref.injEq] at y2; exact y2.2
      have q2:z'.2 = y'.2 := by rw [e2] at y2'; simp only [Prod.mk.injEq, Value.ref.injEq] at y2'; exact y2'.2
      rw [un z m1 y (List.mem_append_left _ y1) q1, un z' m2 y' (List.mem_append_left _ y1') q2]
      exact hab y y' y2 y2' y1 y1'
    · intro e he z z' e1 e2 m1 m2 h
      obtain ⟨y, y1, y2⟩ := v.el e he
      have q1:z.2 = y.2 := by rw [e1] at y2; simp only [Prod.mk.injEq, Value.ref.injEq] at y2; exact y2.2
      have q2:z'.2 = x.2 := by simp only [Prod.mk.injEq, Value.ref.injEq] at e2; exact e2.2.symm
      have a1 := un z m1 y (List.mem_append_left _ y1) q1
      have a2 := un z' m2 x hx q2
      exact hin ⟨y, y1, by rw [<- a1, <- a2]; exact h⟩
  · rcases List.mem_append.mp hy with hy | hy
    · obtain ⟨z, h1, h2, h3⟩ := v.all y hy
      exact ⟨z, List.mem_append_left _ h1, h2, (g.mem _).mpr (.inr h3)⟩
    · rw [List.mem_singleton] at hy; subst hy
      exact ⟨y, hx, rfl, (g.mem _).mpr (.inl rfl)⟩
theorem codeAny_setT_loop (W:WalksS prog w A.in1 I fp wr G n P St) (S:Addr) (hSf:S ∉ fp) (hu:A.in1.units < cLine) (hb:Heap) (hbS:hb.get? S = none) (hbw:∀ b ∈ wr, hb.get? b = none) (its:List TItem) (hn:its.length = n)
    (hval:∀ i v, P i v -> ∃ x, its[i]? = some x /\ v = .ref x.2) (his:∀ x ∈ its, (tK prog w).is hb (iK x.1) x.2) (hz:n <= 63) :
    ∀ (k i:Nat) (s:Shared) (es:Array (Int × Value)), n - i = k -> i <= n -> St i s -> (∀ b o, hb.get? b = some o -> s.heap.get? b = some o) -> SetAt w s.heap S es -> SInv prog w es (its.take i) ->
      (∀ s' es', Moved (S :: wr) G s s' -> SetAt w s'.heap S es' -> SInv prog w es' its -> R (.ok (.ret .none)) s') ->
      codeAny (model prog w) A (.builtin "set.update.loop" ⟨[.ref S, .ref I], []⟩) R s := by
  have hSw:S ∉ wr := fun h => hSf (W.sub _ h)
  have hsub:∀ b ∈ wr, b ∈ S :: wr := fun b hb => List.mem_cons_of_mem _ hb
  have uni:Uni its := fun x hx y hy e => iK_inj ((tK prog w).inj (his x hx) (by rw [e]; exact his y hy))
  intro k
  induction k with
  | zero =>
    intro i s es hk hi hst K hS v hR
    have hin:i = n := by omega
    subst hin
    refine codeAny_builtin PyProof.Rows.F.entry_set_update_loop ?_
    rw [Around.under_plainId PyProof.Rows.F.plain_set_update_loop _]
    show wpAny _ A.in1 (pyNext (.ref I) >>= _) _ _ s
    refine wpAny_bind (W.done s _ _ hst fun s' hm => ?_)
    have v':SInv prog w es its := by rw [List.take_of_length_le (by omega)] at v; exact v
    have hR' := hR s' es (hm.mono hsub) (hS.keep fun o e => hm.heap S o hSw e) v'
    show wpAny _ A.in1 (ret Value.none) _ _ s'
    exact wpAny_pure hR'
  | succ k ih =>
    intro i s es hk hi hst K hS v hR
    have hlt:i < n := by omega
    have htk:its.take (i + 1) = its.take i ++ [its[i]'(by omega)] := by rw [List.take_append_getElem]
    refine codeAny_builtin PyProof.Rows.F.entry_set_update_loop ?_
    rw [Around.under_plainId PyProof.Rows.F.plain_set_update_loop _]
    show wpAny _ A.in1 (pyNext (.ref I) >>= _) _ _ s
    refine wpAny_bind (W.item i s _ _ hlt hst fun u s' hP hst' hm => ?_)
    obtain ⟨x, hx, rfl⟩ := hval i u hP
    have hxe:its[i]'(by omega) = x := by rw [List.getElem?_eq_getElem (by omega)] at hx; exact Option.some.inj hx
    have hxm:x ∈ its := List.mem_of_getElem? hx
    rw [hxe] at htk
    have sub:∀ y ∈ its.take i ++ [x], y ∈ its := by rw [<- htk]; exact fun y hy => List.mem_of_mem_take hy
    have un:Uni (its.take i ++ [x]) := fun y hy z hz => uni y (sub y hy) z (sub z hz)
    have K':∀ b o, hb.get? b = some o -> s'.heap.get? b = some o := fun b o e => hm.heap b o (fun z => by rw [hbw b z] at e; cases e) (K b o e)
    have hS' := hS.keep fun o e => hm.heap S o hSw e
    have hx':∀ y ∈ its.take i, (tK prog w).is hb (iK y.1) y.2 := fun y hy => his y (List.mem_of_mem_take hy)
    have el := v.els hx' K'
    have hes:es.size + 1 <= 63 := by have := v.sz; rw [List.length_take] at this; omega
    show wpAny _ A.in1 (holding [Value.ref x.2] (setAdd S (.ref x.2)) >>= _) _ _ s'
    refine wpAny_bind (wpAny_holding ?_)
    have keyed:∀ e ∈ es.toList, ∀ c, e.2 = .ref c -> (tK prog w).is s'.heap (iK x.1) c -> ∃ y ∈ its.take i, y.1 = x.1 := fun e he c hc hh => by
      obtain ⟨y, y1, y2⟩ := v.el e he
      have:c = y.2 := by rw [y2] at hc; injection hc with hc; exact hc.symm
      subst this
      exact ⟨y, y1, iK_inj ((tK prog w).inj (is_keep (hx' y y1) K') hh)⟩
    refine wp_add hu (is_keep (his x hxm) K') hS' el hes (fun tk htk' hin => ?_) fun tk h' es' htk' hout hsb hSn g => ?_
    · obtain ⟨e, he, c, hc, hh⟩ := hin
      refine wpAny_pure ⟨plainId_quiet PyProof.Rows.F.plain_set_update_loop _, ih (i + 1) _ es (by omega) hlt (W.frame _ s' _ _ hst' htk' fun b hb o e => e) K' hS' (by rw [htk]; exact v.seen (keyed e he c hc hh) un) fun s'' es'' hm'' hS'' v'' => ?_⟩
      exact hR s'' es'' (Moved.trans W.gtrans ((hm.mono hsub).then_heap htk' fun b o hb e => e) hm'') hS'' v''
    · have hnin:¬ ∃ y ∈ its.take i, y.1 = x.1 := by
        rintro ⟨y, y1, y2⟩
        obtain ⟨z, z1, z2, z3⟩ := v.all y y1
        exact hout _ z3 z.2 rfl (by rw [<- y2, <- z2]; exact is_keep (hx' z z1) K')
      have K2:∀ b o, hb.get? b = some o -> h'.get? b = some o := fun b o e => (hsb.2 b (fun z => by subst z; rw [hbS] at e; cases e)).trans (K' b o e)
      refine wpAny_pure ⟨plainId_quiet PyProof.Rows.F.plain_set_update_loop _, ih (i + 1) _ es' (by omega) hlt (W.frame _ s' _ _ hst' htk' fun b hb o e => ?_) K2 hSn (by rw [htk]; exact v.new hnin un g) fun s'' es'' hm'' hS'' v'' => ?_⟩
      · rw [hsb.2 b (fun h:b = S => hSf (by rw [<- h]; exact hb))]; exact e
      · refine hR s'' es'' (Moved.trans W.gtrans ((hm.mono hsub).then_heap htk' fun b o hb e => ?_) hm'') hS'' v''
        rw [hsb.2 b (fun h:b = S => hb (by rw [h]; exact List.mem_cons_self))]; exact e
end
end L2
namespace L2
open PySem PySem.Spec PySem.Calls PyProof.Rows ST
abbrev setNew (led : Bool) : Obj := { cls := .type "set", dict := none, data := .set #[] 0 (.fresh 0 0 led) }
theorem setAt_new {w:World} {h:Heap} {a:Addr} (e:h.get? a = some (setNew (!byT w))) : SetAt w h a #[] := by
  refine ⟨_, 0, _, e, ⟨rfl, rfl, rfl⟩, rfl, ⟨⟨.inl rfl, rfl, List.Pairwise.nil, fun j hj => nomatch hj⟩, rfl, fun q hq => nomatch hq⟩, ?_, rfl, rfl⟩
  show 0 * 5 < 7 * 3
  decide
section
variable {prog:Program} {w:World} {A:Around} {E:Value -> Shared -> Prop} {s:Shared}
theorem code_set_newL (a:Value) {Q₁:Value -> Shared -> Prop} (h:Q₁ (.ref s.heap.objs.size) { s with heap := s.heap.push (setNew (!byT w)) }) :
    codeAny (model prog w) A (.call (.builtin "set.__new__") ⟨[.type "set", a], []⟩) (wants Q₁ E) s := by
  refine codeAny_of_tree (show wpAny _ A.in1 (do checkBuiltinCall "set.__new__" ⟨[.type "set", a], []⟩; again (.builtin "set.__new__" ⟨[.type "set", a], []⟩)) _ _ s from ?_)
  refine wpAny_bind (wpAny_of_eq (PySem.F.newCall_set_1 a) (wpAny_pure ⟨plainId_quiet PySem.F.plain_set_new _, codeAny_builtin PySem.F.entry_set_new ?_⟩))
  rw [Around.under_plainId PySem.F.plain_set_new _]; unfold Builtin.«set.__new__» Builtin.Frozenset.newClass
  have hsub := sub_set_self
  obtain ⟨hp, g, d, tk, os⟩ := s
  dsimp only; wp_walk
  refine wpAny_askSetting (wpAny_pure ?_); dsimp only; simp only [newObj]
  refine wpAny_bind (wpAny_alloc (wpAny_pure ?_)); exact wpAny_pure h
theorem call_setT {l : Addr} {items : Array Value} {nl : Nat} {its : List TItem} {Q : Value -> Shared -> Prop} (hh : A.handled = none) (hu : A.units + 64 < cLine) (hl : s.heap.get? l = some { cls := .type "list", data := .seq items nl }) (hn : its.length = items.size) (hz : items.size <= 63)
    (hval:∀ (i:Nat) (v:Value), items[i]? = some v -> ∃ x:TItem, its[i]? = some x /\ v = .ref x.2) (his:∀ x ∈ its, (tK prog w).is s.heap (iK x.1) x.2)
    (h:∀ (h':Heap) (tk:Nat) (es:Array (Int × Value)), SetAt w h' s.heap.objs.size es -> SInv prog w es its -> (∀ b o, b < s.heap.objs.size -> s.heap.get? b = some o -> h'.get? b = some o) -> Q (.ref s.heap.objs.size) { s with heap := h', toks := tk }) :
    wpAny (model prog w) A (call (.type "set") [.ref l]) Q E s := by
  obtain ⟨c, tl, hmro⟩ := PySem.F.called_set.mro
  have hmade := PySem.F.called_set.made; have hsub := PySem.F.called_set.sub
  refine wpAny_call (codeAny_of_tree ?_); show wpAny _ _ (callAny (.type "set") _) _ _ _
  refine wpAny_pure ⟨Code.quiet_builtin _ (by decide +kernel), codeAny_builtin PySem.F.entry_type_call ?_⟩
  rw [Around.under_plain (weight_type_call_type "set" [.ref l] []) rfl]
  have h1 := PySem.F.called_set.notType; have h2 := PySem.F.called_set.canCreate; have hct := PySem.F.typeCall_set_1 (.ref l)
  repeat (any_goals (first | assumption | wp_step))
  refine codeAny_mono (code_set_newL (.ref l) (E := E) (Q₁ := fun obj s₁ => obj = .ref s.heap.objs.size /\ s₁ = { s with heap := s.heap.push (setNew (!byT w)) }) ⟨rfl, rfl⟩) fun r s₁ hr => ?_
  rcases r with e | fl
  · exact hr
  cases fl with
  | ret obj =>
    obtain ⟨rfl, rfl⟩ := hr
    have hS:(s.heap.push (setNew (!byT w))).get? s.heap.objs.size = some (setNew (!byT w)) := Heap.get?_push_size _ rfl
    have hT : Shared.TypeIs { s with heap := s.heap.push (setNew (!byT w)) } (.ref s.heap.objs.size) "set" := ⟨_, hS, rfl⟩
    have hli := PySem.F.called_set.init.lookup; have hbi := PySem.F.called_set.init.bind (.ref s.heap.objs.size)
    repeat (any_goals (first | assumption | wp_step))
    refine codeAny_mono (codeAny_call_builtin (R := wants (fun r s₂ => r = .none /\ ∃ h' tk es, s₂ = { s with heap := h', toks := tk } /\ SetAt w h' s.heap.objs.size es /\ SInv prog w es its /\
        (∀ b o, b < s.heap.objs.size -> s.heap.get? b = some o -> h'.get? b = some o)) E) PySem.F.called_set.init.plain PySem.F.entry_set_init (check_set_init_1 hT ?_)) fun r₂ s₂ hr₂ => ?_
    · have hol' : (s.heap.push (setNew (!byT w))).get? l = some { cls := .type "list", data := .seq items nl } := Heap.get?_push_of_some _ hl
      have hsls := PySem.F.sub_list_set; have hslf := PySem.F.sub_list_frozenset; have hne : (Value.type "list" == Value.type "dict") = false := by decide
      have hl1:(s.heap.push (setNew (!byT w))).IsList l items := ⟨_, hol', rfl, nl, rfl⟩
      unfold Builtin.«set.__init__» noKeywords Builtin.Frozenset.updateFrom
      generalize hPI:pyIter = PI
      wp_walk
      subst hPI
      refine wpAny_pyIter_list hl1 (wpAny_bind (wpAny_runValue ?_))
      have hlS:l < s.heap.objs.size := Heap.lt_size hl
      have hh3:A.in1.in1.in1.handled = none := by simp [hh]
      have hneI:l ≠ (s.heap.push (setNew (!byT w))).objs.size := by rw [Heap.size_push]; exact Nat.ne_of_lt (Nat.lt_succ_of_lt hlS)
      have hno:∀ b, s.heap.objs.size <= b -> s.heap.get? b = none := fun b hb => by
        cases q:s.heap.get? b with
        | none => rfl
        | some o => exact absurd (Heap.lt_size q) (Nat.not_lt.mpr hb)
      refine codeAny_setT_loop ((Walks.list hh3 _ l hneI items).toS) s.heap.objs.size ?hSf (by show A.units + 1 + 1 + 1 < cLine; omega) s.heap (hno _ (Nat.le_refl _)) ?hbw its hn hval his hz (items.size - 0) 0 _ #[] rfl (Nat.zero_le _) ⟨⟨_, Heap.get?_push_size _ rfl, rfl, rfl⟩, (hl1.push _)⟩
        (fun b o e => Heap.get?_push_of_some _ (Heap.get?_push_of_some _ e)) (setAt_new (Heap.get?_push_of_some _ hS)) ⟨fun e he => (nomatch he), Nat.zero_le _, List.Pairwise.nil, fun x hx => (nomatch hx)⟩ ?hR
      case hSf =>
        rw [Heap.size_push]; simp only [List.mem_cons, List.not_mem_nil, or_false, not_or]
        exact ⟨Nat.ne_of_lt (Nat.lt_succ_self _), Nat.ne_of_gt hlS⟩
      case hbw =>
        intro b hb
        simp only [List.mem_cons, List.not_mem_nil, or_false] at hb
        subst hb
        exact hno _ (by rw [Heap.size_push]; omega)
      case hR =>
        intro s' es hm hS' v
        obtain ⟨h', g', d', tk', os'⟩ := s'
        have eg:g' = s.gens := hm.gens
        have ed:d' = s.drawn := hm.drawn
        have eo:os' = s.os := hm.os
        subst eg ed eo
        refine wpAny_pure (wpAny_pure ⟨rfl, h', tk', es, rfl, hS', v, fun b o hb e => hm.heap b o ?_ (Heap.get?_push_of_some _ (Heap.get?_push_of_some _ e))⟩)
        simp only [List.mem_cons, List.not_mem_nil, or_false, not_or]
        exact ⟨Nat.ne_of_lt hb, by rw [Heap.size_push]; exact Nat.ne_of_lt (Nat.lt_succ_of_lt hb)⟩
    · rcases r₂ with e | fl₂
      · exact hr₂
      cases fl₂ with
      | ret r =>
        obtain ⟨rfl, h', tk, es, rfl, hS', v, hk'⟩ := hr₂
        repeat (any_goals (first | assumption | wp_step))
        exact h _ _ _ hS' v hk'
      | _ => exact hr₂.elim
  | _ => exact hr.elim
end
end L2
namespace L2
open PySem PySem.Spec PySem.Calls PyProof.Rows ST
theorem erase_perm {α:Type} : ∀ (l:List α) (i:Nat) (h:i < l.length), (l[i] :: l.eraseIdx i).Perm l
  | [], i, h => by simp at h
  | x :: l, 0, h => List.Perm.refl _
  | x :: l, i + 1, h => by
    have ih := erase_perm l i (by simpa using h)
    have e:(x :: l).eraseIdx (i + 1) = x :: l.eraseIdx i := rfl
    rw [e, List.getElem_cons_succ]
    exact (List.Perm.swap _ _ _).trans (List.Perm.cons x ih)
theorem pick_go {α:Type} (next:Nat -> Nat) : ∀ (fuel k:Nat) (left:List α) (out:Array α), left.length = fuel -> (pickOrder.go next fuel k left out).toList.Perm (out.toList ++ left)
  | 0, k, left, out, h => by
    have:left = [] := List.length_eq_zero_iff.mp h
    subst this
    unfold pickOrder.go
    simp
  | f + 1, k, left, out, h => by
    have hi:next k % left.length < left.length := Nat.mod_lt _ (by omega)
    unfold pickOrder.go
    rw [List.getElem?_eq_getElem hi]
    dsimp only
    have ih := pick_go next f (k + 1) (left.eraseIdx (next k % left.length)) (out.push left[next k % left.length]) (by rw [List.length_eraseIdx, if_pos hi]; omega)
    refine ih.trans ?_
    rw [Array.toList_push, List.append_assoc]
    exact List.Perm.append_left _ (erase_perm left _ hi)
theorem pick_perm {α:Type} (next:Nat -> Nat) (xs:Array α) : (pickOrder next xs).toList.Perm xs.toList := by
  have := pick_go next xs.size 0 xs.toList #[] (by simp)
  unfold pickOrder
  simpa using this
def ordS (w:World) (S:Addr) (ep:Nat) (es:Array (Int × Value)) : Array (Int × Value) := if byT w then pickOrder (w.params.setOrder S ep) es else es
theorem ord_perm (w:World) (S:Addr) (ep:Nat) (es:Array (Int × Value)) : (ordS w S ep es).toList.Perm es.toList := by
  unfold ordS
  split
  · exact pick_perm _ _
  · exact List.Perm.refl _
theorem ord_size (w:World) (S:Addr) (ep:Nat) (es:Array (Int × Value)) : (ordS w S ep es).size = es.size := by
  have := (ord_perm w S ep es).length_eq
  simpa using this
def slotAt (w:World) (t:SetTable) : Nat -> Nat
  | 0 => 0
  | i + 1 => if byT w then 0 else t.place.getD i 0 + 1
theorem below_slot {t:SetTable} (T:Tb t) : ∀ (i:Nat), i <= t.place.size -> SetTable.below t.place (match i with | 0 => 0 | i + 1 => t.place.getD i 0 + 1) = i
  | 0, _ => by
    obtain ⟨a, b, c⟩ := below_spec 0 T.ris
    dsimp only
    rcases Nat.eq_zero_or_pos (SetTable.below t.place 0) with h | h
    · exact h
    · have := b 0 (by omega) h; omega
  | i + 1, hi => by
    dsimp only
    have e:t.place.getD i 0 = t.place[i] := by simp [Array.getD, show i < t.place.size by omega]
    rw [e]
    obtain ⟨a, b, c⟩ := below_spec (t.place[i] + 1) T.ris
    rcases Nat.lt_trichotomy (SetTable.below t.place (t.place[i] + 1)) (i + 1) with q | q | q
    · have h1 := c i (by omega) (by omega)
      omega
    · exact q
    · have h1 := b (i + 1) (by omega) q
      have h2 := List.pairwise_iff_getElem.mp T.ris i (i + 1) (by simp; omega) (by simp; omega) (by omega)
      simp at h2
      omega
theorem slot_setiter_next : Slot "set_iterator" "__next__" "set_iterator.__next__" := .of (owner := "set_iterator") (n := "__next__") (by rw [typeLookup_type, builtinLookup_eq_fast]; kernel_rfl) (by decide +kernel) (by decide +kernel) (by decide +kernel) (by first | exact .inl (by decide +kernel) | exact .inr (by decide +kernel)) (by rw [isSubtype_type]; kernel_rfl)
theorem entry_setiter_next : entryFor table "set_iterator.__next__" = some Builtin.«set_iterator.__next__» := entryFor_of_fast (by kernel_rfl)
theorem args_setiter_next (a : Value) : argsOk "set_iterator.__next__" ⟨[a], []⟩ := by (unfold argsOk; kernel_rfl)
theorem entry_setiter : entryFor table "set.__iter__" = some Builtin.«frozenset.__iter__» := entryFor_alias (id' := "frozenset.__iter__") (by kernel_rfl) rfl (by decide +kernel) (by kernel_rfl)
def SetIt (h : Heap) (it S : Addr) (slot i n ep : Nat) : Prop := ∃ o, h.get? it = some o /\ o.cls = .type "set_iterator" /\ o.data = .fields #[.int slot 0, .int i 0, .ref S, .int n 0, .int ep 0]
theorem SetIt.typeIs {s : Shared} {it S : Addr} {slot i n ep : Nat} (x : SetIt s.heap it S slot i n ep) : s.TypeIs (.ref it) "set_iterator" := let ⟨o, ho, hc, _⟩ := x; ⟨o, ho, hc⟩
def SetRaw (h:Heap) (S:Addr) (es:Array (Int × Value)) (ep:Nat) (t:SetTable) : Prop := ∃ o, h.get? S = some o /\ o.ExactSet /\ o.data = .set es ep t
section
variable {prog:Program} {w:World} {A:Around} {E:Value -> Shared -> Prop} {s:Shared}
theorem wp_byT {Q:Bool -> Shared -> Prop} (h:Q (byT w) s) : wpAny (model prog w) A setsByText Q E s := by
  unfold setsByText
  exact wpAny_bind (wpAny_askSetting (wpAny_pure h))
theorem wp_setNext {S:Addr} {es:Array (Int × Value)} {ep i:Nat} {t:SetTable} {Q:Option (Value × Nat) -> Shared -> Prop} (r:SetRaw s.heap S es ep t) (T:Tbl t es) (hs:t.place.size <= t.mask) (hpl:t.plain = true) (hle:t.led = !byT w) (hi:i <= es.size)
    (h:Q (((ordS w S ep es)[i]?).map fun e => (e.2, slotAt w t (i + 1))) s) : wpAny (model prog w) A (setNext S (slotAt w t i) i ep) Q E s := by
  obtain ⟨o, ho, hex, hd⟩ := r
  have hf := Tbl.fits T hs
  unfold setNext
  refine wpAny_bind (wpAny_setState_of ho hd hf ?_)
  dsimp only
  refine wpAny_bind (wp_byT ?_)
  cases hb:byT w with
  | true =>
    simp only [if_true]
    rw [if_neg (by simp)]
    refine wpAny_bind ?_
    unfold setWalk
    refine wpAny_bind (wpAny_setState_of ho hd hf ?_)
    dsimp only
    refine wpAny_bind (wp_byT ?_)
    rw [hb]
    simp only [if_true]
    refine wpAny_bind (wpAny_askSetting (wpAny_pure ?_))
    have e1:slotAt w t (i + 1) = 0 := by unfold slotAt; rw [hb]; rfl
    have e2:slotAt w t i = 0 := by cases i with | zero => rfl | succ i => (unfold slotAt; rw [hb]; rfl)
    rw [e2]
    rw [e1] at h
    unfold ordS at h
    rw [hb] at h
    exact wpAny_pure h
  | false =>
    simp only [Bool.false_eq_true, if_false]
    rw [hb] at hle
    have hle:t.led = true := hle
    show wpAny _ _ (if (!t.plain && decide (es.size > 1)) = true then _ else _) _ _ _
    rw [hpl]
    simp only [Bool.not_true, Bool.false_and, Bool.false_eq_true, if_false]
    show wpAny _ _ ((if (!t.led && !es.isEmpty) = true then unsupported "set:maker-not-led" else pure ()) >>= fun _ => _) _ _ _
    rw [hle]
    simp only [Bool.not_true, Bool.false_and, Bool.false_eq_true, if_false]
    refine wpAny_bind (wpAny_pure ?_)
    have e1:SetTable.below t.place (slotAt w t i) = i := by
      have := below_slot T.tb i (by rw [T.len]; exact hi)
      cases i with
      | zero => exact this
      | succ i => unfold slotAt; rw [hb]; exact this
    have eo:ordS w S ep es = es := by unfold ordS; rw [hb]; rfl
    rw [eo] at h
    rw [e1]
    by_cases hlt:i < es.size
    · have g1:es[i]? = some es[i] := by simp [hlt]
      have hp:i < t.place.size := by rw [T.len]; exact hlt
      have g2:t.place[i]? = some t.place[i] := by simp [hp]
      rw [g1] at h
      rw [g1, g2]
      have e2:slotAt w t (i + 1) = t.place[i] + 1 := by unfold slotAt; rw [hb]; simp [Array.getD, hp]
      rw [e2] at h
      exact wpAny_pure h
    · have g1:es[i]? = none := by simp; omega
      rw [g1] at h
      rw [g1]
      exact wpAny_pure h
end
end L2
namespace L2
open PySem PySem.Spec PySem.Calls PyProof.Rows ST
theorem slot_setiter_iter : Slot "set_iterator" "__iter__" "set_iterator.__iter__" := .of (owner := "set_iterator") (n := "__iter__") (by rw [typeLookup_type, builtinLookup_eq_fast]; kernel_rfl) (by decide +kernel) (by decide +kernel) (by decide +kernel) (by first | exact .inl (by decide +kernel) | exact .inr (by decide +kernel)) (by rw [isSubtype_type]; kernel_rfl)
theorem entry_setiter_iter : entryFor table "set_iterator.__iter__" = some Builtin.«dict_keyiterator.__iter__» := entryFor_alias (id' := "dict_keyiterator.__iter__") (by kernel_rfl) rfl (by decide +kernel) (by kernel_rfl)
theorem args_setiter_iter (a : Value) : argsOk "set_iterator.__iter__" ⟨[a], []⟩ := by (unfold argsOk; kernel_rfl)
section
variable {prog:Program} {w:World} {A:Around} {E:Value -> Shared -> Prop} {s:Shared}
theorem next_body {it S:Addr} {slot i n ep:Nat} {es:Array (Int × Value)} {t:SetTable} {P:PySem.Fin -> Shared -> Prop} {F:Value -> Shared -> Prop} {o:Obj} (ho:s.heap.get? it = some o) (hd:o.data = .fields #[.int slot 0, .int i 0, .ref S, .int n 0, .int ep 0])
    (r:SetRaw s.heap S es ep t) (hf:t.fits es.size = true) (hn:n = es.size)
    (h:wpAny (model prog w) A (setNext S slot i ep) (fun m s' => match m with
      | some (x, next) => wpAny (model prog w) A (do setField (.ref it) 0 (rawInt next); setField (.ref it) 1 (rawInt (i + 1)); ret x) P F s'
      | none => wpAny (model prog w) A (do setField (.ref it) 2 .none; raiseNew (<- newExc (.type "StopIteration") [])) P F s') F s) :
    wpAny (model prog w) A (Builtin.«set_iterator.__next__» ⟨[.ref it], []⟩) P F s := by
  obtain ⟨os, hos, hex, hds⟩ := r
  unfold Builtin.«set_iterator.__next__» slotArgs
  simp only [List.isEmpty_nil, Bool.not_true, Bool.false_eq_true, if_false, List.length_nil, bne_self_eq_false]
  refine wpAny_bind (wpAny_pure ?_)
  refine wpAny_bind (wpAny_fieldsOf ho hd ?_)
  dsimp only
  refine wpAny_bind ?_
  unfold setEntries
  refine wpAny_bind (wpAny_setState_of hos hds hf (wpAny_pure ?_))
  dsimp only
  rw [if_neg (by rw [hn]; simp)]
  simp only [Int.toNat_natCast]
  refine wpAny_bind (wpAny_mono h (fun m s' hm => ?_) fun _ _ e => e)
  cases m with
  | none => exact hm
  | some p => obtain ⟨x, next⟩ := p; exact hm
theorem setIter_walks {it S:Addr} (hne:S ≠ it) (hh:A.handled = none) {es:Array (Int × Value)} {ep:Nat} {t:SetTable} (T:Tbl t es) (hs:t.place.size <= t.mask) (hpl:t.plain = true) (hle:t.led = !byT w) :
    Walks prog w A it [it, S] [it] es.size (fun i v => ((ordS w S ep es)[i]?).map (·.2) = some v) (fun i h => SetIt h it S (slotAt w t i) i es.size ep /\ SetRaw h S es ep t) where
  sub := fun b hb => by simp at hb; simp [hb]
  frame := fun i h h' st hk => by
    obtain ⟨⟨o, h1, r1⟩, ⟨o2, h2, r2⟩⟩ := st
    exact ⟨⟨o, hk it (by simp) o h1, r1⟩, ⟨o2, hk S (by simp) o2 h2, r2⟩⟩
  item := fun i s Q E hi st hQ => by
    obtain ⟨x1, x2⟩ := st
    have hT := x1.typeIs
    obtain ⟨o, ho, hc, hd⟩ := x1
    have x2' := x2
    obtain ⟨o2, ho2, hex2, hd2⟩ := x2
    unfold pyNext
    refine wpAny_bind (wpAny_attempt (wpAny_callSpecial?_slot (name := Str.ofString "__next__") hT slot_setiter_next (wpAny_call_entry slot_setiter_next hT entry_setiter_next ?_ (args_setiter_next _))))
    refine next_body ho hd x2' (Tbl.fits T hs) rfl (wp_setNext x2' T hs hpl hle (by omega) ?_)
    have hio:i < (ordS w S ep es).size := by rw [ord_size]; exact hi
    have e1:(ordS w S ep es)[i]? = some (ordS w S ep es)[i] := by simp [hio]
    rw [e1]
    show wpAny _ _ _ _ _ _
    refine wpAny_bind (wpAny_setField ho hd (by simp) ?_)
    have d1 := Obj.data_mapFields hd (·.setIfInBounds 0 (rawInt ((slotAt w t (i + 1) : Nat) : Int)))
    have ho1 := Heap.get?_update_self (Obj.mapFields (·.setIfInBounds 0 (rawInt ((slotAt w t (i + 1) : Nat) : Int)))) ho (Obj.isFreed_of_fields d1)
    refine wpAny_bind (wpAny_setField (s := { s with heap := _ }) ho1 d1 (by simp) ?_)
    have d2 := Obj.data_mapFields d1 (·.setIfInBounds 1 (rawInt ((i:Int) + 1)))
    have ho3 := Heap.get?_update_self (Obj.mapFields (·.setIfInBounds 1 (rawInt ((i:Int) + 1)))) ho1 (Obj.isFreed_of_fields d2)
    have sb := (Heap.SameBut.update s.heap it (Obj.mapFields (·.setIfInBounds 0 (rawInt ((slotAt w t (i + 1) : Nat) : Int))))).trans (Heap.SameBut.update _ it (Obj.mapFields (·.setIfInBounds 1 (rawInt ((i:Int) + 1)))))
    refine wpAny_pure ⟨_, rfl, wpAny_pure ?_⟩
    refine hQ _ _ s.toks (by rw [e1]; rfl) ⟨⟨_, ho3, ?_, ?_⟩, o2, (sb.2 S hne).trans ho2, hex2, hd2⟩ (fun b o hb e => (sb.2 b (fun z => hb (by simp [z]))).trans e)
    · exact (Obj.cls_mapFields ..).trans ((Obj.cls_mapFields ..).trans hc)
    · rw [d2]; simp [rawInt]
  done := fun s Q E st hQ => by
    obtain ⟨x1, x2⟩ := st
    have hT := x1.typeIs
    obtain ⟨o, ho, hc, hd⟩ := x1
    unfold pyNext
    refine wpAny_bind (wpAny_attempt (wpAny_callSpecial?_slot (name := Str.ofString "__next__") hT slot_setiter_next (wpAny_call_entry slot_setiter_next hT entry_setiter_next ?_ (args_setiter_next _))))
    refine next_body ho hd x2 (Tbl.fits T hs) rfl (wp_setNext x2 T hs hpl hle (Nat.le_refl _) ?_)
    have e1:(ordS w S ep es)[es.size]? = none := by simp [ord_size]
    rw [e1]
    show wpAny _ _ _ _ _ _
    refine wpAny_bind (wpAny_setField ho hd (by simp) ?_)
    refine wpAny_bind ?_
    simp only [newExc, newTuple]
    refine wpAny_bind (wpAny_newObj_type ?_ (by size_fits))
    refine wpAny_bind (m := firstArgMember _ _) (wpAny_of_eq (a := Value.none) (by first | rfl | (simp only [firstArgMember]; rfl)) ?_)
    refine wpAny_newObj_type ?_ (by size_fits)
    simp only [raiseNew]
    refine wpAny_bind (wpAny_handled ?_)
    rw [show A.in1.handled = none from hh]
    refine wpAny_bind (wpAny_pure (wpAny_throw ?_))
    refine wpAny_bind (wpAny_isInstance (T := "StopIteration") (b := true) ⟨_, Heap.get?_push_size _ rfl, rfl⟩ isSubtype_stop ?_)
    refine wpAny_pure (hQ _ s.toks fun b o hb e => ?_)
    exact Heap.get?_push_of_some _ (Heap.get?_push_of_some _ (((Heap.SameBut.update ..).2 b (fun z => hb (by simp [z]))).trans e))
  self := fun _ _ _ _ st hQ => by
    refine wpAny_pyIter_slot st.1.typeIs slot_setiter_iter (wpAny_call_entry slot_setiter_iter st.1.typeIs entry_setiter_iter ?_ (args_setiter_iter _))
    exact wpAny_pure ⟨_, rfl, "set_iterator", _, st.1.typeIs, slot_setiter_next.lookup, hQ⟩
end
end L2
namespace L2
open PySem PySem.Spec PySem.Calls PyProof.Rows ST
section
variable {prog:Program} {w:World} {A:Around} {E:Value -> Shared -> Prop} {s:Shared}
theorem wp_setIter {S:Addr} {es:Array (Int × Value)} {ep:Nat} {t:SetTable} {Q:Value -> Shared -> Prop} (r:SetRaw s.heap S es ep t) (hf:t.fits es.size = true) (hpl:t.plain = true)
    (h : Q (.ref s.heap.objs.size) { s with heap := s.heap.push { cls := .type "set_iterator", data := .fields #[.int 0 0, .int 0 0, .ref S, .int es.size 0, .int ep 0] } }) : wpAny (model prog w) A (pyIter (.ref S)) Q E s := by
  obtain ⟨o, ho, hex, hd⟩ := r
  have hT : s.TypeIs (.ref S) "set" := ⟨o, ho, hex.1⟩
  refine wpAny_pyIter_slot hT PySem.F.slot_set_iter (wpAny_call_entry PySem.F.slot_set_iter hT entry_setiter ?_ (PySem.F.args_set_iter_1 _))
  unfold Builtin.«frozenset.__iter__» Builtin.Frozenset.slot0 slotArgs
  simp only [List.isEmpty_nil, Bool.not_true, Bool.false_eq_true, ↓reduceIte, bind_assoc, List.length_nil, bne_self_eq_false]
  unfold Builtin.Frozenset.addrOf Builtin.Frozenset.sizeOf setEntries
  refine wpAny_bind (wpAny_pure (wpAny_bind (wpAny_pure ?_)))
  simp only [bind_assoc]
  refine wpAny_bind (wpAny_setState_of ho hd hf (wpAny_bind (wpAny_pure (wpAny_bind (wpAny_pure ?_)))))
  refine wpAny_bind ?_
  unfold setDrawn
  refine wpAny_bind (wpAny_setState_of ho hd hf ?_)
  dsimp only
  refine wpAny_bind (wp_byT (wpAny_pure ?_))
  show wpAny _ _ (if (!byT w && (!t.plain && decide (es.size > 1))) = true then _ else _) _ _ _
  rw [hpl]
  simp only [Bool.not_true, Bool.false_and, Bool.and_false, Bool.false_eq_true, if_false]
  refine wpAny_bind (wpAny_pure ?_)
  refine wpAny_bind (wpAny_setEpoch_of ho hd hf ?_)
  exact wpAny_bind (wpAny_newObj_type (wpAny_pure ⟨_, rfl, "set_iterator", _, ⟨_, Heap.get?_push_size _ rfl, rfl⟩, slot_setiter_next.lookup, h⟩))
theorem hint_set {S : Addr} {Q : Bool -> Shared -> Prop} (hT : s.TypeIs (.ref S) "set") (h : Q false s) : wpAny (model prog w) A (Builtin.List.listLengthHint (.ref S)) Q E s := by
  unfold Builtin.List.listLengthHint
  refine wpAny_bind (wpAny_specialOf hT PySem.F.slot_set_len.lookup ?_)
  dsimp only
  have hsp : splitId "set.__len__" = some ("set", "__len__") := by decide +kernel
  rw [hsp]
  dsimp only
  refine wpAny_bind (wpAny_isInstance hT sub_set_self ?_)
  simp only [Bool.not_true, Bool.false_eq_true, if_false]
  rw [if_pos (by decide +kernel)]
  refine wpAny_bind (wpAny_typeOf hT ?_)
  exact wpAny_pure h
theorem collect_set {S:Addr} {es:Array (Int × Value)} {ep:Nat} {t:SetTable} {Q:List Value -> Shared -> Prop} (r:SetRaw s.heap S es ep t) (T:Tbl t es) (hs:t.place.size <= t.mask) (hpl:t.plain = true) (hle:t.led = !byT w) (hh:A.handled = none) (hz:es.size <= 63)
    (h:∀ h' tk, s.heap.objs.size < h'.objs.size -> (∀ b o, s.heap.get? b = some o -> h'.get? b = some o) -> Q ((ordS w S ep es).toList.map (·.2)) { s with heap := h', toks := tk }) : wpAny (model prog w) A (collect (.ref S)) Q E s := by
  have hf := Tbl.fits T hs
  obtain ⟨o, ho, hex, hd⟩ := r
  have hlt:S < s.heap.objs.size := Heap.lt_size ho
  unfold collect
  refine wpAny_bind (wpAny_runValue (codeAny_builtin entry_proto_collect' (show wpAny _ _ (do again (.builtin "list.__iadd__" ⟨[<- newList [], .ref S], []⟩)) _ _ s from ?_)))
  refine wpAny_bind (wpAny_newList (wpAny_pure ⟨Code.quiet_builtin _ (by decide +kernel), codeAny_builtin entry_list_iadd' ?_⟩))
  show wpAny _ _ (Builtin.List.listExtendWith (.ref s.heap.objs.size) (.ref S) (.ref s.heap.objs.size)) _ _ { s with heap := s.heap.push (seqObj "list" #[] 0) }
  have ho1 : (s.heap.push (seqObj "list" #[] 0)).get? S = some o := Heap.get?_push_of_some _ ho
  have hT1 : Shared.TypeIs { s with heap := s.heap.push (seqObj "list" #[] 0) } (.ref S) "set" := ⟨o, ho1, hex.1⟩
  unfold Builtin.List.listExtendWith
  refine wpAny_bind (wpAny_typeOf hT1 ?_)
  have q1:Builtin.List.listSameRef (.ref s.heap.objs.size) (.ref S) = false := by simp [Builtin.List.listSameRef, Nat.ne_of_gt hlt]
  have q2 : (Value.type "set" == Value.type "list") = false := by decide
  have q3 : (Value.type "set" == Value.type "tuple") = false := by decide
  simp only [q1, q2, q3, Bool.or_false, Bool.false_eq_true, if_false]
  refine wpAny_bind (wp_setIter ⟨o, ho1, hex, hd⟩ hf hpl ?_)
  have hT2 : Shared.TypeIs { s with heap := (s.heap.push (seqObj "list" #[] 0)).push { cls := .type "set_iterator", data := .fields #[.int 0 0, .int 0 0, .ref S, .int es.size 0, .int ep 0] } } (.ref S) "set" := ⟨o, Heap.get?_push_of_some _ ho1, hex.1⟩
  refine wpAny_bind (wpAny_holding (hint_set hT2 ?_))
  rw [if_pos (by decide +kernel)]
  refine wpAny_bind (wpAny_rule ?_)
  have hS0 : ((s.heap.push (seqObj "list" #[] 0)).push { cls := .type "set_iterator", data := .fields #[.int 0 0, .int 0 0, .ref S, .int es.size 0, .int ep 0] }).get? s.heap.objs.size = some (seqObj "list" #[] 0) := Heap.get?_push_of_some _ (Heap.get?_push_size _ rfl)
  refine wpAny_bind (show wpAny _ _ (updateSeq s.heap.objs.size (·.push .none) >>= fun _ => updateSeq s.heap.objs.size (·.pop)) _ _ _ from ?_)
  refine wpAny_bind (wpAny_updateSeq hS0 rfl ?_)
  have hS1 := Heap.get?_update_self (Obj.mapSeq (·.push Value.none)) hS0 rfl
  refine wpAny_updateSeq (hz := by seq_fits) hS1 rfl ?_
  have hS2 := Heap.get?_update_self (Obj.mapSeq (·.pop)) hS1 rfl
  generalize hH : (((s.heap.push (seqObj "list" #[] 0)).push { cls := .type "set_iterator", data := .fields #[.int 0 0, .int 0 0, .ref S, .int es.size 0, .int ep 0] }).update s.heap.objs.size (Obj.mapSeq (·.push Value.none))).update s.heap.objs.size (Obj.mapSeq (·.pop)) = H2 at *
  have oth : ∀ b o, b ≠ s.heap.objs.size -> ((s.heap.push (seqObj "list" #[] 0)).push { cls := .type "set_iterator", data := .fields #[.int 0 0, .int 0 0, .ref S, .int es.size 0, .int ep 0] }).get? b = some o -> H2.get? b = some o := fun b o hb e => by
    rw [<- hH]; exact (Heap.get?_update_other _ _ (Ne.symm hb)).trans ((Heap.get?_update_other _ _ (Ne.symm hb)).trans e)
  have old:∀ b o, s.heap.get? b = some o -> H2.get? b = some o := fun b o e => oth b o (Nat.ne_of_lt (Heap.lt_size e)) (Heap.get?_push_of_some _ (Heap.get?_push_of_some _ e))
  have hsz1 : (s.heap.push (seqObj "list" #[] 0)).objs.size = s.heap.objs.size + 1 := size_push' _ _
  have hit : H2.get? (s.heap.objs.size + 1) = some { cls := .type "set_iterator", data := .fields #[.int 0 0, .int 0 0, .ref S, .int es.size 0, .int ep 0] } := oth _ _ (by omega) (by rw [<- hsz1]; exact Heap.get?_push_size _ rfl)
  refine wpAny_pure ⟨plainId_quiet PySem.F.plain_extend_loop _, ?_⟩
  show codeAny _ _ (.builtin "list.extend.loop" ⟨[.ref s.heap.objs.size, .ref (s.heap.push (seqObj "list" #[] 0)).objs.size, .ref s.heap.objs.size], []⟩) _ _
  rw [hsz1]
  have W:Walks prog w A.in1 (s.heap.objs.size + 1) [s.heap.objs.size + 1, S] [s.heap.objs.size + 1] es.size (fun i v => ((ordS w S ep es)[i]?).map (·.2) = some v) (fun i h => SetIt h (s.heap.objs.size + 1) S (slotAt w t i) i es.size ep /\ SetRaw h S es ep t) := setIter_walks (Nat.ne_of_lt (Nat.lt_succ_of_lt hlt)) (by simp [hh]) T hs hpl hle
  refine codeAny_extend_loopS W.toS (by rw [sizeLine_eq]; omega) s.heap.objs.size (by simp only [List.mem_cons, List.not_mem_nil, or_false, not_or]; exact ⟨Nat.ne_of_lt (Nat.lt_succ_self _), Nat.ne_of_gt hlt⟩) _ es.size 0 _ #[] _ rfl (Nat.zero_le _) ⟨⟨_, hit, rfl, rfl⟩, o, old S o ho, hex, hd⟩ (by rw [hS2]; rfl) (ItemsOf.nil _) fun s' acc c hm hS' hacc => ?_
  obtain ⟨h', g', d', tk', os'⟩ := s'
  have eg:g' = s.gens := hm.gens
  have ed:d' = s.drawn := hm.drawn
  have eo:os' = s.os := hm.os
  subst eg ed eo
  refine wpAny_bind (wpAny_load hS' ?_)
  have ea:acc.toList = (ordS w S ep es).toList.map (·.2) := by
    apply List.ext_getElem?
    intro i
    by_cases hi:i < acc.size
    · have e1:acc.toList[i]? = some acc[i] := by rw [Array.getElem?_toList]; simp [hi]
      have e2 := hacc.2 i acc[i] (by simp [hi])
      rw [e1, List.getElem?_map, Array.getElem?_toList]; exact e2.symm
    · rw [List.getElem?_eq_none (by simpa using Nat.le_of_not_lt hi), List.getElem?_eq_none]
      rw [List.length_map, Array.length_toList, ord_size, <- hacc.1]; exact Nat.le_of_not_lt hi
  show wpAny _ _ (pure acc.toList) _ _ _
  rw [ea]
  refine wpAny_pure (h h' tk' (Heap.lt_size hS') fun b o e => hm.heap b o ?_ (old b o e))
  have := Heap.lt_size e
  simp only [List.mem_cons, List.not_mem_nil, or_false, not_or]
  exact ⟨Nat.ne_of_lt this, Nat.ne_of_lt (Nat.lt_succ_of_lt this)⟩
end
end L2
namespace L2
open PySem PySem.Spec PySem.Calls PyProof.Rows ST
def lexB:List Int -> List Int -> Bool
  | [], [] => false
  | [], _ :: _ => true
  | _ :: _, [] => false
  | a :: x, b :: y => if a = b then lexB x y else decide (a < b)
theorem lex_irr:∀ a:List Int, lexB a a = false
  | [] => rfl
  | a :: x => by unfold lexB; rw [if_pos rfl]; exact lex_irr x
theorem lex_tr:∀ a b c:List Int, lexB a b = true -> lexB b c = true -> lexB a c = true
  | [], [], _, h, _ => by cases h
  | [], _ :: _, [], _, h => by cases h
  | [], _ :: _, _ :: _, _, _ => rfl
  | _ :: _, [], _, h, _ => by cases h
  | _ :: _, _ :: _, [], _, h => by cases h
  | a :: x, b :: y, c :: z, h1, h2 => by
    unfold lexB at h1 h2 ⊢
    by_cases e1:a = b
    · subst e1
      rw [if_pos rfl] at h1
      by_cases e2:a = c
      · subst e2; rw [if_pos rfl] at h2 ⊢; exact lex_tr x y z h1 h2
      · rw [if_neg e2] at h2 ⊢; exact h2
    · rw [if_neg e1] at h1
      have h1:a < b := by simpa using h1
      by_cases e2:b = c
      · subst e2; rw [if_neg e1]; simpa using h1
      · rw [if_neg e2] at h2
        have h2:b < c := by simpa using h2
        rw [if_neg (by omega)]
        simp; omega
theorem lex_tot:∀ a b:List Int, a ≠ b -> lexB a b = true \/ lexB b a = true
  | [], [], h => (h rfl).elim
  | [], _ :: _, _ => .inl rfl
  | _ :: _, [], _ => .inr rfl
  | a :: x, b :: y, h => by
    unfold lexB
    by_cases e:a = b
    · subst e
      rw [if_pos rfl, if_pos rfl]
      exact lex_tot x y fun z => h (by rw [z])
    · rw [if_neg e, if_neg (Ne.symm e)]
      rcases Int.lt_or_gt_of_ne e with z | z
      · exact .inl (by simpa using z)
      · exact .inr (by simpa using z)
section
variable {prog:Program} {w:World} {A:Around} {E:Value -> Shared -> Prop} {s:Shared}
theorem lex_ask {Q:Bool -> Shared -> Prop} : ∀ {a b:List Int} {xs ys:List Value} (i:Nat), ItemsAre (mixKind prog w) (iK a) xs -> ItemsAre (mixKind prog w) (iK b) ys -> Q (lexB a b) s -> PySem.W.KatLex prog w A true (decide (xs.length < ys.length)) Q (xs.zip ys) i s
  | [], [], _, _, i, hx, hy, h => by cases hx; cases hy; exact h
  | [], _ :: _, _, _, i, hx, hy, h => by
    cases hx
    cases hy with
    | cons h1 h2 => exact PySem.W.kat_nil h
  | _ :: _, [], _, _, i, hx, hy, h => by
    cases hy
    cases hx with
    | cons h1 h2 => exact PySem.W.kat_nil h
  | a :: x, b :: y, _, _, i, hx, hy, h => by
    cases hx with
    | @cons _ v1 _ vs1 h1 hx' =>
      cases hy with
      | @cons _ v2 _ vs2 h2 hy' =>
        obtain ⟨t1, rfl⟩ := mix_int h1
        obtain ⟨t2, rfl⟩ := mix_int h2
        rw [List.zip_cons_cons]
        refine PySem.W.kat_cons (wpAny_eqBool_int ?_)
        unfold lexB at h
        by_cases e:a = b
        · subst e
          rw [if_pos rfl] at h
          rw [beq_self_eq_true]
          refine PySem.W.kat_yes ?_
          have := lex_ask (i + 1) hx' hy' h
          simpa using this
        · rw [if_neg e] at h
          have eb:(a == b) = false := by simpa using e
          rw [eb]
          refine PySem.W.kat_no ?_
          cases i with
          | zero => exact oneLt_int h
          | succ i => exact PySem.W.kat_one _ _ (lt_int h)
structure Tups (prog:Program) (w:World) (h:Heap) (xs:List TItem) : Prop where
  is:∀ x ∈ xs, (tK prog w).is h (iK x.1) x.2
  ne:∀ x ∈ xs, x.1 ≠ []
  nd:(xs.map (·.1)).Nodup
theorem Tups.keep {h h':Heap} {xs:List TItem} (t:Tups prog w h xs) (k:∀ b o, h.get? b = some o -> h'.get? b = some o) : Tups prog w h' xs := ⟨fun x hx => is_keep (t.is x hx) k, t.ne, t.nd⟩
def valsT (xs:List TItem) : List Value := xs.map fun x => Value.ref x.2
def keyAt (xs:List TItem) (i:Nat) : List Int := ((xs[i]?).map (·.1)).getD []
theorem tups_lt {xs:List TItem} (t:Tups prog w s.heap xs) : Lt xs.length fun i j => lexB (keyAt xs i) (keyAt xs j) where
  irr := fun i => lex_irr _
  tr := fun i j k => lex_tr _ _ _
  tot := fun i j hi hj e => lex_tot _ _ fun z => by
    have gi:keyAt xs i = (xs.map (·.1))[i]'(by simpa using hi) := by simp [keyAt, hi]
    have gj:keyAt xs j = (xs.map (·.1))[j]'(by simpa using hj) := by simp [keyAt, hj]
    rw [gi, gj] at z
    rcases Nat.lt_or_gt_of_ne e with q | q
    · exact List.pairwise_iff_getElem.mp t.nd i j (by simpa using hi) (by simpa using hj) q z
    · exact List.pairwise_iff_getElem.mp t.nd j i (by simpa using hj) (by simpa using hi) q z.symm
theorem tups_ask {xs:List TItem} (t:Tups prog w s.heap xs) : Ans xs.length (fun i j => lexB (keyAt xs i) (keyAt xs j)) (PySem.W.kas_ask prog w A (tuples' true) (valsT xs)) s := by
  intro i j C hi hj h
  have one:∀ k, k < xs.length -> ∃ x, (valsT xs).getD k Value.none = .ref x.2 /\ keyAt xs k = x.1 /\ x ∈ xs := fun k hk => ⟨xs[k], by simp [valsT, hk], by simp [keyAt, hk], List.getElem_mem hk⟩
  obtain ⟨x, ex, kx, mx⟩ := one i hi
  obtain ⟨y, ey, ky, my⟩ := one j hj
  unfold PySem.W.kas_ask
  rw [ex, ey]
  obtain ⟨ox, ix, nx, hx, cx, dx, lx⟩ := t.is x mx
  obtain ⟨oy, iy, ny, hy, cy, dy, ly⟩ := t.is y my
  refine PySem.W.kat_lt hx dx hy dy ?_
  have h:C (lexB (keyAt xs i) (keyAt xs j)) s := h
  rw [kx, ky] at h
  have := lex_ask (A := A) 0 lx ly h
  simpa using this
theorem tups_kat {h:Heap} : ∀ {xs:List TItem}, (∀ x ∈ xs, (tK prog w).is h (iK x.1) x.2) -> (∀ x ∈ xs, x.1 ≠ []) -> ∃ fs:List Value, PySem.W.KatTups h (valsT xs) fs /\ fs.length = xs.length /\ ∀ v ∈ fs, ∃ i t, v = Value.int i t
  | [], _, _ => ⟨[], trivial, rfl, fun v hv => nomatch hv⟩
  | x :: xs, h1, h2 => by
    obtain ⟨fs, a, b, c⟩ := tups_kat (fun y hy => h1 y (List.mem_cons_of_mem _ hy)) fun y hy => h2 y (List.mem_cons_of_mem _ hy)
    obtain ⟨ox, ix, nx, hx, cx, dx, lx⟩ := h1 x List.mem_cons_self
    have hne := h2 x List.mem_cons_self
    obtain ⟨k, b'⟩ := x
    dsimp only at hne lx hx
    cases k with
    | nil => exact (hne rfl).elim
    | cons n ns =>
      generalize hl:ix.toList = l at lx
      cases lx with
      | @cons _ v _ vs q1 q2 =>
        obtain ⟨t, rfl⟩ := mix_int q1
        refine ⟨.int n t :: fs, ⟨⟨b', ox, ix, nx, rfl, hx, cx, dx, ?_⟩, a⟩, by simp [b], fun v hv => ?_⟩
        · rw [<- Array.getElem?_toList, hl]; rfl
        · rcases List.mem_cons.mp hv with rfl | hv
          · exact ⟨n, t, rfl⟩
          · exact c v hv
theorem tups_kind {xs:List TItem} {Q:SortKind -> Shared -> Prop} (t:Tups prog w s.heap xs) (hne:0 < xs.length) (h:Q (tuples' true) s) : wpAny (model prog w) A (keyKind' (valsT xs).toArray) Q E s := by
  obtain ⟨fs, a, b, c⟩ := tups_kat t.is t.ne
  refine PySem.W.kat_kind (T := .type "int") a (by omega) (fun v hv => ?_) (by decide) ?_
  · obtain ⟨i, t, rfl⟩ := c v hv
    exact fun A Q E s k q => wpAny_pure q
  · have : (Value.type "int" != Value.type "tuple") = true := by decide
    rw [this]; exact h
end
end L2
namespace L2
open PySem PySem.Spec PySem.Calls PyProof.Rows ST
def itemAt (xs:List TItem) (i:Nat) : TItem := (xs[i]?).getD ([], 0)
theorem range_items:∀ (xs:List TItem), (List.range xs.length).map (itemAt xs) = xs := by
  intro xs
  apply List.ext_getElem?
  intro i
  rw [List.getElem?_map]
  by_cases h:i < xs.length
  · rw [List.getElem?_range h, List.getElem?_eq_getElem h]; simp [itemAt, h]
  · rw [List.getElem?_eq_none (by simpa using h), List.getElem?_eq_none (by simpa using h)]; rfl
theorem key_item (xs:List TItem) (i:Nat) : keyAt xs i = (itemAt xs i).1 := by
  unfold keyAt itemAt
  cases xs[i]? <;> rfl
section
variable {prog:Program} {w:World} {A:Around} {E:Value -> Shared -> Prop} {s:Shared}
theorem Tups.off {h h' : Heap} {xs : List TItem} {a : Addr} {o : Obj} (t : Tups prog w h xs) (ho : h.get? a = some o) (hc : o.cls = .type "list") (k : ∀ b o, b ≠ a -> h.get? b = some o -> h'.get? b = some o) : Tups prog w h' xs := by
  refine ⟨fun x hx => ?_, t.ne, t.nd⟩
  obtain ⟨ox, ix, nx, h1, c1, r⟩ := t.is x hx
  refine ⟨ox, ix, nx, k x.2 ox (fun e => ?_) h1, c1, r⟩
  rw [e, ho] at h1
  cases h1
  rw [hc] at c1
  exact absurd c1 (by decide)
theorem perm_items {N:Nat} {xs:List TItem} {p:Array Nat} (hN:N = xs.length) (pm:Pm N p) : (p.toList.map (itemAt xs)).Perm xs := by
  subst hN
  have := List.Perm.map (itemAt xs) pm
  rw [range_items] at this
  exact this
theorem pw_items {xs:List TItem} {p:Array Nat} (pm:Pm xs.length p) (so:So (fun i j => lexB (keyAt xs i) (keyAt xs j)) p xs.length) : (p.toList.map (itemAt xs)).Pairwise fun x y => lexB x.1 y.1 = true := by
  rw [List.pairwise_map, List.pairwise_iff_getElem]
  intro i j hi hj hij
  have hi':i < p.size := by simpa using hi
  have hj':j < p.size := by simpa using hj
  have := so i j hij (by rw [<- pm.size]; exact hj')
  dsimp only at this
  rw [key_item, key_item] at this
  have ei:at0 p i = p.toList[i] := by simp [at0, Array.getD, hi']
  have ej:at0 p j = p.toList[j] := by simp [at0, Array.getD, hj']
  rw [ei, ej] at this
  exact this
theorem vals_items {xs:List TItem} {p:Array Nat} (pm:Pm xs.length p) : (p.toList.map fun i => (valsT xs).getD i Value.none) = valsT (p.toList.map (itemAt xs)) := by
  unfold valsT
  rw [List.map_map]
  refine List.map_congr_left fun i hi => ?_
  have hi:i < xs.length := List.mem_range.mp (pm.mem_iff.mp hi)
  simp [itemAt, hi]
theorem sort_tups {a : Addr} {n : Nat} {xs : List TItem} {P : PySem.Fin -> Shared -> Prop} (ho : s.heap.get? a = some (seqObj "list" (valsT xs).toArray n)) (t : Tups prog w s.heap xs) (h64 : xs.length < 64)
    (h : ∀ ys h' c, ys.Perm xs -> ys.Pairwise (fun x y => lexB x.1 y.1 = true) -> h'.get? a = some (seqObj "list" (valsT ys).toArray c) -> (∀ b o, b ≠ a -> s.heap.get? b = some o -> h'.get? b = some o) -> P (.done (.ret .none)) { s with heap := h' }) :
    wpAny (model prog w) A (Builtin.«list.sort» ⟨[.ref a], []⟩) P E s := by
  have ha:a < s.heap.objs.size := Heap.lt_size ho
  have hvl:(valsT xs).length = xs.length := by simp [valsT]
  rw [list_sort_plain]
  refine wpAny_bind (listItems_at ho rfl (wpAny_bind (listUpdate_at ho rfl ?_ (by rw [List.size_toArray, hvl, sizeLine_eq]; omega) (Nat.zero_le _))))
  obtain ⟨e1, ho1⟩ : ∃ e1, (s.heap.update a (Obj.mapSeq fun _ => #[])).get? a = some (seqObj "list" #[] e1) := ⟨_, get?_update_seq ho (fun _ => #[])⟩
  refine wpAny_bind (seqEpoch_at ho1 rfl (wpAny_bind (wpAny_newTuple (wpAny_bind (wpAny_newList (wpAny_holding ?_) (Nat.zero_le _))) (by show (valsT xs).length <= _; rw [hvl, sizeLine_eq]; omega))))
  have lt1:a < (s.heap.update a (Obj.mapSeq fun _ => (#[] : Array Value))).objs.size := Heap.lt_size ho1
  have oth : ∀ b o, b ≠ a -> s.heap.get? b = some o -> (((s.heap.update a (Obj.mapSeq fun _ => (#[] : Array Value))).push (seqObj "tuple" (valsT xs).toArray 0)).push (seqObj "list" #[] 0)).get? b = some o := fun b o hb e =>
    Heap.get?_push_of_some _ (Heap.get?_push_of_some _ ((Heap.get?_update_other _ _ (Ne.symm hb)).trans e))
  have ho6 : (((s.heap.update a (Obj.mapSeq fun _ => (#[] : Array Value))).push (seqObj "tuple" (valsT xs).toArray 0)).push (seqObj "list" #[] 0)).get? a = some (seqObj "list" #[] e1) := Heap.get?_push_of_some _ (Heap.get?_push_of_some _ ho1)
  show wpAny (model prog w) A _ P E { s with heap := ((s.heap.update a (Obj.mapSeq fun _ => (#[] : Array Value))).push (seqObj "tuple" (valsT xs).toArray 0)).push (seqObj "list" #[] 0) }
  generalize (((s.heap.update a (Obj.mapSeq fun _ => (#[] : Array Value))).push (seqObj "tuple" (valsT xs).toArray 0)).push (seqObj "list" #[] 0)) = H6 at ho6 oth
  dsimp only
  have fin:∀ (ys:List TItem) (out:Array Value), ys.Perm xs -> ys.Pairwise (fun x y => lexB x.1 y.1 = true) -> out = (valsT ys).toArray -> P (.done (.ret .none)) { s with heap := H6.update a (Obj.mapSeq fun _ => out) } := fun ys out hp hw ho => by
    subst ho
    exact h ys _ _ hp hw (get?_update_seq ho6 fun _ => (valsT ys).toArray) fun b o hb e => (Heap.get?_update_other _ _ (Ne.symm hb)).trans (oth b o hb e)
  by_cases h2:(valsT xs).toArray.size < 2
  · rw [if_pos h2, if_pos h2]
    refine wpAny_bind (wpAny_pure ?_)
    rw [StateT.run_pure]
    have hx2:xs.length < 2 := by rw [List.size_toArray, hvl] at h2; exact h2
    have hout:Array.map (fun x:Keyed => x.2) ((valsT xs).toArray.zip (valsT xs).toArray) = (valsT xs).toArray := by
      apply Array.ext'
      simp [List.map_snd_zip]
    refine wpAny_bind (wpAny_pure ?_)
    dsimp only
    refine wpAny_bind (seqEpoch_at ho6 rfl (wpAny_bind (listUpdate_at ho6 rfl ?_ (Nat.zero_le _) ?_)))
    · simp only [bne_self_eq_false, Bool.false_eq_true, if_false]
      refine wpAny_pure (fin xs _ (List.Perm.refl _) ?_ hout)
      match xs, hx2 with
      | [], _ => exact List.Pairwise.nil
      | [x], _ => exact List.pairwise_singleton _ _
    · show (Array.map (fun x:Keyed => x.2) ((valsT xs).toArray.zip (valsT xs).toArray)).size <= _
      rw [hout, List.size_toArray, hvl, sizeLine_eq]; omega
  · rw [if_neg h2, if_neg h2]
    have hx2:2 <= xs.length := by rw [List.size_toArray, hvl] at h2; omega
    have t6:Tups prog w H6 xs := t.off ho rfl oth
    refine wpAny_bind (tups_kind (s := { s with heap := H6 }) t6 (by omega) ?_)
    refine wpAny_bind (wpAny_mono (PySem.W.kat_run (s := { s with heap := H6 }) (Q := fun st' s' => s' = { s with heap := H6 } /\ ∃ p:Array Nat, Pm xs.length p /\ So (fun i j => lexB (keyAt xs i) (keyAt xs j)) p xs.length /\ arrOf st' = p.map (PySem.W.kas_item ((valsT xs).toArray.zip (valsT xs).toArray)) /\ failedOf st' = none)
      (G := fun p s' => s' = { s with heap := H6 } /\ Pm xs.length p /\ So (fun i j => lexB (keyAt xs i) (keyAt xs j)) p xs.length) rfl (by omega) (by omega) (fun p st' s' _ a2 a3 g => ⟨g.1, p, g.2.1, g.2.2, a2, a3⟩) ?_) ?_ fun _ _ e => e)
    · rw [hvl]
      exact wp_sort (tups_lt (s := { s with heap := H6 }) t6) (tups_ask (s := { s with heap := H6 }) t6) hx2 fun p pm so => ⟨rfl, pm, so⟩
    · rintro ⟨⟨⟩, st'⟩ s' ⟨rfl, p, pm, so, har, hf⟩
      dsimp only
      have hout:(arrOf st').map (·.2) = (valsT (p.toList.map (itemAt xs))).toArray := by
        rw [PySem.W.kat_snds rfl har, vals_items pm]
      rw [hout]
      refine wpAny_bind (seqEpoch_at ho6 rfl (wpAny_bind (listUpdate_at ho6 rfl ?_ (Nat.zero_le _) ?_)))
      · rw [hf]
        simp only [bne_self_eq_false, Bool.false_eq_true, if_false]
        exact wpAny_pure (fin _ _ (perm_items rfl pm) (pw_items pm so) rfl)
      · show (valsT (p.toList.map (itemAt xs))).toArray.size <= _
        have := pm.size
        simp [valsT, this]
        rw [sizeLine_eq]; omega
end
end L2
namespace L2
open PySem PySem.Spec PySem.Calls PyProof.Rows ST
section
variable {prog:Program} {w:World} {A:Around} {E:Value -> Shared -> Prop} {s:Shared}
theorem items_of {its:List TItem} : ∀ (l:List (Int × Value)), (∀ e ∈ l, ∃ x ∈ its, e = ((tK prog w).hash (iK x.1), Value.ref x.2)) -> ∃ zs:List TItem, l = zs.map (fun x => ((tK prog w).hash (iK x.1), Value.ref x.2)) /\ ∀ z ∈ zs, z ∈ its
  | [], _ => ⟨[], rfl, fun z hz => nomatch hz⟩
  | e :: l, h => by
    obtain ⟨x, hx, rfl⟩ := h e List.mem_cons_self
    obtain ⟨zs, h1, h2⟩ := items_of l fun e he => h e (List.mem_cons_of_mem _ he)
    exact ⟨x :: zs, by rw [h1]; rfl, fun z hz => by
      rcases List.mem_cons.mp hz with rfl | hz
      · exact hx
      · exact h2 z hz⟩
structure SortedOf (its ys:List TItem) : Prop where
  sub:∀ y ∈ ys, y ∈ its
  all:∀ x ∈ its, ∃ y ∈ ys, y.1 = x.1
  pw:ys.Pairwise fun x y => lexB x.1 y.1 = true
theorem call_sortedT {S:Addr} {es:Array (Int × Value)} {its:List TItem} {Q:Value -> Shared -> Prop} (sa:SetAt w s.heap S es) (v:SInv prog w es its) (his:∀ x ∈ its, (tK prog w).is s.heap (iK x.1) x.2) (hne:∀ x ∈ its, x.1 ≠ []) (hh:A.handled = none) (hz:es.size <= 63)
    (h : ∀ ys h' tk l c, SortedOf its ys -> s.heap.objs.size <= l -> h'.get? l = some (seqObj "list" (valsT ys).toArray c) -> (∀ b o, s.heap.get? b = some o -> h'.get? b = some o) -> Q (.ref l) { s with heap := h', toks := tk }) :
    wpAny (model prog w) A (call (.builtin "sorted") [.ref S]) Q E s := by
  obtain ⟨o, ep, t, ho, hex, hd, T, sp, hpl, hle⟩ := sa
  have pe := ord_perm w S ep es
  obtain ⟨zs, ez, zm⟩ := items_of (prog := prog) (w := w) (its := its) (ordS w S ep es).toList fun e he => v.el e (pe.mem_iff.mp he)
  have ev:(ordS w S ep es).toList.map (·.2) = valsT zs := by rw [ez, List.map_map]; rfl
  have hzl:zs.length = es.size := by
    have := congrArg List.length ez
    rw [List.length_map, Array.length_toList, ord_size] at this
    exact this.symm
  have nd:(zs.map (·.1)).Nodup := by
    have pw := (pe.pairwise_iff (fun {x y} hxy a b e1 e2 m1 m2 z => hxy b a e2 e1 m2 m1 z.symm)).mpr v.pw
    rw [ez, List.pairwise_map] at pw
    unfold List.Nodup
    rw [List.pairwise_map]
    exact List.Pairwise.imp_of_mem (fun {a b} ha hb hab => hab a b rfl rfl (zm a ha) (zm b hb)) pw
  refine Calls.call_function_entry kind_sorted plain_sorted entry_sorted (args_sorted1 _) ?_
  unfold Builtin.«sorted»
  refine wpAny_bind (m := checkCount "sorted" 1 1 _) (wpAny_pure (wpAny_bind (collect_set ⟨o, ho, hex, hd⟩ T (spare_le sp) hpl hle (by simp [hh]) hz fun h1 tk1 g1 k1 => ?_)))
  rw [ev]
  refine wpAny_bind (wpAny_newList ?_ (by show (valsT zs).length <= _; simp only [valsT, List.length_map]; rw [hzl, sizeLine_eq]; omega))
  have hoL : (h1.push (seqObj "list" (valsT zs).toArray 0)).get? h1.objs.size = some (seqObj "list" (valsT zs).toArray 0) := Heap.get?_push_size _ rfl
  have kk : ∀ b o, s.heap.get? b = some o -> (h1.push (seqObj "list" (valsT zs).toArray 0)).get? b = some o := fun b o e => Heap.get?_push_of_some _ (k1 b o e)
  have ge:s.heap.objs.size <= h1.objs.size := Nat.le_of_lt g1
  have t1 : Tups prog w (h1.push (seqObj "list" (valsT zs).toArray 0)) zs := ⟨fun x hx => is_keep (his x (zm x hx)) kk, fun x hx => hne x (zm x hx), nd⟩
  refine wpAny_bind (wpAny_holding (wpAny_call_entry slot_list_sort ⟨_, hoL, rfl⟩ entry_list_sort ?body (args_list_sort _)))
  case body =>
    refine sort_tups (s := { s with heap := h1.push (seqObj "list" (valsT zs).toArray 0), toks := tk1 }) hoL t1 (by omega) fun ys h2 c2 hp hw hl2 k2 => ⟨_, rfl, ?_⟩
    refine wpAny_pure ⟨_, rfl, h ys h2 tk1 _ c2 ⟨fun y hy => zm y (hp.mem_iff.mp hy), fun x hx => ?_, hw⟩ ge hl2 fun b o e => k2 b o (fun z => ?_) (kk b o e)⟩
    · obtain ⟨y, y1, y2, y3⟩ := v.all x hx
      have y4:((tK prog w).hash (iK y.1), Value.ref y.2) ∈ zs.map (fun x => ((tK prog w).hash (iK x.1), Value.ref x.2)) := by rw [<- ez]; exact pe.mem_iff.mpr y3
      obtain ⟨z, z1, z2⟩ := List.mem_map.mp y4
      have z3:z.2 = y.2 := by simp only [Prod.mk.injEq, Value.ref.injEq] at z2; exact z2.2
      refine ⟨z, hp.mem_iff.mpr z1, ?_⟩
      have := (tK prog w).inj (his z (zm z z1)) (by rw [z3]; exact his y y1)
      rw [iK_inj this, y2]
    · subst z
      exact absurd (Heap.lt_size e) (Nat.not_lt.mpr ge)
end
end L2
namespace L2
open PySem PySem.Spec PySem.Calls PyProof.Rows ST
def TupsIn (H:Hp) : List V -> List TItem -> Prop := Paired fun v x => v = .ref x.2 /\ H x.2 = some (.tup ((iK x.1).map kV))
theorem TupsIn.get {H:Hp} : ∀ {vs:List V} {us:List Value} {its:List TItem}, TupsIn H vs its -> Vals vs us -> its.length = us.length /\ (∀ (i:Nat) (v:Value), us[i]? = some v -> ∃ x:TItem, its[i]? = some x /\ v = .ref x.2) /\ ∀ x ∈ its, H x.2 = some (.tup ((iK x.1).map kV))
  | _, _, _, .nil, .nil => ⟨rfl, fun i v e => by simp at e, fun x hx => nomatch hx⟩
  | _, _, _, .cons (a := v) (b := y) q t, .cons (b := u) r s => by
    obtain ⟨a, b, c⟩ := TupsIn.get t s
    obtain ⟨rfl, q⟩ := q
    obtain rfl:u = Value.ref y.2 := r
    refine ⟨by simp [a], fun i v e => ?_, fun x hx => ?_⟩
    · cases i with
      | zero => simp at e; exact ⟨y, rfl, e.symm⟩
      | succ i => exact b i v (by simpa using e)
    · rcases List.mem_cons.mp hx with rfl | hx
      · exact q
      · exact c x hx
section
variable {X:Cx}
theorem call_setR (hc : X.calm = true) (hu : X.A.units + 64 < cLine) : CallR X (.type "set") (fun xs H Q => ∃ l vs its, xs = [.ref l] /\ Rd H l (.lst vs) /\ TupsIn H vs its /\ vs.length <= 63 /\
    ∀ p es, H p = none -> SInv X.prog X.w es its -> Q (.ref p) (upd H p (.ext fun h => SetAt X.w h p es))) := by
  intro pins s σ H xs us Q I r h
  obtain ⟨l, vs, its, rfl, hl, hp, hz, q⟩ := h
  obtain ⟨u, rfl, ru⟩ := vals1 r
  obtain rfl:u = Value.ref l := ru
  obtain ⟨_, us, n, rv, hg⟩ := (show ObjOk X.prog X.w H s.heap l (.lst vs) from hl.ok I.hok)
  obtain ⟨g1, g2, g3⟩ := hp.get rv
  refine call_setT (I.ok.hd hc) hu hg (its := its) (by rw [g1, List.size_toArray]) (by rw [List.size_toArray, <- rv.length]; exact hz) (fun i v e => g2 i v (by simpa using e)) (fun x hx => key_of I.hok (g3 x hx)) fun h' tk es hS v hk => ?_
  have hf:H s.heap.objs.size = none := I.hok.fresh (Nat.le_refl _)
  refine ⟨.ref s.heap.objs.size, _, I.laid (a := s.heap.objs.size) (o := .ext fun h => SetAt X.w h s.heap.objs.size es) (t' := tk) (fun b o e => hk b o (Heap.lt_size e) e) (Nat.le_refl _) ?_, rfl, q _ es hf v⟩
  exact ⟨hS, (let ⟨o, _, _, e, _⟩ := hS; ⟨o, e⟩), fun h1 h2 hs k => SetAt.keep hs k⟩
theorem call_sortedR (hc : X.calm = true) : CallR X (.builtin "sorted") (fun xs H Q => ∃ p es its, xs = [.ref p] /\ H p = some (.ext fun h => SetAt X.w h p es) /\ SInv X.prog X.w es its /\ (∀ x ∈ its, H x.2 = some (.tup ((iK x.1).map kV))) /\ (∀ x ∈ its, x.1 ≠ []) /\ its.length <= 63 /\
    ∀ l ys, H l = none -> SortedOf its ys -> Q (.ref l) (upd H l (.lst (ys.map fun y => .ref y.2)))) := by
  intro pins s σ H xs us Q I r h
  obtain ⟨p, es, its, rfl, hp, v, ht, hne, hz, q⟩ := h
  obtain ⟨u, rfl, ru⟩ := vals1 r
  obtain rfl:u = Value.ref p := ru
  obtain ⟨hS, _, _⟩ := (show ObjOk X.prog X.w H s.heap p (.ext fun h => SetAt X.w h p es) from I.hok p _ hp)
  have hes:es.size <= 63 := Nat.le_trans v.sz hz
  refine call_sortedT hS v (fun x hx => key_of I.hok (ht x hx)) hne (I.ok.hd hc) hes fun ys h' tk l c so hle hl hk => ?_
  have hf:H l = none := I.hok.fresh hle
  have hyl:ys.length <= 63 := by
    have nd:(ys.map (·.1)).Nodup := by
      unfold List.Nodup
      rw [List.pairwise_map]
      exact so.pw.imp fun {a b} hab e => by rw [e, lex_irr] at hab; cases hab
    refine Nat.le_trans ?_ hz
    have:∀ (a b:List (List Int)), a.Nodup -> (∀ x ∈ a, x ∈ b) -> a.length <= b.length := by
      intro a
      induction a with
      | nil => intro b _ _; exact Nat.zero_le _
      | cons x a ih =>
        intro b nd hs
        have hx:x ∈ b := hs x List.mem_cons_self
        have := ih (b.erase x) (List.nodup_cons.mp nd).2 fun y hy => (List.mem_erase_of_ne (show y ≠ x from fun e => (List.nodup_cons.mp nd).1 (by rw [<- e]; exact hy))).mpr (hs y (List.mem_cons_of_mem _ hy))
        rw [List.length_erase_of_mem hx] at this
        have:0 < b.length := List.length_pos_of_mem hx
        simp only [List.length_cons]; omega
    have := this _ (its.map (·.1)) nd fun k hk => by
      obtain ⟨y, hy, rfl⟩ := List.mem_map.mp hk
      exact List.mem_map.mpr ⟨y, so.sub y hy, rfl⟩
    simpa using this
  refine ⟨.ref l, _, I.laid (a := l) (o := .lst (ys.map fun y => .ref y.2)) (t' := tk) hk hle ?_, rfl, q l ys hf so⟩
  refine ⟨by rw [List.length_map, sizeLine_eq]; omega, valsT ys, c, ?_, hl⟩
  clear so hl hyl
  induction ys with
  | nil => exact .nil
  | cons y ys ih => exact .cons rfl ih
end
end L2
set_option autoImplicit true
namespace L3
open PySem PySem.Spec PyProof.Rows L2
abbrev DK := Sum Key (List Key)
inductive D where
  | non | bl (b:Bool) | int (i:Int) | str (x:Str) | tup (ds:List D) | lst (ds:List D) | dic (ks:List DK) (ds:List D)
mutual
def D.flat:D -> Bool
  | .lst _ => false
  | .dic _ _ => false
  | .tup ds => D.flats ds
  | _ => true
def D.flats:List D -> Bool
  | [] => true
  | d :: ds => d.flat && D.flats ds
end
mutual
def D.dep:D -> Nat
  | .lst ds => D.deps ds + 1
  | .tup ds => D.deps ds + 1
  | .dic _ ds => D.deps ds + 1000
  | _ => 0
def D.deps:List D -> Nat
  | [] => 0
  | d :: ds => max d.dep (D.deps ds)
end
mutual
def eqD:D -> D -> Bool
  | .non, e => match e with | .non => true | _ => false
  | .bl a, e => match e with | .bl b => a == b | .int b => (if a then 1 else 0) == b | _ => false
  | .int a, e => match e with | .int b => a == b | .bl b => a == (if b then 1 else 0) | _ => false
  | .str a, e => match e with | .str b => a == b | _ => false
  | .tup as, e => match e with | .tup bs => eqDs as bs | _ => false
  | .lst as, e => match e with | .lst bs => eqDs as bs | _ => false
  | .dic ks as, e => match e with | .dic ls bs => decide (ks = ls) && eqDs as bs | _ => false
def eqDs:List D -> List D -> Bool
  | [], bs => match bs with | [] => true | _ => false
  | a :: as, bs => match bs with | b :: r => eqD a b && eqDs as r | [] => false
end
mutual
theorem eqD_refl:∀ d:D, eqD d d = true
  | .non => rfl
  | .bl a => by simp [eqD]
  | .int a => by simp [eqD]
  | .str a => by simp [eqD]
  | .tup as => by simp only [eqD]; exact eqDs_refl as
  | .lst as => by simp only [eqD]; exact eqDs_refl as
  | .dic ks as => by simp only [eqD, decide_true, Bool.true_and]; exact eqDs_refl as
theorem eqDs_refl:∀ ds:List D, eqDs ds ds = true
  | [] => rfl
  | d :: ds => by simp only [eqDs, eqD_refl d, eqDs_refl ds, Bool.and_self]
end
def DAt (H:Hp) (a:Addr) (ks:List DK) (vs:List V) : Prop :=
  (∃ kvs:List (Key × V), Rd H a (.dK kvs) /\ ks = kvs.map (fun p => .inl p.1) /\ vs = kvs.map Prod.snd) \/ ∃ kvs:List (List Key × V), Rd H a (.dT kvs) /\ ks = kvs.map (fun p => .inr p.1) /\ vs = kvs.map Prod.snd
def mutO:HO -> Prop
  | .lst _ => True
  | .dK _ => True
  | .dT _ => True
  | _ => False
def Mu (H:Hp) (a:Addr) : Prop := ∃ o, H a = some o /\ mutO o
theorem Mu.lst {H:Hp} {a:Addr} {vs:List V} (h:H a = some (.lst vs)) : Mu H a := ⟨_, h, True.intro⟩
theorem Mu.same {H H':Hp} {a:Addr} (h:Mu H a) (s:∀ o, H a = some o -> H' a = some o) : Mu H' a := let ⟨o, e, m⟩ := h; ⟨o, s o e, m⟩
theorem Mu.some {H:Hp} {a:Addr} (h:Mu H a) : H a ≠ none := by obtain ⟨o, e, _⟩ := h; rw [e]; simp
theorem rdObj {H:Hp} {a:Addr} {u:HO} (h:Rd H a u) : ∃ o, H a = some o := h.elim (fun e => ⟨_, e⟩) fun ⟨_, e⟩ => ⟨_, e⟩
theorem rdKeep {H H':Hp} {a:Addr} {u:HO} (h:Rd H a u) (s:∀ o, H a = some o -> H' a = some o) : Rd H' a u := h.imp (s _) fun ⟨o, e⟩ => ⟨o, s _ e⟩
theorem DAt.obj {H:Hp} {a:Addr} {ks:List DK} {vs:List V} (h:DAt H a ks vs) : ∃ o, H a = some o := h.elim (fun ⟨_, e, _⟩ => rdObj e) fun ⟨_, e, _⟩ => rdObj e
theorem DAt.mu {H:Hp} {a:Addr} {ks:List DK} {vs:List V} (h:DAt H a ks vs) (n:∀ o u, H a ≠ some (.frz o u)) : Mu H a := by
  rcases h with ⟨kvs, e | ⟨o, e⟩, _⟩ | ⟨kvs, e | ⟨o, e⟩, _⟩ <;> first | exact ⟨_, e, True.intro⟩ | exact (n _ _ e).elim
theorem DAt.keep {H H':Hp} {a:Addr} {ks:List DK} {vs:List V} (h:DAt H a ks vs) (s:∀ o, H a = some o -> H' a = some o) : DAt H' a ks vs :=
  h.imp (fun ⟨kvs, e, r⟩ => ⟨kvs, rdKeep e s, r⟩) fun ⟨kvs, e, r⟩ => ⟨kvs, rdKeep e s, r⟩
theorem DAt.inj {H:Hp} {a:Addr} {ks ls:List DK} {vs ws:List V} (h:DAt H a ks vs) (g:DAt H a ls ws) : ks = ls /\ vs = ws := by
  rcases h with ⟨k1, e1 | ⟨o1, e1⟩, r1, r2⟩ | ⟨k1, e1 | ⟨o1, e1⟩, r1, r2⟩ <;> rcases g with ⟨k2, e2 | ⟨o2, e2⟩, q1, q2⟩ | ⟨k2, e2 | ⟨o2, e2⟩, q1, q2⟩ <;> (rw [e1] at e2; cases e2; try exact ⟨r1.trans q1.symm, r2.trans q2.symm⟩)
def notD:HO -> Prop
  | .dK _ => False
  | .dT _ => False
  | .frz _ (.dK _) => False
  | .frz _ (.dT _) => False
  | _ => True
theorem DAt.no {H:Hp} {a:Addr} {ks:List DK} {vs:List V} {o:HO} (h:DAt H a ks vs) (e:H a = some o) (n:notD o) : False := by
  rcases h with ⟨k, z | ⟨o', z⟩, _⟩ | ⟨k, z | ⟨o', z⟩, _⟩ <;> (rw [e] at z; cases z; exact n)
mutual
def Is (H:Hp) (m:Addr -> Prop) : D -> V -> Prop
  | .non, v => v = .non
  | .bl b, v => v = .bl b
  | .int i, v => v = .int i
  | .str x, v => v = .str x
  | .tup ds, v => ∃ a vs, v = .ref a /\ H a = some (.tup vs) /\ IsAll H m ds vs
  | .lst ds, v => ∃ a vs, v = .ref a /\ ((H a = some (.lst vs) /\ m a) \/ ∃ o, H a = some (.frz o (.lst vs)) /\ m a) /\ IsAll H m ds vs
  | .dic ks ds, v => ∃ a vs, v = .ref a /\ (DAt H a ks vs /\ m a) /\ IsAll H m ds vs
def IsAll (H:Hp) (m:Addr -> Prop) : List D -> List V -> Prop
  | [], vs => vs = []
  | d :: ds, vs => ∃ v r, vs = v :: r /\ Is H m d v /\ IsAll H m ds r
end
def fixd:HO -> Prop
  | .tup _ => True
  | .frz _ _ => True
  | _ => False
section
variable {H H':Hp} {m m':Addr -> Prop}
mutual
theorem Is.mono (kp:∀ a o, H a = some o -> (m a \/ fixd o) -> H' a = some o) (mm:∀ a o, H a = some o -> m a -> m' a) : ∀ {d:D} {v:V}, Is H m d v -> Is H' m' d v
  | .non, _, h => h
  | .bl _, _, h => h
  | .int _, _, h => h
  | .str _, _, h => h
  | .tup ds, _, h => by
    obtain ⟨a, vs, e, h1, h2⟩ := h
    exact ⟨a, vs, e, kp a _ h1 (.inr True.intro), IsAll.mono kp mm h2⟩
  | .lst ds, _, h => by
    obtain ⟨a, vs, e, h1, h2⟩ := h
    refine ⟨a, vs, e, ?_, IsAll.mono kp mm h2⟩
    rcases h1 with ⟨h1, h3⟩ | ⟨o, h1, h3⟩
    · exact .inl ⟨kp a _ h1 (.inl h3), mm a _ h1 h3⟩
    · exact .inr ⟨o, kp a _ h1 (.inr True.intro), mm a _ h1 h3⟩
  | .dic ks ds, _, h => by
    obtain ⟨a, vs, e, h1, h2⟩ := h
    obtain ⟨o, eo⟩ := h1.1.obj
    exact ⟨a, vs, e, ⟨h1.1.keep fun o e => kp a o e (.inl h1.2), mm a o eo h1.2⟩, IsAll.mono kp mm h2⟩
theorem IsAll.mono (kp:∀ a o, H a = some o -> (m a \/ fixd o) -> H' a = some o) (mm:∀ a o, H a = some o -> m a -> m' a) : ∀ {ds:List D} {vs:List V}, IsAll H m ds vs -> IsAll H' m' ds vs
  | [], _, h => h
  | d :: ds, _, h => by
    obtain ⟨v, r, e, h1, h2⟩ := h
    exact ⟨v, r, e, Is.mono kp mm h1, IsAll.mono kp mm h2⟩
end
theorem Is.weak (mm:∀ a, m a -> m' a) {d:D} {v:V} (h:Is H m d v) : Is H m' d v := h.mono (fun _ _ e _ => e) fun a _ _ => mm a
theorem IsAll.weak (mm:∀ a, m a -> m' a) {ds:List D} {vs:List V} (h:IsAll H m ds vs) : IsAll H m' ds vs := h.mono (fun _ _ e _ => e) fun a _ _ => mm a
theorem Is.same (s:Same H H') {d:D} {v:V} (h:Is H m d v) : Is H' m d v := h.mono (fun a o e _ => s a o e) fun _ _ _ z => z
theorem IsAll.same (s:Same H H') {ds:List D} {vs:List V} (h:IsAll H m ds vs) : IsAll H' m ds vs := h.mono (fun a o e _ => s a o e) fun _ _ _ z => z
mutual
theorem Is.flat:∀ {d:D} {v:V}, d.flat = true -> Is H m d v -> Is H m' d v
  | .non, _, _, h => h
  | .bl _, _, _, h => h
  | .int _, _, _, h => h
  | .str _, _, _, h => h
  | .tup ds, _, f, h => by
    obtain ⟨a, vs, e, h1, h2⟩ := h
    exact ⟨a, vs, e, h1, IsAll.flat (by simpa only [D.flat] using f) h2⟩
  | .lst ds, _, f, _ => by simp [D.flat] at f
  | .dic ks ds, _, f, _ => by simp [D.flat] at f
theorem IsAll.flat:∀ {ds:List D} {vs:List V}, D.flats ds = true -> IsAll H m ds vs -> IsAll H m' ds vs
  | [], _, _, h => h
  | d :: ds, _, f, h => by
    obtain ⟨v, r, e, h1, h2⟩ := h
    simp only [D.flats, Bool.and_eq_true] at f
    exact ⟨v, r, e, Is.flat f.1 h1, IsAll.flat f.2 h2⟩
end
mutual
theorem Is.inj:∀ {d e:D} {v:V}, Is H m d v -> Is H m' e v -> d = e
  | .non, e, _, h, g => by cases e <;> first | rfl | (cases h; first | (obtain ⟨_, _, z, _⟩ := g; cases z; done) | cases g)
  | .bl _, e, _, h, g => by cases e <;> (cases h; first | (obtain ⟨_, _, z, _⟩ := g; cases z; done) | (cases g; rfl) | cases g)
  | .int _, e, _, h, g => by cases e <;> (cases h; first | (obtain ⟨_, _, z, _⟩ := g; cases z; done) | (cases g; rfl) | cases g)
  | .str _, e, _, h, g => by cases e <;> (cases h; first | (obtain ⟨_, _, z, _⟩ := g; cases z; done) | (cases g; rfl) | cases g)
  | .tup ds, e, _, h, g => by
    obtain ⟨a, vs, rfl, h1, h2⟩ := h
    cases e with
    | tup es =>
      obtain ⟨b, ws, z, g1, g2⟩ := g
      cases z
      rw [h1] at g1; cases g1
      rw [IsAll.inj h2 g2]
    | lst es =>
      obtain ⟨b, ws, z, g1, g2⟩ := g
      cases z
      rcases g1 with ⟨g1, _⟩ | ⟨o, g1, _⟩ <;> (rw [h1] at g1; cases g1)
    | dic ls es =>
      obtain ⟨b, ws, z, g1, g2⟩ := g
      cases z
      exact (g1.1.no h1 True.intro).elim
    | _ => cases g
  | .lst ds, e, _, h, g => by
    obtain ⟨a, vs, rfl, h1, h2⟩ := h
    cases e with
    | tup es =>
      obtain ⟨b, ws, z, g1, g2⟩ := g
      cases z
      rcases h1 with ⟨h1, _⟩ | ⟨o, h1, _⟩ <;> (rw [h1] at g1; cases g1)
    | lst es =>
      obtain ⟨b, ws, z, g1, g2⟩ := g
      cases z
      have e:vs = ws := by
        rcases h1 with ⟨h1, _⟩ | ⟨o, h1, _⟩ <;> rcases g1 with ⟨g1, _⟩ | ⟨o', g1, _⟩ <;> (rw [h1] at g1; cases g1; try rfl)
      subst e
      rw [IsAll.inj h2 g2]
    | dic ls es =>
      obtain ⟨b, ws, z, g1, g2⟩ := g
      cases z
      rcases h1 with ⟨h1, _⟩ | ⟨o, h1, _⟩ <;> exact (g1.1.no h1 True.intro).elim
    | _ => cases g
  | .dic ks ds, e, _, h, g => by
    obtain ⟨a, vs, rfl, h1, h2⟩ := h
    cases e with
    | tup es =>
      obtain ⟨b, ws, z, g1, g2⟩ := g
      cases z
      exact (h1.1.no g1 True.intro).elim
    | lst es =>
      obtain ⟨b, ws, z, g1, g2⟩ := g
      cases z
      rcases g1 with ⟨g1, _⟩ | ⟨o, g1, _⟩ <;> exact (h1.1.no g1 True.intro).elim
    | dic ls es =>
      obtain ⟨b, ws, z, g1, g2⟩ := g
      cases z
      obtain ⟨e1, e2⟩ := h1.1.inj g1.1
      subst e1 e2
      rw [IsAll.inj h2 g2]
    | _ => cases g
theorem IsAll.inj:∀ {ds es:List D} {vs:List V}, IsAll H m ds vs -> IsAll H m' es vs -> ds = es
  | [], es, _, h, g => by
    cases h
    cases es with
    | nil => rfl
    | cons e es => obtain ⟨_, _, z, _⟩ := g; cases z
  | d :: ds, es, _, h, g => by
    obtain ⟨v, r, rfl, h1, h2⟩ := h
    cases es with
    | nil => cases g
    | cons e es =>
      obtain ⟨w, q, z, g1, g2⟩ := g
      cases z
      rw [Is.inj h1 g1, IsAll.inj h2 g2]
end
mutual
theorem Is.lists (nf:∀ a o u, m a -> H a = some (.frz o u) -> False) : ∀ {d:D} {v:V}, Is H m d v -> Is H (fun a => m a /\ Mu H a) d v
  | .non, _, h => h
  | .bl _, _, h => h
  | .int _, _, h => h
  | .str _, _, h => h
  | .tup ds, _, h => by
    obtain ⟨a, vs, e, h1, h2⟩ := h
    exact ⟨a, vs, e, h1, IsAll.lists nf h2⟩
  | .lst ds, _, h => by
    obtain ⟨a, vs, e, h1, h2⟩ := h
    refine ⟨a, vs, e, ?_, IsAll.lists nf h2⟩
    rcases h1 with ⟨h1, h3⟩ | ⟨o, h1, h3⟩
    · exact .inl ⟨h1, h3, Mu.lst h1⟩
    · exact (nf a _ _ h3 h1).elim
  | .dic ks ds, _, h => by
    obtain ⟨a, vs, e, h1, h2⟩ := h
    exact ⟨a, vs, e, ⟨h1.1, h1.2, h1.1.mu fun o u z => nf a o u h1.2 z⟩, IsAll.lists nf h2⟩
theorem IsAll.lists (nf:∀ a o u, m a -> H a = some (.frz o u) -> False) : ∀ {ds:List D} {vs:List V}, IsAll H m ds vs -> IsAll H (fun a => m a /\ Mu H a) ds vs
  | [], _, h => h
  | d :: ds, _, h => by
    obtain ⟨v, r, e, h1, h2⟩ := h
    exact ⟨v, r, e, Is.lists nf h1, IsAll.lists nf h2⟩
end
theorem IsAll.length:∀ {ds:List D} {vs:List V}, IsAll H m ds vs -> vs.length = ds.length
  | [], _, h => by cases h; rfl
  | d :: ds, _, h => by
    obtain ⟨v, r, rfl, _, h2⟩ := h
    simp [IsAll.length h2]
theorem IsAll.append:∀ {ds es:List D} {vs ws:List V}, IsAll H m ds vs -> IsAll H m es ws -> IsAll H m (ds ++ es) (vs ++ ws)
  | [], _, _, _, h, g => by cases h; exact g
  | d :: ds, _, _, _, h, g => by
    obtain ⟨v, r, rfl, h1, h2⟩ := h
    exact ⟨v, r ++ _, rfl, h1, IsAll.append h2 g⟩
theorem IsAll.snoc {ds:List D} {d:D} {vs:List V} {v:V} (h:IsAll H m ds vs) (g:Is H m d v) : IsAll H m (ds ++ [d]) (vs ++ [v]) := h.append ⟨v, [], rfl, g, rfl⟩
theorem IsAll.get:∀ {ds:List D} {vs:List V} {i:Nat} {d:D}, IsAll H m ds vs -> ds[i]? = some d -> ∃ v, vs[i]? = some v /\ Is H m d v
  | [], _, _, _, _, e => by simp at e
  | d :: ds, _, 0, _, h, e => by
    obtain ⟨v, r, rfl, h1, h2⟩ := h
    simp at e; subst e
    exact ⟨v, rfl, h1⟩
  | d :: ds, _, i + 1, _, h, e => by
    obtain ⟨v, r, rfl, h1, h2⟩ := h
    obtain ⟨w, a, b⟩ := IsAll.get (i := i) h2 (by simpa using e)
    exact ⟨w, by simpa using a, b⟩
theorem IsAll.set:∀ {ds:List D} {vs:List V} {d:D} {v:V} (i:Nat), IsAll H m ds vs -> Is H m d v -> IsAll H m (ds.set i d) (vs.set i v)
  | [], _, _, _, _, h, _ => by cases h; exact rfl
  | x :: ds, _, d, v, 0, h, g => by
    obtain ⟨w, r, rfl, h1, h2⟩ := h
    exact ⟨v, r, rfl, g, h2⟩
  | x :: ds, _, d, v, i + 1, h, g => by
    obtain ⟨w, r, rfl, h1, h2⟩ := h
    exact ⟨w, r.set i v, rfl, h1, IsAll.set i h2 g⟩
theorem IsAll.take:∀ {ds:List D} {vs:List V} (n:Nat), IsAll H m ds vs -> IsAll H m (ds.take n) (vs.take n)
  | _, _, 0, _ => rfl
  | [], _, n + 1, h => by cases h; exact rfl
  | d :: ds, _, n + 1, h => by
    obtain ⟨v, r, rfl, h1, h2⟩ := h
    exact ⟨v, r.take n, rfl, h1, IsAll.take n h2⟩
theorem IsAll.drop:∀ {ds:List D} {vs:List V} (n:Nat), IsAll H m ds vs -> IsAll H m (ds.drop n) (vs.drop n)
  | _, _, 0, h => h
  | [], _, n + 1, h => by cases h; exact rfl
  | d :: ds, _, n + 1, h => by
    obtain ⟨v, r, rfl, h1, h2⟩ := h
    exact IsAll.drop n h2
end
section
variable {P:Program} {w:World} {H:Hp} {s:Shared} {m m':Addr -> Prop}
theorem lst_at (ok:HOk P w H s.heap) {a:Addr} {vs:List V} (h:(H a = some (.lst vs) /\ m a) \/ ∃ o, H a = some (.frz o (.lst vs)) /\ m a) :
    ∃ its:List Value, Vals vs its /\ s.heap.IsList a its.toArray := by
  have key:ObjOk P w H s.heap a (.lst vs) -> ∃ its:List Value, Vals vs its /\ s.heap.IsList a its.toArray := fun ⟨_, its, n, r, e⟩ => ⟨its, r, ⟨_, e, rfl, n, rfl⟩⟩
  rcases h with ⟨h, _⟩ | ⟨o, h, _⟩
  · exact key (ok a _ h)
  · exact key (ok a _ h).2
theorem tup_at (ok:HOk P w H s.heap) {a:Addr} {vs:List V} (h:H a = some (.tup vs)) : ∃ its:List Value, Vals vs its /\ s.heap.IsTuple a its.toArray := by
  obtain ⟨_, its, r, e⟩ := ok a _ h
  exact ⟨its, r, e⟩
theorem all_range (n:Nat) (e:Nat -> Bool) : (List.range n).all e = true ↔ ∀ j, j < n -> e j = true := by
  simp [List.all_eq_true, List.mem_range]
theorem eqDs_iff:∀ (ds es:List D), eqDs ds es = true ↔ ds.length = es.length /\ ∀ (j:Nat) (d e:D), ds[j]? = some d -> es[j]? = some e -> eqD d e = true
  | [], [] => by simp [eqDs]
  | [], e :: es => by simp [eqDs]
  | d :: ds, [] => by simp [eqDs]
  | d :: ds, e :: es => by
    simp only [eqDs, Bool.and_eq_true, eqDs_iff ds es, List.length_cons, Nat.add_right_cancel_iff]
    constructor
    · rintro ⟨h1, h2, h3⟩
      refine ⟨h2, fun j x y ex ey => ?_⟩
      cases j with
      | zero => simp at ex ey; subst ex; subst ey; exact h1
      | succ j => exact h3 j x y (by simpa using ex) (by simpa using ey)
    · rintro ⟨h2, h3⟩
      exact ⟨h3 0 d e rfl rfl, h2, fun j x y ex ey => h3 (j + 1) x y (by simpa using ex) (by simpa using ey)⟩
theorem dep_mem:∀ {ds:List D} {j:Nat} {d:D}, ds[j]? = some d -> d.dep <= D.deps ds
  | [], _, _, e => by simp at e
  | d :: ds, 0, _, e => by simp at e; subst e; simp only [D.deps]; omega
  | d :: ds, j + 1, x, e => by
    have := dep_mem (ds := ds) (j := j) (d := x) (by simpa using e)
    simp only [D.deps]; omega
theorem eqs_of (ok:HOk P w H s.heap) {A:Around} {ds es:List D} {vs ws:List V} {its its2:List Value} (h1:IsAll H m ds vs) (h2:IsAll H m' es ws) (r1:Vals vs its) (r2:Vals ws its2)
    (rec:∀ d ∈ ds, ∀ e ∈ es, ∀ (v w:V) (u u':Value), Is H m d v -> Is H m' e w -> RelV v u -> RelV w u' -> SeqAt.EqAt A.in1 s u u' (eqD d e)) :
    ∀ j (z1:j < its.toArray.size) (z2:j < its2.toArray.size), SeqAt.EqAt A.in1 s its.toArray[j] its2.toArray[j] (match ds[j]?, es[j]? with | some d, some e => eqD d e | _, _ => true) := by
  intro j z1 z2
  have l1 := r1.length
  have l2 := r2.length
  have l3 := h1.length
  have l4 := h2.length
  have y1:j < its.length := by simpa using z1
  have y2:j < its2.length := by simpa using z2
  have k1:j < ds.length := by omega
  have k2:j < es.length := by omega
  obtain ⟨v, ev, iv⟩ := h1.get (i := j) (d := ds[j]) (by simp [k1])
  obtain ⟨v', ev', iv'⟩ := h2.get (i := j) (d := es[j]) (by simp [k2])
  obtain ⟨u, eu, ru⟩ := r1.get ev
  obtain ⟨u', eu', ru'⟩ := r2.get ev'
  have q1:its.toArray[j] = u := by
    have:its[j]? = some its[j] := by simp [y1]
    rw [this] at eu; simpa using Option.some.inj eu
  have q2:its2.toArray[j] = u' := by
    have:its2[j]? = some its2[j] := by simp [y2]
    rw [this] at eu'; simpa using Option.some.inj eu'
  have g1:ds[j]? = some ds[j] := by simp [k1]
  have g2:es[j]? = some es[j] := by simp [k2]
  rw [q1, q2, g1, g2]
  exact rec ds[j] (List.getElem_mem _) es[j] (List.getElem_mem _) v v' u u' iv iv' ru ru'
theorem all_eq {ds es:List D} (hl:ds.length = es.length) :
    ((List.range ds.length).all fun j => match ds[j]?, es[j]? with | some d, some e => eqD d e | _, _ => true) = eqDs ds es := by
  rw [Bool.eq_iff_iff, all_range, eqDs_iff]
  constructor
  · intro h
    refine ⟨hl, fun j d e ed ee => ?_⟩
    have := h j (List.getElem?_eq_some_iff.mp ed).1
    rw [ed, ee] at this
    exact this
  · rintro ⟨_, h⟩ j hj
    have e1:ds[j]? = some ds[j] := by simp [hj]
    have hj':j < es.length := by omega
    have e2:es[j]? = some es[j] := by simp [hj']
    rw [e1, e2]
    exact h j _ _ e1 e2
theorem eqDs_ne {ds es:List D} (hl:ds.length ≠ es.length) : eqDs ds es = false := by
  cases h:eqDs ds es with
  | false => rfl
  | true => exact absurd ((eqDs_iff ds es).mp h).1 hl
end
section
variable {P:Program} {w:World} {H:Hp} {s:Shared} {m m':Addr -> Prop}
abbrev RecAt (H:Hp) (s:Shared) (m m':Addr -> Prop) (A:Around) (n:Nat) : Prop :=
  ∀ (d e:D) (v w:V) (u u':Value), d.dep < n -> e.dep < 1000 -> Is H m d v -> Is H m' e w -> RelV v u -> RelV w u' -> SeqAt.EqAt A.in1 s u u' (eqD d e)
section
variable {A:Around} {n:Nat} {l1 l2:List D} {vs1 vs2:List V} {its1 its2:List Value} {a1 a2:Addr}
theorem rcat_lists (ok:HOk P w H s.heap) (hn:(D.lst l1).dep <= n) (hE:(D.lst l2).dep < 1000) (hu:A.units < cLine) (q1:IsAll H m l1 vs1) (q2:IsAll H m' l2 vs2) (y1:Vals vs1 its1) (y2:Vals vs2 its2) (p1:s.heap.IsList a1 its1.toArray) (p2:s.heap.IsList a2 its2.toArray)
    (rec:RecAt H s m m' A n) : SeqAt.RcAt A s (.ref a1) (.ref a2) (eqD (.lst l1) (.lst l2)) := by
  have e1:its1.toArray.size = l1.length := by rw [List.size_toArray, <- y1.length, q1.length]
  have e2:its2.toArray.size = l2.length := by rw [List.size_toArray, <- y2.length, q2.length]
  have hd:∀ d ∈ l1, d.dep < n := fun d hd => by
    obtain ⟨j, hj⟩ := List.mem_iff_getElem?.mp hd
    have := dep_mem hj
    simp only [D.dep] at hn; omega
  have he:∀ e ∈ l2, e.dep < 1000 := fun d hd => by
    obtain ⟨j, hj⟩ := List.mem_iff_getElem?.mp hd
    have := dep_mem hj
    simp only [D.dep] at hE; omega
  by_cases hl:l1.length = l2.length
  · have z := SeqAt.RcAt.lists p1 p2 (by rw [e1, e2, hl]) hu (eqs_of ok q1 q2 y1 y2 fun d hm e hm2 v w u u' i1 i2 r1 r2 => rec d e v w u u' (hd d hm) (he e hm2) i1 i2 r1 r2)
    rw [e1, all_eq hl] at z
    exact z
  · have z := SeqAt.RcAt.lists_lengths p1 p2 (by rw [e1, e2]; simpa using hl) hu
    rw [show eqD (.lst l1) (.lst l2) = eqDs l1 l2 from rfl, eqDs_ne hl]
    exact z
theorem rcneat_lists (ok:HOk P w H s.heap) (hn:(D.lst l1).dep <= n) (hE:(D.lst l2).dep < 1000) (hu:A.units < cLine) (q1:IsAll H m l1 vs1) (q2:IsAll H m' l2 vs2) (y1:Vals vs1 its1) (y2:Vals vs2 its2) (p1:s.heap.IsList a1 its1.toArray) (p2:s.heap.IsList a2 its2.toArray)
    (rec:RecAt H s m m' A n) : SeqAt.RcNeAt A s (.ref a1) (.ref a2) (!eqD (.lst l1) (.lst l2)) := by
  have e1:its1.toArray.size = l1.length := by rw [List.size_toArray, <- y1.length, q1.length]
  have e2:its2.toArray.size = l2.length := by rw [List.size_toArray, <- y2.length, q2.length]
  have hd:∀ d ∈ l1, d.dep < n := fun d hd => by
    obtain ⟨j, hj⟩ := List.mem_iff_getElem?.mp hd
    have := dep_mem hj
    simp only [D.dep] at hn; omega
  have he:∀ e ∈ l2, e.dep < 1000 := fun d hd => by
    obtain ⟨j, hj⟩ := List.mem_iff_getElem?.mp hd
    have := dep_mem hj
    simp only [D.dep] at hE; omega
  by_cases hl:l1.length = l2.length
  · have z := SeqAt.RcNeAt.lists p1 p2 (by rw [e1, e2, hl]) hu (eqs_of ok q1 q2 y1 y2 fun d hm e hm2 v w u u' i1 i2 r1 r2 => rec d e v w u u' (hd d hm) (he e hm2) i1 i2 r1 r2)
    rw [e1, all_eq hl] at z
    exact z
  · have z := SeqAt.RcNeAt.lists_lengths p1 p2 (by rw [e1, e2]; simpa using hl) hu
    rw [show eqD (.lst l1) (.lst l2) = eqDs l1 l2 from rfl, eqDs_ne hl]
    exact z
theorem tups_eq:((List.range (min l1.length l2.length)).all (fun j => match l1[j]?, l2[j]? with | some d, some e => eqD d e | _, _ => true) && l1.length == l2.length) = eqDs l1 l2 := by
  by_cases hl:l1.length = l2.length
  · rw [hl, Nat.min_self, <- hl, all_eq hl]; simp [hl]
  · rw [eqDs_ne hl]; simp [hl]
theorem rcat_tups (ok:HOk P w H s.heap) (hn:(D.tup l1).dep <= n) (hE:(D.tup l2).dep < 1000) (hu:A.units < cLine) (q1:IsAll H m l1 vs1) (q2:IsAll H m' l2 vs2) (y1:Vals vs1 its1) (y2:Vals vs2 its2) (p1:s.heap.IsTuple a1 its1.toArray) (p2:s.heap.IsTuple a2 its2.toArray)
    (rec:RecAt H s m m' A n) : SeqAt.RcAt A s (.ref a1) (.ref a2) (eqD (.tup l1) (.tup l2)) := by
  have e1:its1.toArray.size = l1.length := by rw [List.size_toArray, <- y1.length, q1.length]
  have e2:its2.toArray.size = l2.length := by rw [List.size_toArray, <- y2.length, q2.length]
  have hd:∀ d ∈ l1, d.dep < n := fun d hd => by
    obtain ⟨j, hj⟩ := List.mem_iff_getElem?.mp hd
    have := dep_mem hj
    simp only [D.dep] at hn; omega
  have he:∀ e ∈ l2, e.dep < 1000 := fun d hd => by
    obtain ⟨j, hj⟩ := List.mem_iff_getElem?.mp hd
    have := dep_mem hj
    simp only [D.dep] at hE; omega
  have z := SeqAt.RcAt.tuples p1 p2 hu (eqs_of ok q1 q2 y1 y2 fun d hm e hm2 v w u u' i1 i2 r1 r2 => rec d e v w u u' (hd d hm) (he e hm2) i1 i2 r1 r2)
  rw [e1, e2, tups_eq] at z
  exact z
theorem rcneat_tups (ok:HOk P w H s.heap) (hn:(D.tup l1).dep <= n) (hE:(D.tup l2).dep < 1000) (hu:A.units < cLine) (q1:IsAll H m l1 vs1) (q2:IsAll H m' l2 vs2) (y1:Vals vs1 its1) (y2:Vals vs2 its2) (p1:s.heap.IsTuple a1 its1.toArray) (p2:s.heap.IsTuple a2 its2.toArray)
    (rec:RecAt H s m m' A n) : SeqAt.RcNeAt A s (.ref a1) (.ref a2) (!eqD (.tup l1) (.tup l2)) := by
  have e1:its1.toArray.size = l1.length := by rw [List.size_toArray, <- y1.length, q1.length]
  have e2:its2.toArray.size = l2.length := by rw [List.size_toArray, <- y2.length, q2.length]
  have hd:∀ d ∈ l1, d.dep < n := fun d hd => by
    obtain ⟨j, hj⟩ := List.mem_iff_getElem?.mp hd
    have := dep_mem hj
    simp only [D.dep] at hn; omega
  have he:∀ e ∈ l2, e.dep < 1000 := fun d hd => by
    obtain ⟨j, hj⟩ := List.mem_iff_getElem?.mp hd
    have := dep_mem hj
    simp only [D.dep] at hE; omega
  have z := SeqAt.RcNeAt.tuples p1 p2 hu (eqs_of ok q1 q2 y1 y2 fun d hm e hm2 v w u u' i1 i2 r1 r2 => rec d e v w u u' (hd d hm) (he e hm2) i1 i2 r1 r2)
  rw [e1, e2, tups_eq] at z
  exact z
theorem eqat_ref (h:SeqAt.RcAt A s (.ref a1) (.ref a2) k) (hs:a1 = a2 -> k = true) : SeqAt.EqAt A s (.ref a1) (.ref a2) k := by
  by_cases e:a1 = a2
  · subst e; rw [hs rfl]; exact SeqAt.EqAt.same _
  · exact SeqAt.EqAt.of_refs e h
end
theorem rc_step (ok:HOk P w H s.heap) {A:Around} {n:Nat} (hu:A.units < cLine) (rec:RecAt H s m m' A n) {d e:D} {v w':V} {u u':Value} (hn:d.dep <= n) (hN:n < 1000) (hE:e.dep < 1000) (h1:Is H m d v) (h2:Is H m' e w') (r1:RelV v u) (r2:RelV w' u') :
    SeqAt.RcAt A s u u' (eqD d e) := by
  cases d with
  | non =>
    cases h1; cases r1
    cases e with
    | non =>
      cases h2; cases r2
      exact SeqAt.RcAt.none_none
    | bl b2 =>
      cases h2; cases r2
      exact SeqAt.RcAt.none_bool b2
    | int i2 =>
      cases h2; obtain ⟨t2, rfl⟩ := r2
      exact SeqAt.RcAt.none_int i2 t2
    | str x2 =>
      cases h2; obtain ⟨t2, rfl⟩ := r2
      exact SeqAt.RcAt.none_str x2 t2
    | lst l2 =>
      obtain ⟨a2, vs2, rfl, g2, q2⟩ := h2; cases r2; obtain ⟨its2, y2, p2⟩ := lst_at ok g2
      exact SeqAt.RcAt.none_list p2 hu
    | tup l2 =>
      obtain ⟨a2, vs2, rfl, g2, q2⟩ := h2; cases r2; obtain ⟨its2, y2, p2⟩ := tup_at ok g2
      exact SeqAt.RcAt.none_tuple p2 hu
    | dic k2 l2 => exact absurd hE (by simp only [D.dep]; omega)
  | bl b1 =>
    cases h1; cases r1
    cases e with
    | non =>
      cases h2; cases r2
      exact SeqAt.RcAt.bool_none b1
    | bl b2 =>
      cases h2; cases r2
      exact SeqAt.RcAt.bool_bool b1 b2
    | int i2 =>
      cases h2; obtain ⟨t2, rfl⟩ := r2
      exact SeqAt.RcAt.bool_int b1 i2 t2
    | str x2 =>
      cases h2; obtain ⟨t2, rfl⟩ := r2
      exact SeqAt.RcAt.bool_str b1 x2 t2
    | lst l2 =>
      obtain ⟨a2, vs2, rfl, g2, q2⟩ := h2; cases r2; obtain ⟨its2, y2, p2⟩ := lst_at ok g2
      exact SeqAt.RcAt.bool_list b1 p2 hu
    | tup l2 =>
      obtain ⟨a2, vs2, rfl, g2, q2⟩ := h2; cases r2; obtain ⟨its2, y2, p2⟩ := tup_at ok g2
      exact SeqAt.RcAt.bool_tuple b1 p2 hu
    | dic k2 l2 => exact absurd hE (by simp only [D.dep]; omega)
  | int i1 =>
    cases h1; obtain ⟨t1, rfl⟩ := r1
    cases e with
    | non =>
      cases h2; cases r2
      exact SeqAt.RcAt.int_none i1 t1
    | bl b2 =>
      cases h2; cases r2
      exact SeqAt.RcAt.int_bool i1 t1 b2
    | int i2 =>
      cases h2; obtain ⟨t2, rfl⟩ := r2
      exact SeqAt.RcAt.int_int i1 t1 i2 t2
    | str x2 =>
      cases h2; obtain ⟨t2, rfl⟩ := r2
      exact SeqAt.RcAt.int_str i1 t1 x2 t2
    | lst l2 =>
      obtain ⟨a2, vs2, rfl, g2, q2⟩ := h2; cases r2; obtain ⟨its2, y2, p2⟩ := lst_at ok g2
      exact SeqAt.RcAt.int_list i1 t1 p2 hu
    | tup l2 =>
      obtain ⟨a2, vs2, rfl, g2, q2⟩ := h2; cases r2; obtain ⟨its2, y2, p2⟩ := tup_at ok g2
      exact SeqAt.RcAt.int_tuple i1 t1 p2 hu
    | dic k2 l2 => exact absurd hE (by simp only [D.dep]; omega)
  | str x1 =>
    cases h1; obtain ⟨t1, rfl⟩ := r1
    cases e with
    | non =>
      cases h2; cases r2
      exact SeqAt.RcAt.str_none x1 t1
    | bl b2 =>
      cases h2; cases r2
      exact SeqAt.RcAt.str_bool x1 t1 b2
    | int i2 =>
      cases h2; obtain ⟨t2, rfl⟩ := r2
      exact SeqAt.RcAt.str_int x1 t1 i2 t2
    | str x2 =>
      cases h2; obtain ⟨t2, rfl⟩ := r2
      exact SeqAt.RcAt.str_str x1 t1 x2 t2
    | lst l2 =>
      obtain ⟨a2, vs2, rfl, g2, q2⟩ := h2; cases r2; obtain ⟨its2, y2, p2⟩ := lst_at ok g2
      exact SeqAt.RcAt.str_list x1 t1 p2 hu
    | tup l2 =>
      obtain ⟨a2, vs2, rfl, g2, q2⟩ := h2; cases r2; obtain ⟨its2, y2, p2⟩ := tup_at ok g2
      exact SeqAt.RcAt.str_tuple x1 t1 p2 hu
    | dic k2 l2 => exact absurd hE (by simp only [D.dep]; omega)
  | lst l1 =>
    obtain ⟨a1, vs1, rfl, g1, q1⟩ := h1; cases r1; obtain ⟨its1, y1, p1⟩ := lst_at ok g1
    cases e with
    | non =>
      cases h2; cases r2
      exact SeqAt.RcAt.list_none p1 hu
    | bl b2 =>
      cases h2; cases r2
      exact SeqAt.RcAt.list_bool b2 p1 hu
    | int i2 =>
      cases h2; obtain ⟨t2, rfl⟩ := r2
      exact SeqAt.RcAt.list_int i2 t2 p1 hu
    | str x2 =>
      cases h2; obtain ⟨t2, rfl⟩ := r2
      exact SeqAt.RcAt.list_str x2 t2 p1 hu
    | lst l2 =>
      obtain ⟨a2, vs2, rfl, g2, q2⟩ := h2; cases r2; obtain ⟨its2, y2, p2⟩ := lst_at ok g2
      exact rcat_lists ok hn hE hu q1 q2 y1 y2 p1 p2 rec
    | tup l2 =>
      obtain ⟨a2, vs2, rfl, g2, q2⟩ := h2; cases r2; obtain ⟨its2, y2, p2⟩ := tup_at ok g2
      exact SeqAt.RcAt.list_tuple p1 p2 hu
    | dic k2 l2 => exact absurd hE (by simp only [D.dep]; omega)
  | tup l1 =>
    obtain ⟨a1, vs1, rfl, g1, q1⟩ := h1; cases r1; obtain ⟨its1, y1, p1⟩ := tup_at ok g1
    cases e with
    | non =>
      cases h2; cases r2
      exact SeqAt.RcAt.tuple_none p1 hu
    | bl b2 =>
      cases h2; cases r2
      exact SeqAt.RcAt.tuple_bool b2 p1 hu
    | int i2 =>
      cases h2; obtain ⟨t2, rfl⟩ := r2
      exact SeqAt.RcAt.tuple_int i2 t2 p1 hu
    | str x2 =>
      cases h2; obtain ⟨t2, rfl⟩ := r2
      exact SeqAt.RcAt.tuple_str x2 t2 p1 hu
    | lst l2 =>
      obtain ⟨a2, vs2, rfl, g2, q2⟩ := h2; cases r2; obtain ⟨its2, y2, p2⟩ := lst_at ok g2
      exact SeqAt.RcAt.tuple_list p1 p2 hu
    | tup l2 =>
      obtain ⟨a2, vs2, rfl, g2, q2⟩ := h2; cases r2; obtain ⟨its2, y2, p2⟩ := tup_at ok g2
      exact rcat_tups ok hn hE hu q1 q2 y1 y2 p1 p2 rec
    | dic k2 l2 => exact absurd hE (by simp only [D.dep]; omega)
  | dic k1 l1 => exact absurd hn (by simp only [D.dep]; omega)
theorem ne_step (ok:HOk P w H s.heap) {A:Around} {n:Nat} (hu:A.units < cLine) (rec:RecAt H s m m' A n) {d e:D} {v w':V} {u u':Value} (hn:d.dep <= n) (hN:n < 1000) (hE:e.dep < 1000) (h1:Is H m d v) (h2:Is H m' e w') (r1:RelV v u) (r2:RelV w' u') :
    SeqAt.RcNeAt A s u u' (!eqD d e) := by
  cases d with
  | non =>
    cases h1; cases r1
    cases e with
    | non =>
      cases h2; cases r2
      exact SeqAt.RcNeAt.none_none
    | bl b2 =>
      cases h2; cases r2
      exact SeqAt.RcNeAt.none_bool b2
    | int i2 =>
      cases h2; obtain ⟨t2, rfl⟩ := r2
      exact SeqAt.RcNeAt.none_int i2 t2
    | str x2 =>
      cases h2; obtain ⟨t2, rfl⟩ := r2
      exact SeqAt.RcNeAt.none_str x2 t2
    | lst l2 =>
      obtain ⟨a2, vs2, rfl, g2, q2⟩ := h2; cases r2; obtain ⟨its2, y2, p2⟩ := lst_at ok g2
      exact SeqAt.RcNeAt.none_list p2 hu
    | tup l2 =>
      obtain ⟨a2, vs2, rfl, g2, q2⟩ := h2; cases r2; obtain ⟨its2, y2, p2⟩ := tup_at ok g2
      exact SeqAt.RcNeAt.none_tuple p2 hu
    | dic k2 l2 => exact absurd hE (by simp only [D.dep]; omega)
  | bl b1 =>
    cases h1; cases r1
    cases e with
    | non =>
      cases h2; cases r2
      exact SeqAt.RcNeAt.bool_none b1
    | bl b2 =>
      cases h2; cases r2
      exact SeqAt.RcNeAt.bool_bool b1 b2
    | int i2 =>
      cases h2; obtain ⟨t2, rfl⟩ := r2
      exact SeqAt.RcNeAt.bool_int b1 i2 t2
    | str x2 =>
      cases h2; obtain ⟨t2, rfl⟩ := r2
      exact SeqAt.RcNeAt.bool_str b1 x2 t2
    | lst l2 =>
      obtain ⟨a2, vs2, rfl, g2, q2⟩ := h2; cases r2; obtain ⟨its2, y2, p2⟩ := lst_at ok g2
      exact SeqAt.RcNeAt.bool_list b1 p2 hu
    | tup l2 =>
      obtain ⟨a2, vs2, rfl, g2, q2⟩ := h2; cases r2; obtain ⟨its2, y2, p2⟩ := tup_at ok g2
      exact SeqAt.RcNeAt.bool_tuple b1 p2 hu
    | dic k2 l2 => exact absurd hE (by simp only [D.dep]; omega)
  | int i1 =>
    cases h1; obtain ⟨t1, rfl⟩ := r1
    cases e with
    | non =>
      cases h2; cases r2
      exact SeqAt.RcNeAt.int_none i1 t1
    | bl b2 =>
      cases h2; cases r2
      exact SeqAt.RcNeAt.int_bool i1 t1 b2
    | int i2 =>
      cases h2; obtain ⟨t2, rfl⟩ := r2
      exact SeqAt.RcNeAt.int_int i1 t1 i2 t2
    | str x2 =>
      cases h2; obtain ⟨t2, rfl⟩ := r2
      exact SeqAt.RcNeAt.int_str i1 t1 x2 t2
    | lst l2 =>
      obtain ⟨a2, vs2, rfl, g2, q2⟩ := h2; cases r2; obtain ⟨its2, y2, p2⟩ := lst_at ok g2
      exact SeqAt.RcNeAt.int_list i1 t1 p2 hu
    | tup l2 =>
      obtain ⟨a2, vs2, rfl, g2, q2⟩ := h2; cases r2; obtain ⟨its2, y2, p2⟩ := tup_at ok g2
      exact SeqAt.RcNeAt.int_tuple i1 t1 p2 hu
    | dic k2 l2 => exact absurd hE (by simp only [D.dep]; omega)
  | str x1 =>
    cases h1; obtain ⟨t1, rfl⟩ := r1
    cases e with
    | non =>
      cases h2; cases r2
      exact SeqAt.RcNeAt.str_none x1 t1
    | bl b2 =>
      cases h2; cases r2
      exact SeqAt.RcNeAt.str_bool x1 t1 b2
    | int i2 =>
      cases h2; obtain ⟨t2, rfl⟩ := r2
      exact SeqAt.RcNeAt.str_int x1 t1 i2 t2
    | str x2 =>
      cases h2; obtain ⟨t2, rfl⟩ := r2
      exact SeqAt.RcNeAt.str_str x1 t1 x2 t2
    | lst l2 =>
      obtain ⟨a2, vs2, rfl, g2, q2⟩ := h2; cases r2; obtain ⟨its2, y2, p2⟩ := lst_at ok g2
      exact SeqAt.RcNeAt.str_list x1 t1 p2 hu
    | tup l2 =>
      obtain ⟨a2, vs2, rfl, g2, q2⟩ := h2; cases r2; obtain ⟨its2, y2, p2⟩ := tup_at ok g2
      exact SeqAt.RcNeAt.str_tuple x1 t1 p2 hu
    | dic k2 l2 => exact absurd hE (by simp only [D.dep]; omega)
  | lst l1 =>
    obtain ⟨a1, vs1, rfl, g1, q1⟩ := h1; cases r1; obtain ⟨its1, y1, p1⟩ := lst_at ok g1
    cases e with
    | non =>
      cases h2; cases r2
      exact SeqAt.RcNeAt.list_none p1 hu
    | bl b2 =>
      cases h2; cases r2
      exact SeqAt.RcNeAt.list_bool b2 p1 hu
    | int i2 =>
      cases h2; obtain ⟨t2, rfl⟩ := r2
      exact SeqAt.RcNeAt.list_int i2 t2 p1 hu
    | str x2 =>
      cases h2; obtain ⟨t2, rfl⟩ := r2
      exact SeqAt.RcNeAt.list_str x2 t2 p1 hu
    | lst l2 =>
      obtain ⟨a2, vs2, rfl, g2, q2⟩ := h2; cases r2; obtain ⟨its2, y2, p2⟩ := lst_at ok g2
      exact rcneat_lists ok hn hE hu q1 q2 y1 y2 p1 p2 rec
    | tup l2 =>
      obtain ⟨a2, vs2, rfl, g2, q2⟩ := h2; cases r2; obtain ⟨its2, y2, p2⟩ := tup_at ok g2
      exact SeqAt.RcNeAt.list_tuple p1 p2 hu
    | dic k2 l2 => exact absurd hE (by simp only [D.dep]; omega)
  | tup l1 =>
    obtain ⟨a1, vs1, rfl, g1, q1⟩ := h1; cases r1; obtain ⟨its1, y1, p1⟩ := tup_at ok g1
    cases e with
    | non =>
      cases h2; cases r2
      exact SeqAt.RcNeAt.tuple_none p1 hu
    | bl b2 =>
      cases h2; cases r2
      exact SeqAt.RcNeAt.tuple_bool b2 p1 hu
    | int i2 =>
      cases h2; obtain ⟨t2, rfl⟩ := r2
      exact SeqAt.RcNeAt.tuple_int i2 t2 p1 hu
    | str x2 =>
      cases h2; obtain ⟨t2, rfl⟩ := r2
      exact SeqAt.RcNeAt.tuple_str x2 t2 p1 hu
    | lst l2 =>
      obtain ⟨a2, vs2, rfl, g2, q2⟩ := h2; cases r2; obtain ⟨its2, y2, p2⟩ := lst_at ok g2
      exact SeqAt.RcNeAt.tuple_list p1 p2 hu
    | tup l2 =>
      obtain ⟨a2, vs2, rfl, g2, q2⟩ := h2; cases r2; obtain ⟨its2, y2, p2⟩ := tup_at ok g2
      exact rcneat_tups ok hn hE hu q1 q2 y1 y2 p1 p2 rec
    | dic k2 l2 => exact absurd hE (by simp only [D.dep]; omega)
  | dic k1 l1 => exact absurd hn (by simp only [D.dep]; omega)
theorem eq_step (ok:HOk P w H s.heap) {A:Around} {n:Nat} (hu:A.units < cLine) (rec:RecAt H s m m' A n) {d e:D} {v w':V} {u u':Value} (hn:d.dep <= n) (hN:n < 1000) (hE:e.dep < 1000) (h1:Is H m d v) (h2:Is H m' e w') (r1:RelV v u) (r2:RelV w' u') :
    SeqAt.EqAt A s u u' (eqD d e) := by
  cases d with
  | non =>
    cases h1; cases r1
    cases e with
    | non =>
      cases h2; cases r2
      exact SeqAt.EqAt.same _
    | bl b2 =>
      cases h2; cases r2
      exact SeqAt.EqAt.none_bool b2
    | int i2 =>
      cases h2; obtain ⟨t2, rfl⟩ := r2
      exact SeqAt.EqAt.none_int i2 t2
    | str x2 =>
      cases h2; obtain ⟨t2, rfl⟩ := r2
      exact SeqAt.EqAt.none_str x2 t2
    | lst l2 =>
      obtain ⟨a2, vs2, rfl, g2, q2⟩ := h2; cases r2; obtain ⟨its2, y2, p2⟩ := lst_at ok g2
      exact SeqAt.EqAt.none_list p2 hu
    | tup l2 =>
      obtain ⟨a2, vs2, rfl, g2, q2⟩ := h2; cases r2; obtain ⟨its2, y2, p2⟩ := tup_at ok g2
      exact SeqAt.EqAt.none_tuple p2 hu
    | dic k2 l2 => exact absurd hE (by simp only [D.dep]; omega)
  | bl b1 =>
    cases h1; cases r1
    cases e with
    | non =>
      cases h2; cases r2
      exact SeqAt.EqAt.bool_none b1
    | bl b2 =>
      cases h2; cases r2
      exact SeqAt.EqAt.bool_bool b1 b2
    | int i2 =>
      cases h2; obtain ⟨t2, rfl⟩ := r2
      exact SeqAt.EqAt.bool_int b1 i2 t2
    | str x2 =>
      cases h2; obtain ⟨t2, rfl⟩ := r2
      exact SeqAt.EqAt.bool_str b1 x2 t2
    | lst l2 =>
      obtain ⟨a2, vs2, rfl, g2, q2⟩ := h2; cases r2; obtain ⟨its2, y2, p2⟩ := lst_at ok g2
      exact SeqAt.EqAt.bool_list b1 p2 hu
    | tup l2 =>
      obtain ⟨a2, vs2, rfl, g2, q2⟩ := h2; cases r2; obtain ⟨its2, y2, p2⟩ := tup_at ok g2
      exact SeqAt.EqAt.bool_tuple b1 p2 hu
    | dic k2 l2 => exact absurd hE (by simp only [D.dep]; omega)
  | int i1 =>
    cases h1; obtain ⟨t1, rfl⟩ := r1
    cases e with
    | non =>
      cases h2; cases r2
      exact SeqAt.EqAt.int_none i1 t1
    | bl b2 =>
      cases h2; cases r2
      exact SeqAt.EqAt.int_bool i1 t1 b2
    | int i2 =>
      cases h2; obtain ⟨t2, rfl⟩ := r2
      exact SeqAt.EqAt.int_int i1 t1 i2 t2
    | str x2 =>
      cases h2; obtain ⟨t2, rfl⟩ := r2
      exact SeqAt.EqAt.int_str i1 t1 x2 t2
    | lst l2 =>
      obtain ⟨a2, vs2, rfl, g2, q2⟩ := h2; cases r2; obtain ⟨its2, y2, p2⟩ := lst_at ok g2
      exact SeqAt.EqAt.int_list i1 t1 p2 hu
    | tup l2 =>
      obtain ⟨a2, vs2, rfl, g2, q2⟩ := h2; cases r2; obtain ⟨its2, y2, p2⟩ := tup_at ok g2
      exact SeqAt.EqAt.int_tuple i1 t1 p2 hu
    | dic k2 l2 => exact absurd hE (by simp only [D.dep]; omega)
  | str x1 =>
    cases h1; obtain ⟨t1, rfl⟩ := r1
    cases e with
    | non =>
      cases h2; cases r2
      exact SeqAt.EqAt.str_none x1 t1
    | bl b2 =>
      cases h2; cases r2
      exact SeqAt.EqAt.str_bool x1 t1 b2
    | int i2 =>
      cases h2; obtain ⟨t2, rfl⟩ := r2
      exact SeqAt.EqAt.str_int x1 t1 i2 t2
    | str x2 =>
      cases h2; obtain ⟨t2, rfl⟩ := r2
      exact SeqAt.EqAt.str_str x1 t1 x2 t2
    | lst l2 =>
      obtain ⟨a2, vs2, rfl, g2, q2⟩ := h2; cases r2; obtain ⟨its2, y2, p2⟩ := lst_at ok g2
      exact SeqAt.EqAt.str_list x1 t1 p2 hu
    | tup l2 =>
      obtain ⟨a2, vs2, rfl, g2, q2⟩ := h2; cases r2; obtain ⟨its2, y2, p2⟩ := tup_at ok g2
      exact SeqAt.EqAt.str_tuple x1 t1 p2 hu
    | dic k2 l2 => exact absurd hE (by simp only [D.dep]; omega)
  | lst l1 =>
    obtain ⟨a1, vs1, rfl, g1, q1⟩ := h1; cases r1; obtain ⟨its1, y1, p1⟩ := lst_at ok g1
    cases e with
    | non =>
      cases h2; cases r2
      exact SeqAt.EqAt.list_none p1 hu
    | bl b2 =>
      cases h2; cases r2
      exact SeqAt.EqAt.list_bool b2 p1 hu
    | int i2 =>
      cases h2; obtain ⟨t2, rfl⟩ := r2
      exact SeqAt.EqAt.list_int i2 t2 p1 hu
    | str x2 =>
      cases h2; obtain ⟨t2, rfl⟩ := r2
      exact SeqAt.EqAt.list_str x2 t2 p1 hu
    | lst l2 =>
      obtain ⟨a2, vs2, rfl, g2, q2⟩ := h2; cases r2; obtain ⟨its2, y2, p2⟩ := lst_at ok g2
      exact eqat_ref (rcat_lists ok hn hE hu q1 q2 y1 y2 p1 p2 rec) fun z => by subst z; have e := Is.inj (m := m) (m' := m') (d := .lst l1) (e := .lst l2) ⟨a1, vs1, rfl, g1, q1⟩ ⟨a1, vs2, rfl, g2, q2⟩; rw [e]; exact eqD_refl _
    | tup l2 =>
      obtain ⟨a2, vs2, rfl, g2, q2⟩ := h2; cases r2; obtain ⟨its2, y2, p2⟩ := tup_at ok g2
      exact SeqAt.EqAt.list_tuple p1 p2 hu
    | dic k2 l2 => exact absurd hE (by simp only [D.dep]; omega)
  | tup l1 =>
    obtain ⟨a1, vs1, rfl, g1, q1⟩ := h1; cases r1; obtain ⟨its1, y1, p1⟩ := tup_at ok g1
    cases e with
    | non =>
      cases h2; cases r2
      exact SeqAt.EqAt.tuple_none p1 hu
    | bl b2 =>
      cases h2; cases r2
      exact SeqAt.EqAt.tuple_bool b2 p1 hu
    | int i2 =>
      cases h2; obtain ⟨t2, rfl⟩ := r2
      exact SeqAt.EqAt.tuple_int i2 t2 p1 hu
    | str x2 =>
      cases h2; obtain ⟨t2, rfl⟩ := r2
      exact SeqAt.EqAt.tuple_str x2 t2 p1 hu
    | lst l2 =>
      obtain ⟨a2, vs2, rfl, g2, q2⟩ := h2; cases r2; obtain ⟨its2, y2, p2⟩ := lst_at ok g2
      exact SeqAt.EqAt.tuple_list p1 p2 hu
    | tup l2 =>
      obtain ⟨a2, vs2, rfl, g2, q2⟩ := h2; cases r2; obtain ⟨its2, y2, p2⟩ := tup_at ok g2
      exact eqat_ref (rcat_tups ok hn hE hu q1 q2 y1 y2 p1 p2 rec) fun z => by subst z; have e := Is.inj (m := m) (m' := m') (d := .tup l1) (e := .tup l2) ⟨a1, vs1, rfl, g1, q1⟩ ⟨a1, vs2, rfl, g2, q2⟩; rw [e]; exact eqD_refl _
    | dic k2 l2 => exact absurd hE (by simp only [D.dep]; omega)
  | dic k1 l1 => exact absurd hn (by simp only [D.dep]; omega)
theorem eq_at (ok:HOk P w H s.heap) : ∀ (n:Nat) (A:Around) {d e:D} {v w':V} {u u':Value}, A.units + n < cLine -> n < 1000 -> d.dep <= n -> e.dep < 1000 -> Is H m d v -> Is H m' e w' -> RelV v u -> RelV w' u' -> SeqAt.EqAt A s u u' (eqD d e)
  | 0, A, d, e, v, w', u, u', hu, hN, hn, hE, h1, h2, r1, r2 => eq_step ok (by omega) (fun d e v w u u' hd => absurd hd (by omega)) hn hN hE h1 h2 r1 r2
  | n + 1, A, d, e, v, w', u, u', hu, hN, hn, hE, h1, h2, r1, r2 => eq_step ok (by omega) (fun d e v w u u' hd he i1 i2 r1 r2 => eq_at ok n A.in1 (by show A.units + 1 + n < cLine; omega) (by omega) (by omega) he i1 i2 r1 r2) hn hN hE h1 h2 r1 r2
theorem rec_at (ok:HOk P w H s.heap) {A:Around} {n:Nat} (hu:A.units + n < cLine) (hN:n < 1000) : RecAt H s m m' A n := fun d e v w u u' hd he i1 i2 r1 r2 =>
  eq_at ok (n - 1) A.in1 (by show A.units + 1 + (n - 1) < cLine; omega) (by omega) (by omega) he i1 i2 r1 r2
end
end L3
set_option autoImplicit false
namespace L3
open PySem PySem.Spec PyProof.Rows L2
abbrev St := L2.St
inductive Res (α:Type) where
  | stuck | ok (a:α) | exc (c:Str)
def Res.bind {α β:Type} : Res α -> (α -> Res β) -> Res β
  | .stuck, _ => .stuck
  | .exc c, _ => .exc c
  | .ok a, k => k a
@[simp] theorem Res.bind_ok {α β:Type} (a:α) (k:α -> Res β) : (Res.ok a).bind k = k a := rfl
@[simp] theorem Res.bind_exc {α β:Type} (c:Str) (k:α -> Res β) : (Res.exc c:Res α).bind k = .exc c := rfl
@[simp] theorem Res.bind_stuck {α β:Type} (k:α -> Res β) : (Res.stuck:Res α).bind k = .stuck := rfl
inductive Sl where
  | val (d:D) (fr:Bool) | own (ds:List D) (fr:Bool) | tre (d:D) | mes (d:D)
abbrev En := List (Option Sl)
inductive R where
  | val (d:D) (fr:Bool) (al:List Nat) | new (ds:List D) (fr:Bool) | fre (d:D)
def R.d:R -> D
  | .val d _ _ => d
  | .new ds _ => .lst ds
  | .fre d => d
def R.fr:R -> Bool
  | .val _ f _ => f
  | .new _ f => f
  | .fre _ => true
def R.al:R -> List Nat
  | .val _ _ al => al
  | .new _ _ => []
  | .fre _ => []
@[simp] theorem R.d_fre (d:D) : (R.fre d).d = d := rfl
@[simp] theorem R.fr_fre (d:D) : (R.fre d).fr = true := rfl
@[simp] theorem R.al_fre (d:D) : (R.fre d).al = [] := rfl
@[simp] theorem R.d_val (d:D) (f:Bool) (al:List Nat) : (R.val d f al).d = d := rfl
@[simp] theorem R.d_new (ds:List D) (f:Bool) : (R.new ds f).d = .lst ds := rfl
@[simp] theorem R.fr_val (d:D) (f:Bool) (al:List Nat) : (R.val d f al).fr = f := rfl
@[simp] theorem R.fr_new (ds:List D) (f:Bool) : (R.new ds f).fr = f := rfl
@[simp] theorem R.al_val (d:D) (f:Bool) (al:List Nat) : (R.val d f al).al = al := rfl
@[simp] theorem R.al_new (ds:List D) (f:Bool) : (R.new ds f).al = [] := rfl
def mkV (d:D) (fr:Bool) (al:List Nat) : R := if d.flat then .val d true [] else .val d fr al
structure Gd where
  H₀:Hp
  Ma:Addr -> Prop
  Z:Addr -> Prop
abbrev mkG (H:Hp) (Ma:Addr -> Prop) : Gd := ⟨H, Ma, fun _ => False⟩
def MuZ (g:Gd) (H:Hp) (a:Addr) : Prop := Mu H a \/ (g.Z a /\ ∃ o u, H a = some (.frz o u))
theorem MuZ.same {g:Gd} {H H':Hp} {a:Addr} (h:MuZ g H a) (s:∀ o, H a = some o -> H' a = some o) : MuZ g H' a := h.imp (fun z => z.same s) fun ⟨z, o, u, e⟩ => ⟨z, o, u, s _ e⟩
def msk (g:Gd) (M:Addr -> Prop) (fr:Bool) (a:Addr) : Prop := M a /\ (fr = true -> g.H₀ a = none)
abbrev Pr := Nat -> Addr -> Prop
def vmsk (g:Gd) (M:Addr -> Prop) (fr:Bool) (ρ:Pr) (al:List Nat) (a:Addr) : Prop := msk g M fr a \/ ∃ i, i ∈ al /\ ρ i a
mutual
def IsSh (H:Hp) (m:Addr -> Prop) : D -> V -> Prop
  | .tup ds, v => ∃ a vs, v = .ref a /\ H a = some (.tup vs) /\ IsShs H m ds vs
  | .lst _, v => ∃ a vs, v = .ref a /\ H a = some (.lst vs) /\ m a
  | _, _ => True
def IsShs (H:Hp) (m:Addr -> Prop) : List D -> List V -> Prop
  | [], _ => True
  | d :: ds, vs => ∃ v r, vs = v :: r /\ IsSh H m d v /\ IsShs H m ds r
end
def SlOk (g:Gd) (M T:Addr -> Prop) (H:Hp) (v:V) : Sl -> Prop
  | .val d fr => Is H (msk g M fr) d v
  | .own ds fr => ∃ a vs, v = .ref a /\ H a = some (.lst vs) /\ (∀ b, T b ↔ b = a) /\ IsAll H (msk g M fr) ds vs
  | .tre d => Is H T d v
  | .mes d => IsSh H T d v
def Sl.isO:Sl -> Bool
  | .val _ _ => false
  | _ => true
def isOwn (env:En) (j:Nat) : Bool := match env[j]? with
  | some (some sl) => sl.isO
  | _ => false
structure Rep (g:Gd) (M:Addr -> Prop) (ρ:Pr) (env:En) (σ:St) (H:Hp) : Prop where
  same:Same g.H₀ H
  froz:∀ a, M a -> H a ≠ none
  inn:∀ a, M a -> g.H₀ a = none \/ g.Ma a
  fl:∀ a, M a -> g.H₀ a = none -> MuZ g H a
  slot:∀ (i:Nat) (sl:Sl), env[i]? = some (some sl) -> ∃ v, σ[i]? = some (some v) /\ SlOk g M (ρ i) H v sl
  priv:∀ (i:Nat) (a:Addr), ρ i a -> ¬ M a /\ g.H₀ a = none /\ Mu H a
  apart:∀ (i j:Nat) (a:Addr), ρ i a -> ρ j a -> i = j
  ow:∀ (i:Nat) (a:Addr), ρ i a -> isOwn env i = true
  len:env.length = σ.length
  zz:∀ a, g.Z a -> H a ≠ none
def ROk (g:Gd) (M:Addr -> Prop) (ρ:Pr) (H0 H:Hp) (v:V) : R -> Prop
  | .val d fr al => Is H (vmsk g M fr ρ al) d v
  | .new ds fr => ∃ a vs, v = .ref a /\ H a = some (.lst vs) /\ ¬ M a /\ H0 a = none /\ (∀ i, ¬ ρ i a) /\ IsAll H (msk g M fr) ds vs
  | .fre d => ∃ T:Addr -> Prop, (∀ a, T a -> ¬ M a /\ H0 a = none /\ Mu H a /\ ∀ i, ¬ ρ i a) /\ Is H T d v
structure Ext (M:Addr -> Prop) (H:Hp) (M':Addr -> Prop) (H':Hp) : Prop where
  m:∀ a, M a -> M' a
  h:Same H H'
  n:∀ a, M' a -> M a \/ H a = none
theorem Ext.refl (M:Addr -> Prop) (H:Hp) : Ext M H M H := ⟨fun _ z => z, Same.refl H, fun _ z => .inl z⟩
theorem Ext.trans {M M1 M2:Addr -> Prop} {H H1 H2:Hp} (a:Ext M H M1 H1) (b:Ext M1 H1 M2 H2) : Ext M H M2 H2 :=
  ⟨fun x z => b.m x (a.m x z), a.h.trans b.h, fun x z => (b.n x z).elim (a.n x) fun w => .inr (a.h.free w)⟩
section
variable {g:Gd} {M M':Addr -> Prop} {ρ:Pr} {env:En} {σ:St} {H H' H0:Hp} {fr:Bool} {al:List Nat}
mutual
theorem IsSh.mono {m m':Addr -> Prop} (kp:∀ a o, H a = some o -> fixd o -> H' a = some o) (kl:∀ a vs, m a -> H a = some (.lst vs) -> ∃ vs', H' a = some (.lst vs')) (mm:∀ a, m a -> m' a) : ∀ {d:D} {v:V}, IsSh H m d v -> IsSh H' m' d v
  | .non, _, h => h
  | .bl _, _, h => h
  | .int _, _, h => h
  | .str _, _, h => h
  | .tup ds, _, h => by
    obtain ⟨a, vs, e, h1, h2⟩ := h
    exact ⟨a, vs, e, kp a _ h1 True.intro, IsShs.mono kp kl mm h2⟩
  | .lst ds, _, h => by
    obtain ⟨a, vs, e, h1, h2⟩ := h
    obtain ⟨vs', h3⟩ := kl a vs h2 h1
    exact ⟨a, vs', e, h3, mm a h2⟩
  | .dic _ _, _, h => h
theorem IsShs.mono {m m':Addr -> Prop} (kp:∀ a o, H a = some o -> fixd o -> H' a = some o) (kl:∀ a vs, m a -> H a = some (.lst vs) -> ∃ vs', H' a = some (.lst vs')) (mm:∀ a, m a -> m' a) : ∀ {ds:List D} {vs:List V}, IsShs H m ds vs -> IsShs H' m' ds vs
  | [], _, h => h
  | d :: ds, _, h => by
    obtain ⟨v, r, e, h1, h2⟩ := h
    exact ⟨v, r, e, IsSh.mono kp kl mm h1, IsShs.mono kp kl mm h2⟩
end
theorem msk.mono (mm:∀ a, M a -> M' a) {a:Addr} (h:msk g M fr a) : msk g M' fr a := ⟨mm a h.1, h.2⟩
theorem vmsk.mono (mm:∀ a, M a -> M' a) {a:Addr} (h:vmsk g M fr ρ al a) : vmsk g M' fr ρ al a := h.imp (msk.mono mm) id
theorem Is.ext {d:D} {v:V} (e:Ext M H M' H') (h:Is H (vmsk g M fr ρ al) d v) : Is H' (vmsk g M' fr ρ al) d v :=
  h.mono (fun a o q _ => e.h a o q) fun _ _ _ z => z.mono e.m
theorem IsAll.ext {ds:List D} {vs:List V} (e:Ext M H M' H') (h:IsAll H (vmsk g M fr ρ al) ds vs) : IsAll H' (vmsk g M' fr ρ al) ds vs :=
  h.mono (fun a o q _ => e.h a o q) fun _ _ _ z => z.mono e.m
theorem SlOk.weak {T:Addr -> Prop} {v:V} {sl:Sl} (mm:∀ a, M a -> M' a) (h:SlOk g M T H v sl) : SlOk g M' T H v sl := by
  cases sl with
  | val d fr => exact Is.weak (fun b z => msk.mono mm z) h
  | own ds fr =>
    obtain ⟨b, vs, rfl, h1, h2, h4⟩ := h
    exact ⟨b, vs, rfl, h1, h2, IsAll.weak (fun b z => msk.mono mm z) h4⟩
  | tre d => exact h
  | mes d => exact h
theorem SlOk.same {T:Addr -> Prop} {v:V} {sl:Sl} (s:Same H H') (h:SlOk g M T H v sl) : SlOk g M T H' v sl := by
  cases sl with
  | val d fr => exact Is.same s h
  | own ds fr =>
    obtain ⟨b, vs, rfl, h1, h2, h4⟩ := h
    exact ⟨b, vs, rfl, s _ _ h1, h2, IsAll.same s h4⟩
  | tre d => exact Is.same s h
  | mes d => exact IsSh.mono (fun a o e _ => s a o e) (fun a vs _ e => ⟨vs, s _ _ e⟩) (fun _ z => z) h
theorem Rep.moreT {T:Addr -> Prop} (r:Rep g M ρ env σ H) (ht:∀ a, T a -> Mu H a /\ g.H₀ a = none /\ ∀ i, ¬ ρ i a) : Rep g (fun b => M b \/ T b) ρ env σ H where
  same := r.same
  froz := fun b hb => hb.elim (r.froz b) fun e => (ht b e).1.some
  inn := fun b hb => hb.elim (r.inn b) fun e => .inl (ht b e).2.1
  fl := fun b hb h0 => hb.elim (fun z => r.fl b z h0) fun e => .inl (ht b e).1
  slot := fun i sl e => by
    obtain ⟨v, ev, s⟩ := r.slot i sl e
    exact ⟨v, ev, SlOk.weak (fun _ => .inl) s⟩
  priv := fun i a h => ⟨fun z => z.elim (r.priv i a h).1 fun z => (ht a z).2.2 i h, (r.priv i a h).2⟩
  apart := r.apart
  ow := r.ow
  len := r.len
  zz := r.zz
theorem Rep.more {a:Addr} {ws:List V} (r:Rep g M ρ env σ H) (ha:H a = some (.lst ws)) (h0:g.H₀ a = none) (no:∀ i, ¬ ρ i a) : Rep g (fun b => M b \/ b = a) ρ env σ H :=
  r.moreT fun b e => by subst e; exact ⟨Mu.lst ha, h0, no⟩
theorem Rep.grow (r:Rep g M ρ env σ H) (s:Same H H') : Rep g M ρ env σ H' where
  same := r.same.trans s
  froz := fun a ha e => by
    cases q:H a with
    | none => exact r.froz a ha q
    | some o => rw [s a o q] at e; cases e
  inn := r.inn
  fl := fun a ha h0 => (r.fl a ha h0).same fun o e => s a o e
  slot := fun i sl e => by
    obtain ⟨v, ev, k⟩ := r.slot i sl e
    exact ⟨v, ev, SlOk.same s k⟩
  priv := fun i a h => let ⟨a1, a2, a3⟩ := r.priv i a h; ⟨a1, a2, a3.same fun o e => s a o e⟩
  apart := r.apart
  ow := r.ow
  len := r.len
  zz := fun a z e => by
    cases q:H a with
    | none => exact r.zz a z q
    | some o => rw [s a o q] at e; cases e
theorem Rep.free {a:Addr} (r:Rep g M ρ env σ H) (h:H a = none) : g.H₀ a = none /\ ¬ M a /\ ∀ i, ¬ ρ i a := by
  refine ⟨r.same.free h, fun z => r.froz a z h, fun i o => ?_⟩
  exact (r.priv i a o).2.2.some h
theorem same_upd {a:Addr} {o:HO} (h:H a = none) : Same H (upd H a o) := fun b u e => by rw [upd_ne (ne_of_none e h)]; exact e
theorem ROk.is {v:V} {r:R} {M0:Addr -> Prop} (rep:Rep g M ρ env σ H) (x:Ext M0 H0 M H) (h0:Same g.H₀ H0) (h:ROk g M ρ H0 H v r) : ∃ M', Ext M0 H0 M' H /\ (∀ a, M a -> M' a) /\ Rep g M' ρ env σ H /\ Is H (vmsk g M' r.fr ρ r.al) r.d v := by
  cases r with
  | val d fr al => exact ⟨M, x, fun _ z => z, rep, h⟩
  | new ds fr =>
    obtain ⟨a, vs, rfl, h1, h2, h3, h4, h5⟩ := h
    have z0:g.H₀ a = none := h0.free h3
    exact ⟨fun b => M b \/ b = a, ⟨fun b z => .inl (x.m b z), x.h, fun b z => z.elim (x.n b) fun e => .inr (e ▸ h3)⟩, fun _ => .inl, rep.more h1 z0 h4, a, vs, rfl, .inl ⟨h1, .inl ⟨.inr rfl, fun _ => z0⟩⟩, IsAll.weak (fun b z => .inl (msk.mono (fun _ => .inl) z)) h5⟩
  | fre d =>
    obtain ⟨T, ht, is⟩ := h
    exact ⟨fun b => M b \/ T b, ⟨fun b z => .inl (x.m b z), x.h, fun b z => z.elim (x.n b) fun e => .inr (ht b e).2.1⟩, fun _ => .inl, rep.moreT fun a z => let ⟨a1, a2, a3, a4⟩ := ht a z; ⟨a3, h0.free a2, a4⟩, Is.weak (fun b z => .inl ⟨.inr z, fun _ => h0.free (ht b z).2.1⟩) is⟩
theorem ROk.mkV {d:D} {v:V} (h:Is H (vmsk g M fr ρ al) d v) : ROk g M ρ H0 H v (mkV d fr al) := by
  unfold L3.mkV
  split
  · exact Is.flat (by assumption) h
  · exact h
theorem ROk.back {v:V} {r:R} {H1:Hp} (s:Same H1 H0) (h:ROk g M ρ H0 H v r) : ROk g M ρ H1 H v r := by
  cases r with
  | val d fr al => exact h
  | new ds fr =>
    obtain ⟨a, vs, rfl, h1, h2, h3, h4, h5⟩ := h
    exact ⟨a, vs, rfl, h1, h2, s.free h3, h4, h5⟩
  | fre d =>
    obtain ⟨T, ht, is⟩ := h
    exact ⟨T, fun a z => let ⟨a1, a2, a3⟩ := ht a z; ⟨a1, s.free a2, a3⟩, is⟩
end
def XOk (mg:Str -> Option Value) (E:XK) (g:Gd) (c:Str) : Prop := ∀ cls dx H', mg c = some cls -> Same g.H₀ H' -> E cls dx H'
section
variable (mg:Str -> Option Value) (E:XK) (g:Gd) (M:Addr -> Prop) (ρ:Pr) (env:En) (σ:St) (H:Hp)
def PostE (Q:VK) : Res R -> Prop
  | .stuck => False
  | .exc c => XOk mg E g c
  | .ok r => ∀ v M' H', Ext M H M' H' -> Rep g M' ρ env σ H' -> ROk g M' ρ H H' v r -> Q v H'
def rfrs (rs:List R) : Bool := rs.all R.fr
def rals (rs:List R) : List Nat := rs.flatMap R.al
def PostA (Q:List V -> Hp -> Prop) : Res (List R) -> Prop
  | .stuck => False
  | .exc c => XOk mg E g c
  | .ok rs => ∀ vs M' H', Ext M H M' H' -> Rep g M' ρ env σ H' -> IsAll H' (vmsk g M' (rfrs rs) ρ (rals rs)) (rs.map R.d) vs -> Q vs H'
def PostT (Q:Bool -> Hp -> Prop) : Res Bool -> Prop
  | .stuck => False
  | .exc c => XOk mg E g c
  | .ok b => ∀ M' H', Ext M H M' H' -> Rep g M' ρ env σ H' -> Q b H'
end
def Snd (mg:Str -> Option Value) (E:XK) (t:TE) (f:En -> Res R) : Prop := ∀ g M ρ env σ H Q, Rep g M ρ env σ H -> PostE mg E g M ρ env σ H Q (f env) -> t σ H Q
def SndA (mg:Str -> Option Value) (E:XK) (t:TA) (f:En -> Res (List R)) : Prop := ∀ g M ρ env σ H Q, Rep g M ρ env σ H -> PostA mg E g M ρ env σ H Q (f env) -> t σ H Q
def SndT (mg:Str -> Option Value) (E:XK) (t:TT) (f:En -> Res Bool) : Prop := ∀ g M ρ env σ H Q, Rep g M ρ env σ H -> PostT mg E g M ρ env σ H Q (f env) -> t σ H Q
def PD (X:Cx) (E:XK) (e:Expr) (f:En -> Res R) : Prop := ∃ t, PE X e t /\ Snd X.mg E t f
def PAD (X:Cx) (E:XK) (es:List Expr) (f:En -> Res (List R)) : Prop := ∃ t, PA X es t /\ SndA X.mg E t f
def PTD (X:Cx) (E:XK) (e:Expr) (f:En -> Res Bool) : Prop := ∃ t, PT X e t /\ SndT X.mg E t f
def PWD (X:Cx) (E:XK) (e:Expr) (f:En -> Res Bool) : Prop := ∃ t, PW X e t /\ SndT X.mg E t f
theorem PWD.pt {X:Cx} {E:XK} {e:Expr} {f:En -> Res Bool} (h:PWD X E e f) : PTD X E e f := let ⟨t, a, b⟩ := h; ⟨t, a.pt, b⟩
section
variable {mg:Str -> Option Value} {E:XK} {g:Gd} {M M':Addr -> Prop} {ρ:Pr} {env:En} {σ:St} {H H':Hp}
theorem PostE.ext {Q:VK} {r:Res R} (e:Ext M H M' H') (p:PostE mg E g M ρ env σ H Q r) : PostE mg E g M' ρ env σ H' Q r := by
  cases r with
  | stuck => exact p
  | exc c => exact p
  | ok r => exact fun v M2 H2 e2 rep2 ro => p v M2 H2 (e.trans e2) rep2 (ro.back e.h)
theorem PostA.ext {Q:List V -> Hp -> Prop} {r:Res (List R)} (e:Ext M H M' H') (p:PostA mg E g M ρ env σ H Q r) : PostA mg E g M' ρ env σ H' Q r := by
  cases r with
  | stuck => exact p
  | exc c => exact p
  | ok r => exact fun v M2 H2 e2 => p v M2 H2 (e.trans e2)
theorem PostT.ext {Q:Bool -> Hp -> Prop} {r:Res Bool} (e:Ext M H M' H') (p:PostT mg E g M ρ env σ H Q r) : PostT mg E g M' ρ env σ H' Q r := by
  cases r with
  | stuck => exact p
  | exc c => exact p
  | ok r => exact fun M2 H2 e2 => p M2 H2 (e.trans e2)
theorem PostE.val {Q:VK} {d:D} {fr:Bool} {al:List Nat} {v:V} (p:PostE mg E g M ρ env σ H Q (.ok (mkV d fr al))) (rep:Rep g M ρ env σ H) (h:Is H (vmsk g M fr ρ al) d v) : Q v H :=
  p v M H (Ext.refl M H) rep (ROk.mkV h)
theorem PostE.new {Q:VK} {ds:List D} {fr:Bool} {vs:List V} {a:Addr} (p:PostE mg E g M ρ env σ H Q (.ok (.new ds fr))) (rep:Rep g M ρ env σ H) (ha:H a = none) (h:IsAll H (msk g M fr) ds vs) : Q (.ref a) (upd H a (.lst vs)) := by
  have s:Same H (upd H a (.lst vs)) := same_upd ha
  obtain ⟨h0, hm, ho⟩ := rep.free ha
  exact p _ M _ ⟨fun _ z => z, s, fun _ z => .inl z⟩ (rep.grow s) ⟨a, vs, rfl, upd_same, hm, ha, ho, IsAll.same s h⟩
theorem PostE.tup {Q:VK} {ds:List D} {fr:Bool} {al:List Nat} {vs:List V} {a:Addr} (p:PostE mg E g M ρ env σ H Q (.ok (mkV (.tup ds) fr al))) (rep:Rep g M ρ env σ H) (ha:H a = none) (h:IsAll H (vmsk g M fr ρ al) ds vs) : Q (.ref a) (upd H a (.tup vs)) := by
  have s:Same H (upd H a (.tup vs)) := same_upd ha
  exact p _ M _ ⟨fun _ z => z, s, fun _ z => .inl z⟩ (rep.grow s) (ROk.mkV ⟨a, vs, rfl, upd_same, IsAll.same s h⟩)
theorem Snd.one {t:TE} {f:En -> Res R} (h:Snd mg E t f) (rep:Rep g M ρ env σ H) {α:Type} {K:R -> Res α} {P:(M:Addr -> Prop) -> (H:Hp) -> Res α -> Prop} {Q:VK}
    (hp:P M H ((f env).bind K)) (hs:∀ M H, P M H .stuck -> False) (hx:∀ M H c, P M H (.exc c) -> XOk mg E g c) (he:∀ M H M' H' r, Ext M H M' H' -> P M H r -> P M' H' r)
    (k:∀ r v M' H', Ext M H M' H' -> Rep g M' ρ env σ H' -> Is H' (vmsk g M' r.fr ρ r.al) r.d v -> P M' H' (K r) -> Q v H') : t σ H Q := by
  refine h g M ρ env σ H Q rep ?_
  cases e:f env with
  | stuck => rw [e] at hp; exact hs _ _ hp
  | exc c => rw [e] at hp; exact hx _ _ c hp
  | ok r =>
    rw [e] at hp
    intro v M1 H1 e1 rep1 ro
    obtain ⟨M2, e2, _, rep2, is⟩ := ro.is rep1 e1 rep.same
    exact k r v M2 H1 e2 rep2 is (he _ _ _ _ _ e2 hp)
theorem Snd.oneE {t:TE} {f:En -> Res R} (h:Snd mg E t f) (rep:Rep g M ρ env σ H) {K:R -> Res R} {Q':VK} {Q:VK} (hp:PostE mg E g M ρ env σ H Q' ((f env).bind K))
    (k:∀ r v M' H', Ext M H M' H' -> Rep g M' ρ env σ H' -> Is H' (vmsk g M' r.fr ρ r.al) r.d v -> PostE mg E g M' ρ env σ H' Q' (K r) -> Q v H') : t σ H Q :=
  h.one rep (P := fun M H r => PostE mg E g M ρ env σ H Q' r) hp (fun _ _ z => z) (fun _ _ _ z => z) (fun _ _ _ _ _ e p => p.ext e) k
theorem Snd.oneA {t:TE} {f:En -> Res R} (h:Snd mg E t f) (rep:Rep g M ρ env σ H) {K:R -> Res (List R)} {Q':List V -> Hp -> Prop} {Q:VK} (hp:PostA mg E g M ρ env σ H Q' ((f env).bind K))
    (k:∀ r v M' H', Ext M H M' H' -> Rep g M' ρ env σ H' -> Is H' (vmsk g M' r.fr ρ r.al) r.d v -> PostA mg E g M' ρ env σ H' Q' (K r) -> Q v H') : t σ H Q :=
  h.one rep (P := fun M H r => PostA mg E g M ρ env σ H Q' r) hp (fun _ _ z => z) (fun _ _ _ z => z) (fun _ _ _ _ _ e p => p.ext e) k
theorem Snd.oneT {t:TE} {f:En -> Res R} (h:Snd mg E t f) (rep:Rep g M ρ env σ H) {K:R -> Res Bool} {Q':Bool -> Hp -> Prop} {Q:VK} (hp:PostT mg E g M ρ env σ H Q' ((f env).bind K))
    (k:∀ r v M' H', Ext M H M' H' -> Rep g M' ρ env σ H' -> Is H' (vmsk g M' r.fr ρ r.al) r.d v -> PostT mg E g M' ρ env σ H' Q' (K r) -> Q v H') : t σ H Q :=
  h.one rep (P := fun M H r => PostT mg E g M ρ env σ H Q' r) hp (fun _ _ z => z) (fun _ _ _ z => z) (fun _ _ _ _ _ e p => p.ext e) k
theorem Snd.twoE {ta tb:TE} {fa fb:En -> Res R} (ha:Snd mg E ta fa) (hb:Snd mg E tb fb) (rep:Rep g M ρ env σ H) {K:R -> R -> Res R} {Q':VK} {S:V -> V -> Hp -> Prop}
    (hp:PostE mg E g M ρ env σ H Q' ((fa env).bind fun ra => (fb env).bind fun rb => K ra rb))
    (k:∀ ra rb x y M' H', Rep g M' ρ env σ H' -> Is H' (vmsk g M' ra.fr ρ ra.al) ra.d x -> Is H' (vmsk g M' rb.fr ρ rb.al) rb.d y -> PostE mg E g M' ρ env σ H' Q' (K ra rb) -> S x y H') :
    ta σ H fun x H1 => tb σ H1 fun y H2 => S x y H2 :=
  ha.oneE rep hp fun ra x M1 H1 e1 rep1 i1 p1 => hb.oneE rep1 p1 fun rb y M2 H2 e2 rep2 i2 p2 => k ra rb x y M2 H2 rep2 (i1.ext e2) i2 p2
end
end L3
namespace L3
open PySem PySem.Spec PyProof.Rows L2
def lim:Nat := 1000000
theorem lim_le {n:Nat} (h:n <= lim) : n <= sizeLine := by rw [sizeLine_eq]; unfold lim at h; omega
theorem lim_lt {n:Nat} (h:n < lim) : n < sizeLine := by rw [sizeLine_eq]; unfold lim at h; omega
def mkL (ds:List D) (fr:Bool) (al:List Nat) : R := if D.flats ds then .new ds true else if al.isEmpty then .new ds fr else .val (.lst ds) fr al
section
variable {mg:Str -> Option Value} {E:XK} {g:Gd} {M M':Addr -> Prop} {ρ:Pr} {env:En} {σ:St} {H H':Hp}
theorem vmsk.nil {fr:Bool} {a:Addr} (h:vmsk g M fr ρ [] a) : msk g M fr a := h.elim id fun ⟨_, z, _⟩ => absurd z (by simp)
theorem PostE.lst {Q:VK} {ds:List D} {fr:Bool} {al:List Nat} {vs:List V} {a:Addr} (p:PostE mg E g M ρ env σ H Q (.ok (mkL ds fr al))) (rep:Rep g M ρ env σ H) (ha:H a = none) (h:IsAll H (vmsk g M fr ρ al) ds vs) : Q (.ref a) (upd H a (.lst vs)) := by
  unfold mkL at p
  by_cases hf:D.flats ds = true
  · rw [if_pos hf] at p
    exact p.new rep ha (IsAll.flat hf h)
  · rw [if_neg hf] at p
    cases al with
    | nil =>
      exact PostE.new (p := p) rep ha (IsAll.weak (fun _ z => z.nil) h)
    | cons i al =>
      have p:PostE mg E g M ρ env σ H Q (.ok (.val (.lst ds) fr (i :: al))) := p
      have s:Same H (upd H a (.lst vs)) := same_upd ha
      obtain ⟨h0, hm, ho⟩ := rep.free ha
      refine p _ (fun b => M b \/ b = a) _ ⟨fun _ => .inl, s, fun b z => z.imp id fun (e:b = a) => by rw [e]; exact ha⟩ ((rep.grow s).more upd_same h0 ho) ⟨a, vs, rfl, .inl ⟨upd_same, .inl ⟨.inr rfl, fun _ => h0⟩⟩, ?_⟩
      exact (IsAll.same s h).weak fun b z => z.mono fun _ => .inl
theorem Is.rd {m:Addr -> Prop} {ds:List D} {v:V} (h:Is H m (.lst ds) v) : ∃ a vs, v = .ref a /\ Rd H a (.lst vs) /\ IsAll H m ds vs := by
  obtain ⟨a, vs, e, h1, h2⟩ := h
  exact ⟨a, vs, e, h1.imp (·.1) fun ⟨o, z, _⟩ => ⟨o, z⟩, h2⟩
end
section
variable {X:Cx} {E:XK}
def vVar (i:Nat) : En -> Res R := fun env => match env[i]? with
  | some (some (.val d fr)) => .ok (mkV d fr [])
  | some (some (.own ds fr)) => .ok (.val (.lst ds) fr [i])
  | some (some (.tre d)) => .ok (.val d true [i])
  | _ => .stuck
theorem snd_var {mg:Str -> Option Value} {i:Nat} : Snd mg E (tVar i) (vVar i) := by
  intro g M ρ env σ H Q rep p
  unfold vVar at p
  cases e1:env[i]? with
  | none => rw [e1] at p; exact p.elim
  | some o =>
    cases o with
    | none => rw [e1] at p; exact p.elim
    | some sl =>
      obtain ⟨v, ev, k⟩ := rep.slot i sl e1
      rw [e1] at p
      refine ⟨v, ev, ?_⟩
      cases sl with
      | val d fr => exact PostE.val p rep (Is.weak (fun _ z => .inl z) k)
      | own ds fr =>
        obtain ⟨a, vs, rfl, h1, h2, h4⟩ := k
        exact p _ M H (Ext.refl M H) rep ⟨a, vs, rfl, .inl ⟨h1, .inr ⟨i, by simp, (h2 a).mpr rfl⟩⟩, IsAll.weak (fun _ z => .inl z) h4⟩
      | tre d => exact p _ M H (Ext.refl M H) rep (Is.weak (fun a z => .inr ⟨i, by simp, z⟩) k)
      | mes d => exact p.elim
theorem pd_var {i:Nat} {e:Expr} (h:PE X e (tVar i)) : PD X E e (vVar i) := ⟨_, h, snd_var⟩
def vC (d:D) : En -> Res R := fun _ => .ok (.val d true [])
theorem snd_c {mg:Str -> Option Value} {d:D} {v:V} (h:∀ H m, Is H m d v) : Snd mg E (tC v) (vC d) := fun g M ρ env σ H Q rep p => p v M H (Ext.refl M H) rep (h H _)
theorem pd_int {i j pos} : PD X E (.Constant (.int i) j pos) (vC (.int i)) := ⟨_, pe_int, snd_c fun _ _ => rfl⟩
theorem pd_bl {b j pos} : PD X E (.Constant (.bool b) j pos) (vC (.bl b)) := ⟨_, pe_bl, snd_c fun _ _ => rfl⟩
def v2 (op:R -> R -> Res R) (fa fb:En -> Res R) : En -> Res R := fun env => (fa env).bind fun ra => (fb env).bind fun rb => op ra rb
def OpD (X:Cx) (E:XK) (f:Value -> Value -> Sem Value) (op:R -> R -> Res R) : Prop := ∃ r:R2, OpR X f r /\
  ∀ g M ρ env σ H Q ra rb x y, Rep g M ρ env σ H -> Is H (vmsk g M ra.fr ρ ra.al) ra.d x -> Is H (vmsk g M rb.fr ρ rb.al) rb.d y -> PostE X.mg E g M ρ env σ H Q (op ra rb) -> r x y H Q
theorem pd_op {a b:Expr} {fa fb:En -> Res R} {op:Operator} {k:R -> R -> Res R} {pos:Pos} (ho:OpD X E (binaryOp op) k) (ha:PD X E a fa) (hb:PD X E b fb) : PD X E (.BinOp a op b pos) (v2 k fa fb) := by
  obtain ⟨r, h1, h2⟩ := ho
  obtain ⟨ta, pa, sa⟩ := ha
  obtain ⟨tb, pb, sb⟩ := hb
  exact ⟨_, pe_op h1 pa pb, fun g M ρ env σ H Q rep p => sa.twoE sb rep p fun ra rb x y M' H' rep' i1 i2 p' => h2 g M' ρ env σ H' Q ra rb x y rep' i1 i2 p'⟩
theorem pd_cmp {a b:Expr} {fa fb:En -> Res R} {op:CmpOp} {k:R -> R -> Res R} {pos:Pos} (ho:OpD X E (compareOp op) k) (ha:PD X E a fa) (hb:PD X E b fb) (hm:behindInMarks op b = false) : PD X E (.Compare a [op] [b] pos) (v2 k fa fb) := by
  obtain ⟨r, h1, h2⟩ := ho
  obtain ⟨ta, pa, sa⟩ := ha
  obtain ⟨tb, pb, sb⟩ := hb
  exact ⟨_, pe_cmpR h1 pa pb hm, fun g M ρ env σ H Q rep p => sa.twoE sb rep p fun ra rb x y M' H' rep' i1 i2 p' => h2 g M' ρ env σ H' Q ra rb x y rep' i1 i2 p'⟩
def oI (C:Int -> Int -> Bool) (k:Int -> Int -> D) (a b:R) : Res R := match a.d, b.d with
  | .int i, .int j => if C i j then .ok (.val (k i j) true []) else .stuck
  | _, _ => .stuck
theorem opd_I {f:Value -> Value -> Sem Value} {C:Int -> Int -> Prop} {kV:Int -> Int -> V} (c:Int -> Int -> Bool) (k:Int -> Int -> D) (ho:OpR X f (rI C kV)) (hc:∀ i j, c i j = true -> C i j) (hk:∀ H m i j, Is H m (k i j) (kV i j)) : OpD X E f (oI c k) := by
  refine ⟨_, ho, fun g M ρ env σ H Q ra rb x y rep i1 i2 p => ?_⟩
  unfold oI at p
  cases e1:ra.d with
  | int i =>
    rw [e1] at p i1
    cases e2:rb.d with
    | int j =>
      rw [e2] at p i2
      cases i1; cases i2
      by_cases h:c i j = true
      · simp only [h, if_true] at p
        exact ⟨i, j, rfl, rfl, hc i j h, p _ M H (Ext.refl M H) rep (hk H _ i j)⟩
      · simp only [h] at p
        exact p.elim
    | _ => rw [e2] at p; exact p.elim
  | _ => rw [e1] at p; exact p.elim
theorem opd_I0 {f:Value -> Value -> Sem Value} {kV:Int -> Int -> V} (k:Int -> Int -> D) (ho:OpR X f (rI0 kV)) (hk:∀ H m i j, Is H m (k i j) (kV i j)) : OpD X E f (oI (fun _ _ => true) k) := by
  refine opd_I (C := fun _ _ => True) (kV := kV) _ k (fun pins s σ H x y v u Q I rx ry h => ?_) (fun _ _ _ => True.intro) hk
  obtain ⟨i, j, a, b, _, q⟩ := h
  exact ho pins s σ H x y v u Q I rx ry ⟨i, j, a, b, q⟩
def oSub:R -> R -> Res R := oI (fun _ _ => true) fun i j => .int (i - j)
def cMul (i j:Int) : Bool := (decide (-(2 ^ 64) < i) && decide (i < 2 ^ 64)) || (decide (-(2 ^ 64) < j) && decide (j < 2 ^ 64))
def oMul:R -> R -> Res R := oI cMul fun i j => .int (i * j)
def oDiv:R -> R -> Res R := oI (fun _ j => decide (0 < j) && decide (j < 1073741824)) fun i j => .int (i / j)
def oMod:R -> R -> Res R := oI (fun _ j => decide (0 < j)) fun i j => .int (i % j)
theorem od_sub:OpD X E (binaryOp .Sub) oSub := opd_I0 _ op_sub fun _ _ _ _ => rfl
theorem od_mul:OpD X E (binaryOp .Mult) oMul := opd_I _ _ op_mul (fun i j h => by
  simp only [cMul, Bool.or_eq_true, Bool.and_eq_true, decide_eq_true_eq] at h
  exact h) fun _ _ _ _ => rfl
theorem od_div:OpD X E (binaryOp .FloorDiv) oDiv := opd_I _ _ op_fdiv (fun i j h => by
  simp only [Bool.and_eq_true, decide_eq_true_eq] at h
  exact h) fun _ _ _ _ => rfl
theorem od_mod:OpD X E (binaryOp .Mod) oMod := opd_I _ _ op_mod (fun i j h => by simpa using h) fun _ _ _ _ => rfl
def oLt:R -> R -> Res R := oI (fun _ _ => true) fun i j => .bl (decide (i < j))
def oGt:R -> R -> Res R := oI (fun _ _ => true) fun i j => .bl (decide (j < i))
def oGe:R -> R -> Res R := oI (fun _ _ => true) fun i j => .bl (decide (j <= i))
theorem od_lt:OpD X E (compareOp .Lt) oLt := opd_I0 _ op_lt fun _ _ _ _ => rfl
theorem od_gt:OpD X E (compareOp .Gt) oGt := opd_I0 _ op_gt fun _ _ _ _ => rfl
theorem od_ge:OpD X E (compareOp .GtE) oGe := opd_I0 _ op_ge fun _ _ _ _ => rfl
theorem Inv.rdL {pins:List (Addr × Obj)} {σ:St} {H:Hp} {s:Shared} {l:Addr} {xs:List V} (I:L2.Inv X pins σ H s) (h:Rd H l (.lst xs)) :
    xs.length <= sizeLine /\ ∃ (its : List Value) (n : Nat), Vals xs its /\ xs.length = its.length /\ s.heap.get? l = some { cls := .type "list", data := .seq its.toArray n } := by
  obtain ⟨z, its, n, r, e⟩ := (h.ok I.hok:ObjOk X.prog X.w H s.heap l (.lst xs))
  exact ⟨z, its, n, r, r.length, e⟩
def rCatS:R2 := fun x y H Q => ∃ l b xs zs, x = .ref l /\ y = .ref b /\ Rd H l (.lst xs) /\ Rd H b (.lst zs) /\ xs.length + zs.length <= sizeLine /\ ∀ p, H p = none -> Q (.ref p) (upd H p (.lst (xs ++ zs)))
theorem op_catS:OpR X (binaryOp .Add) rCatS := by
  intro pins s σ H x y v u Q I rx ry h
  obtain ⟨l, b, xs, zs, rfl, rfl, hH, hB, hz, q⟩ := h
  cases rx
  cases ry
  obtain ⟨z, its, n, r, hl, e⟩ := Inv.rdL I hH
  obtain ⟨z2, its2, n2, r2, hl2, e2⟩ := Inv.rdL I hB
  refine PySem.P.add_list e e2 ?_ (by rw [List.size_toArray, List.size_toArray]; omega)
  have ea:its.toArray ++ its2.toArray = (its ++ its2).toArray := by simp
  rw [ea]
  exact ⟨.ref _, _, I.lnew (t' := s.toks) (r.append r2) (by rw [List.length_append]; omega), rfl, q _ I.fresh⟩
def oAdd (a b:R) : Res R := match a.d, b.d with
  | .int i, .int j => .ok (.val (.int (i + j)) true [])
  | .lst xs, .lst ys => if xs.length + ys.length <= lim then .ok (mkL (xs ++ ys) (a.fr && b.fr) (a.al ++ b.al)) else .stuck
  | .tup xs, .tup ys => if xs.length + ys.length <= lim /\ xs ≠ [] then .ok (mkV (.tup (xs ++ ys)) (a.fr && b.fr) (a.al ++ b.al)) else .stuck
  | .str x, .str y => if x.length + y.length <= lim then .ok (.val (.str (x ++ y)) true []) else .stuck
  | _, _ => .stuck
section
variable {g:Gd} {M:Addr -> Prop} {ρ:Pr} {env:En} {σ:St}
theorem vmsk.l {f1 f2:Bool} {l1 l2:List Nat} {a:Addr} (h:vmsk g M f1 ρ l1 a) : vmsk g M (f1 && f2) ρ (l1 ++ l2) a :=
  h.imp (fun z => ⟨z.1, fun e => z.2 (by cases f1 <;> simp_all)⟩) fun ⟨i, hi, o⟩ => ⟨i, by simp [hi], o⟩
theorem vmsk.r {f1 f2:Bool} {l1 l2:List Nat} {a:Addr} (h:vmsk g M f2 ρ l2 a) : vmsk g M (f1 && f2) ρ (l1 ++ l2) a :=
  h.imp (fun z => ⟨z.1, fun e => z.2 (by cases f2 <;> simp_all)⟩) fun ⟨i, hi, o⟩ => ⟨i, by simp [hi], o⟩
end
theorem od_add:OpD X E (binaryOp .Add) oAdd := by
  refine ⟨_, op_add.or (op_catS.or (op_catT.or op_add_str)), fun g M ρ env σ H Q ra rb x y rep i1 i2 p => ?_⟩
  unfold oAdd at p
  cases e1:ra.d with
  | int i =>
    rw [e1] at p i1
    cases e2:rb.d with
    | int j =>
      rw [e2] at p i2
      cases i1; cases i2
      exact .inl ⟨i, j, rfl, rfl, p _ M H (Ext.refl M H) rep rfl⟩
    | _ => rw [e2] at p; exact p.elim
  | lst xs =>
    rw [e1] at p i1
    cases e2:rb.d with
    | lst ys =>
      rw [e2] at p i2
      obtain ⟨a, vs, rfl, h1, h2⟩ := i1.rd
      obtain ⟨b, ws, rfl, h3, h4⟩ := i2.rd
      by_cases hz:xs.length + ys.length <= lim
      · simp only [hz, if_true] at p
        refine .inr (.inl ⟨a, b, vs, ws, rfl, rfl, h1, h3, by rw [h2.length, h4.length]; exact lim_le hz, fun q hq => ?_⟩)
        exact p.lst rep hq ((h2.weak fun _ z => z.l).append (h4.weak fun _ z => z.r))
      · simp only [hz, if_false] at p
        exact p.elim
    | _ => rw [e2] at p; exact p.elim
  | tup xs =>
    rw [e1] at p i1
    cases e2:rb.d with
    | tup ys =>
      rw [e2] at p i2
      obtain ⟨a, vs, rfl, h1, h2⟩ := i1
      obtain ⟨b, ws, rfl, h3, h4⟩ := i2
      dsimp only at p
      by_cases hz:xs.length + ys.length <= lim /\ xs ≠ []
      · rw [if_pos hz] at p
        have n1:vs ≠ [] := fun z => hz.2 (by have := h2.length; rw [z] at this; exact List.eq_nil_of_length_eq_zero this.symm)
        refine .inr (.inr (.inl ⟨a, b, vs, ws, rfl, rfl, SqT.of h1, SqT.of h3, n1, by rw [h2.length, h4.length]; exact lim_le hz.1, fun z => ?_, fun _ q hq => ?_⟩))
        · have ey:ys = [] := by have := h4.length; rw [z] at this; exact List.eq_nil_of_length_eq_zero this.symm
          rw [ey, List.append_nil] at p
          exact p.val rep (Is.weak (d := .tup xs) (fun _ z => z.l) ⟨a, vs, rfl, h1, h2⟩)
        · exact p.tup rep hq ((h2.weak fun _ z => z.l).append (h4.weak fun _ z => z.r))
      · rw [if_neg hz] at p
        exact p.elim
    | _ => rw [e2] at p; exact p.elim
  | str xs =>
    rw [e1] at p i1
    cases e2:rb.d with
    | str ys =>
      rw [e2] at p i2
      cases i1; cases i2
      by_cases hz:xs.length + ys.length <= lim
      · simp only [hz, if_true] at p
        exact .inr (.inr (.inr ⟨xs, ys, rfl, rfl, lim_le hz, p _ M H (Ext.refl M H) rep rfl⟩))
      · simp only [hz, if_false] at p
        exact p.elim
    | _ => rw [e2] at p; exact p.elim
  | _ => rw [e1] at p; exact p.elim
def oEq (a b:R) : Res R := if a.d.dep <= 50 /\ b.d.dep <= 50 then .ok (.val (.bl (eqD a.d b.d)) true []) else .stuck
def oNe (a b:R) : Res R := if a.d.dep <= 50 /\ b.d.dep <= 50 then .ok (.val (.bl (!eqD a.d b.d)) true []) else .stuck
def rEqD:R2 := fun x y H Q => ∃ d e m m', Is H m d x /\ Is H m' e y /\ (d.dep <= 50 /\ e.dep <= 50) /\ Q (.bl (eqD d e)) H
def rNeD:R2 := fun x y H Q => ∃ d e m m', Is H m d x /\ Is H m' e y /\ (d.dep <= 50 /\ e.dep <= 50) /\ Q (.bl (!eqD d e)) H
theorem op_eqD (hu:X.A.units + 64 < cLine) : OpR X (compareOp .Eq) rEqD := by
  intro pins s σ H x y v u Q I rx ry h
  obtain ⟨d, e, m, m', h1, h2, hd, q⟩ := h
  exact rc_step I.hok (by omega) (rec_at I.hok (A := X.A) (n := 50) (by omega) (by omega)) hd.1 (by omega) (by omega) h1 h2 rx ry X.prog X.w X.xe _ ⟨.bl _, H, I, rfl, q⟩
theorem op_neD (hu:X.A.units + 64 < cLine) : OpR X (compareOp .NotEq) rNeD := by
  intro pins s σ H x y v u Q I rx ry h
  obtain ⟨d, e, m, m', h1, h2, hd, q⟩ := h
  exact ne_step I.hok (by omega) (rec_at I.hok (A := X.A) (n := 50) (by omega) (by omega)) hd.1 (by omega) (by omega) h1 h2 rx ry X.prog X.w X.xe _ ⟨.bl _, H, I, rfl, q⟩
theorem od_eq (hu:X.A.units + 64 < cLine) : OpD X E (compareOp .Eq) oEq := by
  refine ⟨_, op_eqD hu, fun g M ρ env σ H Q ra rb x y rep i1 i2 p => ?_⟩
  unfold oEq at p
  by_cases h:ra.d.dep <= 50 /\ rb.d.dep <= 50
  · rw [if_pos h] at p
    exact ⟨_, _, _, _, i1, i2, h, p _ M H (Ext.refl M H) rep rfl⟩
  · rw [if_neg h] at p; exact p.elim
theorem od_ne (hu:X.A.units + 64 < cLine) : OpD X E (compareOp .NotEq) oNe := by
  refine ⟨_, op_neD hu, fun g M ρ env σ H Q ra rb x y rep i1 i2 p => ?_⟩
  unfold oNe at p
  by_cases h:ra.d.dep <= 50 /\ rb.d.dep <= 50
  · rw [if_pos h] at p
    exact ⟨_, _, _, _, i1, i2, h, p _ M H (Ext.refl M H) rep rfl⟩
  · rw [if_neg h] at p; exact p.elim
end
end L3
namespace L3
open PySem PySem.Spec PyProof.Rows L2
section
variable {X:Cx} {E:XK}
def D.isNon:D -> Bool
  | .non => true
  | _ => false
def tru:D -> Res Bool
  | .non => .ok false
  | .bl b => .ok b
  | .int i => .ok (i != 0)
  | .str y => if y.length <= lim then .ok ((y.length:Int) != 0) else .stuck
  | .tup ds => .ok (!ds.isEmpty)
  | .lst ds => .ok (!ds.isEmpty)
  | .dic _ _ => .stuck
theorem Is.tru {H:Hp} {m:Addr -> Prop} {d:D} {v:V} {k:Bool} (h:Is H m d v) (e:tru d = .ok k) : TruV X.K v H k := by
  cases d with
  | non => cases h; cases e; rfl
  | bl b => cases h; cases e; rfl
  | int b => cases h; cases e; rfl
  | str b =>
    cases h
    unfold L3.tru at e
    dsimp only at e
    by_cases hl:b.length <= lim
    · rw [if_pos hl] at e; cases e; exact ⟨lim_le hl, rfl⟩
    · rw [if_neg hl] at e; cases e
  | tup ds =>
    obtain ⟨a, vs, rfl, h1, h2⟩ := h
    cases e
    refine .inr (.inl ⟨vs, SqT.of h1, ?_⟩)
    have := h2.length
    cases ds <;> cases vs <;> simp_all
  | lst ds =>
    obtain ⟨a, vs, rfl, h1, h2⟩ := h.rd
    cases e
    refine .inl ⟨vs, .inl h1, ?_⟩
    have := h2.length
    cases ds <;> cases vs <;> simp_all
  | dic ks ds => cases e
def vTru (fa:En -> Res R) : En -> Res Bool := fun env => (fa env).bind fun ra => tru ra.d
theorem pt_tru {a:Expr} {fa:En -> Res R} (ha:PD X E a fa) (he:∀ whole, isTrue a X.env whole = (do let v <- whole; standAt a.pos; holding [v] (truthy v)) := by intro _; rfl) : PTD X E a (vTru fa) := by
  obtain ⟨ta, pa, sa⟩ := ha
  refine ⟨_, pt_truth pa he, fun g M ρ env σ H Q rep p => sa.oneT rep p fun r v M' H' e rep' i p' => ?_⟩
  cases q:tru r.d with
  | stuck => rw [q] at p'; exact p'.elim
  | exc c =>
    exfalso
    unfold tru at q
    cases z:r.d <;> simp only [z] at q <;> first | cases q | (split at q <;> cases q)
  | ok k =>
    rw [q] at p'
    exact ⟨k, i.tru q, p' M' H' (Ext.refl _ _) rep'⟩
def vB (fa:En -> Res R) : En -> Res Bool := fun env => (fa env).bind fun ra => match ra.d with
  | .bl b => .ok b
  | _ => .stuck
theorem pt_cmpD {a b:Expr} {fa fb:En -> Res R} {op:CmpOp} {k:R -> R -> Res R} {pos:Pos} (ho:OpD X E (compareOp op) k) (ha:PD X E a fa) (hb:PD X E b fb) (hm:behindInMarks op b = false) : PTD X E (.Compare a [op] [b] pos) (vB (v2 k fa fb)) := by
  obtain ⟨r, h1, h2⟩ := ho
  obtain ⟨ta, pa, sa⟩ := ha
  obtain ⟨tb, pb, sb⟩ := hb
  have S:Snd X.mg E (tOp r ta tb) (v2 k fa fb) := fun g M ρ env σ H Q rep p => sa.twoE sb rep p fun ra rb x y M' H' rep' i1 i2 p' => h2 g M' ρ env σ H' Q ra rb x y rep' i1 i2 p'
  refine ⟨_, pt_cmpR h1 pa pb hm, fun g M ρ env σ H Q rep p => S.oneT rep p fun r v M' H' e rep' i p' => ?_⟩
  cases q:r.d with
  | bl b =>
    rw [q] at i
    simp only [q] at p'
    cases i
    exact ⟨b, rfl, p' M' H' (Ext.refl _ _) rep'⟩
  | _ => simp only [q] at p'; exact p'.elim
def bNot (fa:En -> Res Bool) : En -> Res Bool := fun env => (fa env).bind fun b => .ok (!b)
def bAnd (fa fb:En -> Res Bool) : En -> Res Bool := fun env => (fa env).bind fun b => if b then fb env else .ok false
def bOr (fa fb:En -> Res Bool) : En -> Res Bool := fun env => (fa env).bind fun b => if b then .ok true else fb env
section
variable {mg:Str -> Option Value} {g:Gd} {M M':Addr -> Prop} {ρ:Pr} {env:En} {σ:St} {H H':Hp}
theorem SndT.oneT {t:TT} {f:En -> Res Bool} (h:SndT mg E t f) (rep:Rep g M ρ env σ H) {K:Bool -> Res Bool} {Q':Bool -> Hp -> Prop} {Q:Bool -> Hp -> Prop} (hp:PostT mg E g M ρ env σ H Q' ((f env).bind K))
    (k:∀ b M' H', Ext M H M' H' -> Rep g M' ρ env σ H' -> PostT mg E g M' ρ env σ H' Q' (K b) -> Q b H') : t σ H Q := by
  refine h g M ρ env σ H Q rep ?_
  cases e:f env with
  | stuck => rw [e] at hp; exact hp
  | exc c => rw [e] at hp; exact hp
  | ok b => rw [e] at hp; exact fun M1 H1 e1 rep1 => k b M1 H1 e1 rep1 (PostT.ext e1 hp)
theorem SndT.oneE {t:TT} {f:En -> Res Bool} (h:SndT mg E t f) (rep:Rep g M ρ env σ H) {K:Bool -> Res R} {Q':VK} {Q:Bool -> Hp -> Prop} (hp:PostE mg E g M ρ env σ H Q' ((f env).bind K))
    (k:∀ b M' H', Ext M H M' H' -> Rep g M' ρ env σ H' -> PostE mg E g M' ρ env σ H' Q' (K b) -> Q b H') : t σ H Q := by
  refine h g M ρ env σ H Q rep ?_
  cases e:f env with
  | stuck => rw [e] at hp; exact hp
  | exc c => rw [e] at hp; exact hp
  | ok b => rw [e] at hp; exact fun M1 H1 e1 rep1 => k b M1 H1 e1 rep1 (PostE.ext e1 hp)
end
theorem pt_notD {a:Expr} {fa:En -> Res Bool} {pos:Pos} (ha:PTD X E a fa) : PTD X E (.UnaryOp .Not a pos) (bNot fa) := by
  obtain ⟨ta, pa, sa⟩ := ha
  exact ⟨_, pt_not pa, fun g M ρ env σ H Q rep p => sa.oneT rep p fun b M' H' e rep' p' => p' M' H' (Ext.refl _ _) rep'⟩
theorem pw_and1D {a:Expr} {fa:En -> Res Bool} {pos:Pos} (ha:PTD X E a fa) : PWD X E (.BoolOp .And [a] pos) fa := let ⟨t, pa, sa⟩ := ha; ⟨t, pw_and1 pa, sa⟩
theorem pw_or1D {a:Expr} {fa:En -> Res Bool} {pos:Pos} (ha:PTD X E a fa) : PWD X E (.BoolOp .Or [a] pos) fa := let ⟨t, pa, sa⟩ := ha; ⟨t, pw_or1 pa, sa⟩
theorem pw_andD {a b:Expr} {rest:List Expr} {fa fb:En -> Res Bool} {pos:Pos} (ha:PTD X E a fa) (hb:PWD X E (.BoolOp .And (b :: rest) pos) fb) : PWD X E (.BoolOp .And (a :: b :: rest) pos) (bAnd fa fb) := by
  obtain ⟨ta, pa, sa⟩ := ha
  obtain ⟨tb, pb, sb⟩ := hb
  refine ⟨_, pw_and pa pb, fun g M ρ env σ H Q rep p => sa.oneT rep p fun b M' H' e rep' p' => ?_⟩
  cases b with
  | true => exact iteT (sb g M' ρ env σ H' Q rep' p')
  | false => exact iteF (p' M' H' (Ext.refl _ _) rep')
theorem pw_orD {a b:Expr} {rest:List Expr} {fa fb:En -> Res Bool} {pos:Pos} (ha:PTD X E a fa) (hb:PWD X E (.BoolOp .Or (b :: rest) pos) fb) : PWD X E (.BoolOp .Or (a :: b :: rest) pos) (bOr fa fb) := by
  obtain ⟨ta, pa, sa⟩ := ha
  obtain ⟨tb, pb, sb⟩ := hb
  refine ⟨_, pw_or pa pb, fun g M ρ env σ H Q rep p => sa.oneT rep p fun b M' H' e rep' p' => ?_⟩
  cases b with
  | true => exact iteT (p' M' H' (Ext.refl _ _) rep')
  | false => exact iteF (sb g M' ρ env σ H' Q rep' p')
def oIx (a b:R) : Res R := match a.d, b.d with
  | .lst xs, .int i => match atI xs i with
    | some d => .ok (mkV d a.fr a.al)
    | none => .stuck
  | .tup xs, .int i => match atI xs i with
    | some d => .ok (mkV d a.fr a.al)
    | none => .stuck
  | .str z, .int i => if z.length <= lim then (match atI z.cps.toList i with
    | some c => .ok (.val (.str ⟨#[c]⟩) true [])
    | none => .stuck) else .stuck
  | _, _ => .stuck
theorem IsAll.atI {H:Hp} {m:Addr -> Prop} {ds:List D} {vs:List V} {i:Int} {d:D} (h:IsAll H m ds vs) (e:L2.atI ds i = some d) : ∃ v, L2.atI vs i = some v /\ Is H m d v := by
  unfold L2.atI at e ⊢
  rw [h.length]
  cases q:ixN ds.length i with
  | none => rw [q] at e; cases e
  | some j =>
    rw [q] at e
    exact h.get e
theorem od_ix:∃ r:R2, IxR X r /\ ∀ g M ρ env σ H Q ra rb x y, Rep g M ρ env σ H -> Is H (vmsk g M ra.fr ρ ra.al) ra.d x -> Is H (vmsk g M rb.fr ρ rb.al) rb.d y -> PostE X.mg E g M ρ env σ H Q (oIx ra rb) -> r x y H Q := by
  refine ⟨_, ix_seq, fun g M ρ env σ H Q ra rb x y rep i1 i2 p => ?_⟩
  unfold oIx at p
  cases e1:ra.d with
  | lst xs =>
    rw [e1] at p i1
    cases e2:rb.d with
    | int i =>
      rw [e2] at p i2
      cases i2
      obtain ⟨a, vs, rfl, h1, h2⟩ := i1.rd
      cases q:atI xs i with
      | none => simp only [q] at p; exact p.elim
      | some d =>
        simp only [q] at p
        obtain ⟨v, ev, iv⟩ := h2.atI q
        exact .inl ⟨a, vs, i, v, rfl, rfl, .inl h1, ev, p.val rep iv⟩
    | _ => rw [e2] at p; exact p.elim
  | tup xs =>
    rw [e1] at p i1
    cases e2:rb.d with
    | int i =>
      rw [e2] at p i2
      cases i2
      obtain ⟨a, vs, rfl, h1, h2⟩ := i1
      cases q:atI xs i with
      | none => simp only [q] at p; exact p.elim
      | some d =>
        simp only [q] at p
        obtain ⟨v, ev, iv⟩ := h2.atI q
        exact .inr (.inl ⟨a, vs, i, v, rfl, rfl, SqT.of h1, ev, p.val rep iv⟩)
    | _ => rw [e2] at p; exact p.elim
  | str z =>
    rw [e1] at p i1
    cases e2:rb.d with
    | int i =>
      rw [e2] at p i2
      cases i1; cases i2
      by_cases hz:z.length <= lim
      · simp only [hz, if_true] at p
        cases q:atI z.cps.toList i with
        | none => simp only [q] at p; exact p.elim
        | some c =>
          simp only [q] at p
          exact .inr (.inr ⟨z, i, c, rfl, rfl, lim_le hz, q, p _ M H (Ext.refl _ _) rep rfl⟩)
      · simp only [hz, if_false] at p; exact p.elim
    | _ => rw [e2] at p; exact p.elim
  | _ => rw [e1] at p; exact p.elim
def vIxV (i:Nat) (fb:En -> Res R) : En -> Res R := fun env => match env[i]? with
  | some (some (.own ds fr)) => (fb env).bind fun rb => match rb.d with
    | .int k => match atI ds k with
      | some d => .ok (mkV d fr [])
      | none => .stuck
    | _ => .stuck
  | _ => v2 oIx (vVar i) fb env
theorem pd_ixV {i:Nat} {a b:Expr} {fb:En -> Res R} {pos:Pos} (ha:PE X a (tVar i)) (hb:PD X E b fb) (hs:PlainIx b) : PD X E (.Subscript a b pos) (vIxV i fb) := by
  obtain ⟨r, h1, h2⟩ := od_ix (X := X) (E := E)
  obtain ⟨tb, pb, sb⟩ := hb
  refine ⟨_, pe_ix (ix_list.or h1) ha pb hs, fun g M ρ env σ H Q rep p => ?_⟩
  have gen:PostE X.mg E g M ρ env σ H Q (v2 oIx (vVar i) fb env) -> tOp (fun x y H Q => rIxL X.K x y H Q \/ r x y H Q) (tVar i) tb σ H Q := fun p =>
    Snd.twoE snd_var sb rep p fun ra rb x y M' H' rep' i1 i2 p' => .inr (h2 g M' ρ env σ H' Q ra rb x y rep' i1 i2 p')
  unfold vIxV at p
  cases e1:env[i]? with
  | none => rw [e1] at p; exact gen p
  | some o =>
    cases o with
    | none => rw [e1] at p; exact gen p
    | some sl =>
      cases sl with
      | val d fr => rw [e1] at p; exact gen p
      | tre d => rw [e1] at p; exact gen p
      | mes d => rw [e1] at p; exact gen p
      | own ds fr =>
        rw [e1] at p
        obtain ⟨v, ev, a, vs, rfl, k1, k2, k4⟩ := rep.slot i _ e1
        refine ⟨_, ev, sb.oneE rep p fun rb y M' H' e rep' i2 p' => ?_⟩
        cases q:rb.d with
        | int k =>
          rw [q] at i2
          simp only [q] at p'
          cases i2
          cases q2:atI ds k with
          | none => simp only [q2] at p'; exact p'.elim
          | some d =>
            simp only [q2] at p'
            have k5:IsAll H' (vmsk g M' fr ρ []) ds vs := (IsAll.weak (fun _ z => .inl z) k4:IsAll H (vmsk g M fr ρ []) ds vs).ext e
            obtain ⟨w, ew, iw⟩ := k5.atI q2
            exact .inl ⟨a, vs, k, w, rfl, rfl, .inl (.inl (e.h _ _ k1)), ew, p'.val rep' iw⟩
        | _ => simp only [q] at p'; exact p'.elim
end
end L3
namespace L3
open PySem PySem.Spec PyProof.Rows L2
section
variable {mg:Str -> Option Value} {E:XK} {g:Gd} {M M':Addr -> Prop} {ρ:Pr} {env:En} {σ:St} {H H':Hp}
theorem SndA.one {t:TA} {f:En -> Res (List R)} (h:SndA mg E t f) (rep:Rep g M ρ env σ H) {α:Type} {K:List R -> Res α} {P:(M:Addr -> Prop) -> (H:Hp) -> Res α -> Prop} {Q:List V -> Hp -> Prop}
    (hp:P M H ((f env).bind K)) (hs:∀ M H, P M H .stuck -> False) (hx:∀ M H c, P M H (.exc c) -> XOk mg E g c) (he:∀ M H M' H' r, Ext M H M' H' -> P M H r -> P M' H' r)
    (k:∀ rs vs M' H', Ext M H M' H' -> Rep g M' ρ env σ H' -> IsAll H' (vmsk g M' (rfrs rs) ρ (rals rs)) (rs.map R.d) vs -> P M' H' (K rs) -> Q vs H') : t σ H Q := by
  refine h g M ρ env σ H Q rep ?_
  cases e:f env with
  | stuck => rw [e] at hp; exact hs _ _ hp
  | exc c => rw [e] at hp; exact hx _ _ c hp
  | ok r =>
    rw [e] at hp
    exact fun vs M1 H1 e1 rep1 is => k r vs M1 H1 e1 rep1 is (he _ _ _ _ _ e1 hp)
theorem SndA.oneE {t:TA} {f:En -> Res (List R)} (h:SndA mg E t f) (rep:Rep g M ρ env σ H) {K:List R -> Res R} {Q':VK} {Q:List V -> Hp -> Prop} (hp:PostE mg E g M ρ env σ H Q' ((f env).bind K))
    (k:∀ rs vs M' H', Ext M H M' H' -> Rep g M' ρ env σ H' -> IsAll H' (vmsk g M' (rfrs rs) ρ (rals rs)) (rs.map R.d) vs -> PostE mg E g M' ρ env σ H' Q' (K rs) -> Q vs H') : t σ H Q :=
  h.one rep (P := fun M H r => PostE mg E g M ρ env σ H Q' r) hp (fun _ _ z => z) (fun _ _ _ z => z) (fun _ _ _ _ _ e p => p.ext e) k
theorem SndA.oneA {t:TA} {f:En -> Res (List R)} (h:SndA mg E t f) (rep:Rep g M ρ env σ H) {K:List R -> Res (List R)} {Q':List V -> Hp -> Prop} {Q:List V -> Hp -> Prop} (hp:PostA mg E g M ρ env σ H Q' ((f env).bind K))
    (k:∀ rs vs M' H', Ext M H M' H' -> Rep g M' ρ env σ H' -> IsAll H' (vmsk g M' (rfrs rs) ρ (rals rs)) (rs.map R.d) vs -> PostA mg E g M' ρ env σ H' Q' (K rs) -> Q vs H') : t σ H Q :=
  h.one rep (P := fun M H r => PostA mg E g M ρ env σ H Q' r) hp (fun _ _ z => z) (fun _ _ _ z => z) (fun _ _ _ _ _ e p => p.ext e) k
theorem IsAll.args {r:R} {rs:List R} {v:V} {vs:List V} (h1:Is H (vmsk g M r.fr ρ r.al) r.d v) (h2:IsAll H (vmsk g M (rfrs rs) ρ (rals rs)) (rs.map R.d) vs) :
    IsAll H (vmsk g M (rfrs (r :: rs)) ρ (rals (r :: rs))) ((r :: rs).map R.d) (v :: vs) := by
  refine ⟨v, vs, rfl, h1.weak fun a z => ?_, h2.weak fun a z => ?_⟩
  · exact (z.l:vmsk g M (r.fr && rfrs rs) ρ (r.al ++ rals rs) a)
  · exact (z.r:vmsk g M (r.fr && rfrs rs) ρ (r.al ++ rals rs) a)
end
section
variable {X:Cx} {E:XK}
def aNil:En -> Res (List R) := fun _ => .ok []
def aCons (f:En -> Res R) (fs:En -> Res (List R)) : En -> Res (List R) := fun env => (f env).bind fun r => (fs env).bind fun rs => .ok (r :: rs)
theorem pad_nil:PAD X E [] aNil := ⟨_, pa_nil, fun g M ρ env σ H Q rep p => p [] M H (Ext.refl _ _) rep rfl⟩
theorem pad_cons {e:Expr} {es:List Expr} {f:En -> Res R} {fs:En -> Res (List R)} (he:PD X E e f) (hr:PAD X E es fs) (hs:starEach (e :: es) X.env = (false, eval e X.env) :: starEach es X.env := by rfl) : PAD X E (e :: es) (aCons f fs) := by
  obtain ⟨t, p1, s1⟩ := he
  obtain ⟨u, p2, s2⟩ := hr
  refine ⟨_, pa_cons p1 p2 hs, fun g M ρ env σ H Q rep p => s1.oneA rep p fun r v M1 H1 e1 rep1 i1 q1 => s2.oneA rep1 q1 fun rs vs M2 H2 e2 rep2 i2 q2 => ?_⟩
  exact q2 (v :: vs) M2 H2 (Ext.refl _ _) rep2 (IsAll.args (i1.ext e2) i2)
def vTup (fs:En -> Res (List R)) : En -> Res R := fun env => (fs env).bind fun rs => if rs.length <= lim then .ok (mkV (.tup (rs.map R.d)) (rfrs rs) (rals rs)) else .stuck
theorem pd_tup {es:List Expr} {fs:En -> Res (List R)} {k:Nat} {pos:Pos} (h:PAD X E es fs) : PD X E (.Tuple es k pos) (vTup fs) := by
  obtain ⟨t, p1, s1⟩ := h
  refine ⟨_, pe_tup p1, fun g M ρ env σ H Q rep p => s1.oneE rep p fun rs vs M1 H1 e1 rep1 i1 q1 => ?_⟩
  by_cases hl:rs.length <= lim
  · rw [if_pos hl] at q1
    exact ⟨by rw [i1.length, List.length_map]; exact lim_le hl, fun a ha => q1.tup rep1 ha i1⟩
  · rw [if_neg hl] at q1; exact q1.elim
def vLst (fs:En -> Res (List R)) : En -> Res R := fun env => (fs env).bind fun rs => if rs.length <= lim then .ok (mkL (rs.map R.d) (rfrs rs) (rals rs)) else .stuck
theorem pd_lst {es:List Expr} {fs:En -> Res (List R)} {pos:Pos} (h:PAD X E es fs) : PD X E (.List es pos) (vLst fs) := by
  obtain ⟨t, p1, s1⟩ := h
  refine ⟨_, pe_lst p1, fun g M ρ env σ H Q rep p => s1.oneE rep p fun rs vs M1 H1 e1 rep1 i1 q1 => ?_⟩
  by_cases hl:rs.length <= lim
  · rw [if_pos hl] at q1
    exact ⟨by rw [i1.length, List.length_map]; exact lim_le hl, fun a ha => q1.lst rep1 ha i1⟩
  · rw [if_neg hl] at q1; exact q1.elim
end
def nl (H0 H':Hp) (a:Addr) : Prop := H0 a = none /\ Mu H' a
def RetOk (g:Gd) (H':Hp) (v:V) : R -> Prop
  | .val d fr _ => Is H' (fun a => nl g.H₀ H' a \/ (fr = false /\ g.Ma a)) d v
  | .new ds fr => ∃ a vs, v = .ref a /\ H' a = some (.lst vs) /\ g.H₀ a = none /\ IsAll H' (fun b => b ≠ a /\ (nl g.H₀ H' b \/ (fr = false /\ g.Ma b))) ds vs
  | .fre d => Is H' (nl g.H₀ H') d v
def PostF (mg:Str -> Option Value) (E:XK) (g:Gd) (Q:VK) : Res R -> Prop
  | .stuck => False
  | .exc c => XOk mg E g c
  | .ok r => ∀ v H', Same g.H₀ H' -> RetOk g H' v r -> Q v H'
def spD (mg:Str -> Option Value) (n:Nat) (F:List D -> Res R) : Sp := fun vs H Q E => vs.length = n /\ ∃ ds Ma, IsAll H Ma ds vs /\ PostF mg E (mkG H Ma) Q (F ds)
def mkC (d:D) (fr:Bool) (rs:List R) : R := if d.flat then .val d true [] else if fr then .fre d else .val d (rfrs rs) (rals rs)
def callR (rs:List R) : R -> R
  | .val d fr _ => mkC d fr rs
  | .new ds fr => if D.flats ds then .new ds true else if fr then .fre (.lst ds) else if (rals rs).isEmpty then .new ds (rfrs rs) else .val (.lst ds) (rfrs rs) (rals rs)
  | .fre d => mkC d true rs
section
variable {g:Gd} {M:Addr -> Prop} {ρ:Pr} {env:En} {σ:St} {H H':Hp}
theorem Rep.came (rep:Rep g M ρ env σ H) (s:Same H H') (p:Addr -> Prop) : Rep g (fun a => M a \/ (nl H H' a /\ p a)) ρ env σ H' :=
  (rep.grow s).moreT fun a z => ⟨z.1.2, rep.same.free z.1.1, (rep.free z.1.1).2.2⟩
theorem mkC_ok {d:D} {fr:Bool} {v:V} (rs:List R) (rep:Rep g M ρ env σ H) (s:Same H H') (h:Is H' (fun a => nl H H' a \/ (fr = false /\ vmsk g M (rfrs rs) ρ (rals rs) a)) d v) :
    ∃ M', Ext M H M' H' /\ Rep g M' ρ env σ H' /\ ROk g M' ρ H H' v (mkC d fr rs) := by
  unfold mkC
  by_cases hf:d.flat = true
  · rw [if_pos hf]
    exact ⟨M, ⟨fun _ z => z, s, fun _ z => .inl z⟩, rep.grow s, Is.flat hf h⟩
  · rw [if_neg hf]
    cases fr with
    | true =>
      refine ⟨M, ⟨fun _ z => z, s, fun _ z => .inl z⟩, rep.grow s, nl H H', fun a z => ?_, ?_⟩
      · exact ⟨fun w => rep.froz a w z.1, z.1, z.2, (rep.free z.1).2.2⟩
      · exact Is.weak (fun a z => z.elim id fun w => by cases w.1) h
    | false =>
      refine ⟨_, ⟨fun _ => .inl, s, fun _ z => z.imp id (·.1.1)⟩, rep.came s fun _ => True, ?_⟩
      refine Is.weak (fun a z => ?_) h
      rcases z with z | ⟨_, z⟩
      · exact .inl ⟨.inr ⟨z, True.intro⟩, fun _ => rep.same.free z.1⟩
      · exact z.mono fun _ => .inl
theorem RetOk.caller {v:V} {r:R} (rs:List R) (rep:Rep g M ρ env σ H) (s:Same H H') (h:RetOk (mkG H (vmsk g M (rfrs rs) ρ (rals rs))) H' v r) :
    ∃ M', Ext M H M' H' /\ Rep g M' ρ env σ H' /\ ROk g M' ρ H H' v (callR rs r) := by
  cases r with
  | val d fr al => exact mkC_ok rs rep s h
  | fre d => exact mkC_ok rs rep s (Is.weak (fun a z => .inl z) h)
  | new ds fr =>
    obtain ⟨a, vs, rfl, h1, h2, h3⟩ := h
    have h2:H a = none := h2
    obtain ⟨f0, f1, f2⟩ := rep.free h2
    have R1:Rep g (fun b => M b \/ (nl H H' b /\ b ≠ a)) ρ env σ H' := rep.came s fun b => b ≠ a
    have nm:¬ (M a \/ (nl H H' a /\ a ≠ a)) := fun z => z.elim f1 fun z => z.2 rfl
    have X1:Ext M H (fun b => M b \/ (nl H H' b /\ b ≠ a)) H' := ⟨fun _ => .inl, s, fun _ z => z.imp id (·.1.1)⟩
    unfold callR
    dsimp only
    by_cases hfl:D.flats ds = true
    · rw [if_pos hfl]
      exact ⟨_, X1, R1, a, vs, rfl, h1, nm, h2, f2, IsAll.flat hfl h3⟩
    · rw [if_neg hfl]
      cases fr with
      | true =>
        refine ⟨M, ⟨fun _ z => z, s, fun _ z => .inl z⟩, rep.grow s, nl H H', fun a z => ?_, ?_⟩
        · exact ⟨fun w => rep.froz a w z.1, z.1, z.2, (rep.free z.1).2.2⟩
        · exact ⟨a, vs, rfl, .inl ⟨h1, h2, Mu.lst h1⟩, IsAll.weak (fun b z => z.2.elim id fun w => by cases w.1) h3⟩
      | false =>
        simp only [Bool.false_eq_true, if_false]
        by_cases hc:(rals rs).isEmpty = true
        · rw [if_pos hc]
          refine ⟨_, X1, R1, a, vs, rfl, h1, nm, h2, f2, ?_⟩
          refine IsAll.weak (fun b z => ?_) h3
          rcases z with ⟨nb, z | ⟨hf, z⟩⟩
          · exact ⟨.inr ⟨z, nb⟩, fun _ => rep.same.free z.1⟩
          · have hl:rals rs = [] := by simpa using hc
            have z:vmsk g M (rfrs rs) ρ (rals rs) b := z
            rw [hl] at z
            exact ⟨.inl z.nil.1, z.nil.2⟩
        · rw [if_neg hc]
          refine ⟨fun b => (M b \/ (nl H H' b /\ b ≠ a)) \/ b = a, ⟨fun _ z => .inl (.inl z), s, fun b z => z.elim (X1.n b) fun e => .inr (e ▸ h2)⟩, R1.more h1 f0 f2, a, vs, rfl, .inl ⟨h1, .inl ⟨.inr rfl, fun _ => f0⟩⟩, ?_⟩
          refine IsAll.weak (fun b z => ?_) h3
          rcases z with ⟨nb, z | ⟨hf, z⟩⟩
          · exact .inl ⟨.inl (.inr ⟨z, nb⟩), fun _ => rep.same.free z.1⟩
          · exact vmsk.mono (fun _ w => .inl (.inl w)) z
end
section
variable {X:Cx} {E:XK} {CX:CXT} {k:Nat} {f:Addr} {fd:FuncData} {ps:List Str} {F:List D -> Res R} {x:Str} {p pos:Pos} {e:Expr} {es:List Expr} {fs:En -> Res (List R)}
def vCall (F:List D -> Res R) (fs:En -> Res (List R)) : En -> Res R := fun env => (fs env).bind fun rs => (F (rs.map R.d)).bind fun r => .ok (callR rs r)
theorem snd_call {t:TA} (hl:∀ env rs, fs env = .ok rs -> rs.length = ps.length) (s:SndA X.mg E t fs) : Snd X.mg E (tCall (spD X.mg ps.length F) [] E t) (vCall F fs) := by
  intro g M ρ env σ H Q rep p
  refine s g M ρ env σ H _ rep ?_
  unfold vCall at p
  cases e:fs env with
  | stuck => rw [e] at p; exact p
  | exc c => rw [e] at p; exact p
  | ok rs =>
    rw [e] at p
    intro vs M1 H1 e1 rep1 is
    have p1:PostE X.mg E g M1 ρ env σ H1 Q ((F (rs.map R.d)).bind fun r => .ok (callR rs r)) := PostE.ext e1 p
    rw [List.append_nil]
    refine ⟨by rw [is.length, List.length_map]; exact hl env rs e, rs.map R.d, _, is, ?_⟩
    cases q:F (rs.map R.d) with
    | stuck => rw [q] at p1; exact p1
    | exc c => rw [q] at p1; exact fun cls dx H' h1 h2 => p1 cls dx H' h1 (rep1.same.trans h2)
    | ok r =>
      rw [q] at p1
      intro v H2 s2 ro
      obtain ⟨M3, e3, rep3, ro3⟩ := RetOk.caller rs rep1 s2 ro
      exact p1 v M3 H2 e3 rep3 ro3
theorem pd_call (G:FnOk X.prog X.w X.K X.mg X.base CX k f fd ps (spD X.mg ps.length F)) (hr:Room k X.A) (hg:Gl X x) (hm:X.mg x = some (.ref f)) (hk:PySem.W.keepIn X.K (.ref f) = true) (hb:Binds X.K fd ps []) (hx:Passes CX X E)
    (ha : PAD X E (e :: es) fs) (hl : ∀ env rs, fs env = .ok rs -> rs.length = ps.length) (hdb : (x == ("__debug__" : Str)) = false := by decide) (he : starEach (e :: es) X.env = (false, eval e X.env) :: starEach es X.env := by rfl) (hpl : (backTo pos (starEach es X.env)).any (·.1) = false := by rfl) :
    PD X E (.Call (.Name x p) (e :: es) [] pos) (vCall F fs) := by
  obtain ⟨t, p1, s1⟩ := ha
  exact ⟨_, pe_call G hr hg hm hk hb .nil hx p1 hdb he hpl, snd_call hl s1⟩
theorem aNil_len:∀ env rs, aNil env = .ok rs -> rs.length = 0 := fun _ _ e => by cases e; rfl
theorem aCons_len {f:En -> Res R} {fs:En -> Res (List R)} {n:Nat} (h:∀ env rs, fs env = .ok rs -> rs.length = n) : ∀ env rs, aCons f fs env = .ok rs -> rs.length = n + 1 := fun env rs e => by
  unfold aCons at e
  cases q:f env with
  | stuck => rw [q] at e; cases e
  | exc c => rw [q] at e; cases e
  | ok r =>
    rw [q] at e
    cases q2:fs env with
    | stuck => simp only [Res.bind_ok, q2] at e; cases e
    | exc c => simp only [Res.bind_ok, q2] at e; cases e
    | ok rs' =>
      simp only [Res.bind_ok, q2] at e
      cases e
      simp [h env rs' q2]
def CallD (X:Cx) (E:XK) (f:Value) (k:List R -> Res R) : Prop := ∃ r, CallR X f r /\
  ∀ g M ρ env σ H Q rs vs, Rep g M ρ env σ H -> IsAll H (vmsk g M (rfrs rs) ρ (rals rs)) (rs.map R.d) vs -> PostE X.mg E g M ρ env σ H Q (k rs) -> r vs H Q
def vB1 (k:List R -> Res R) (fs:En -> Res (List R)) : En -> Res R := fun env => (fs env).bind k
theorem pd_callB {id : String} {k : List R -> Res R} (hc : CallD X E (.builtin id) k) (hg : Gl X x) (hm : X.mg x = none) (hv : bootBuiltins x = some (.builtin id)) (ha : PAD X E (e :: es) fs) (hn : x ≠ "__name__" := by decide) (hdb : (x == ("__debug__" : Str)) = false := by decide)
    (he:starEach (e :: es) X.env = (false, eval e X.env) :: starEach es X.env := by rfl) (hpl:(backTo pos (starEach es X.env)).any (·.1) = false := by rfl) : PD X E (.Call (.Name x p) (e :: es) [] pos) (vB1 k fs) := by
  obtain ⟨r, h1, h2⟩ := hc
  obtain ⟨t, p1, s1⟩ := ha
  exact ⟨_, pe_callB h1 hg hm hv p1 hn hdb he hpl, fun g M ρ env σ H Q rep p => s1.oneE rep p fun rs vs M1 H1 e1 rep1 i1 q1 => h2 g M1 ρ env σ H1 Q rs vs rep1 i1 q1⟩
theorem pd_callTy {T : String} {k : List R -> Res R} (hc : CallD X E (.type T) k) (hg : Gl X x) (hm : X.mg x = none) (hv : bootBuiltins x = some (.type T)) (ha : PAD X E (e :: es) fs) (hn : x ≠ "__name__" := by decide) (hdb : (x == ("__debug__" : Str)) = false := by decide)
    (he:starEach (e :: es) X.env = (false, eval e X.env) :: starEach es X.env := by rfl) (hpl:(backTo pos (starEach es X.env)).any (·.1) = false := by rfl) : PD X E (.Call (.Name x p) (e :: es) [] pos) (vB1 k fs) := by
  obtain ⟨r, h1, h2⟩ := hc
  obtain ⟨t, p1, s1⟩ := ha
  exact ⟨_, pe_callTy h1 hg hm hv p1 hn hdb he hpl, fun g M ρ env σ H Q rep p => s1.oneE rep p fun rs vs M1 H1 e1 rep1 i1 q1 => h2 g M1 ρ env σ H1 Q rs vs rep1 i1 q1⟩
def kLen:List R -> Res R
  | [r] => match r.d with
    | .lst ds => .ok (.val (.int ds.length) true [])
    | .tup ds => .ok (.val (.int ds.length) true [])
    | .str z => if z.length <= lim then .ok (.val (.int z.length) true []) else .stuck
    | _ => .stuck
  | _ => .stuck
theorem cd_len : CallD X E (.builtin "len") kLen := by
  refine ⟨_, call_len_seq.or call_len_str, fun g M ρ env σ H Q rs vs rep i p => ?_⟩
  match rs, i, p with
  | [r], i, p =>
    obtain ⟨v, w, rfl, i1, i2⟩ := i
    cases i2
    have i1:Is H (vmsk g M (rfrs [r]) ρ (rals [r])) r.d v := i1
    unfold kLen at p
    dsimp only at p
    cases q:r.d with
    | lst ds =>
      rw [q] at p i1
      obtain ⟨a, ws, rfl, h1, h2⟩ := i1.rd
      exact .inl ⟨a, ws, rfl, .inl (.inl h1), by rw [h2.length]; exact p _ M H (Ext.refl _ _) rep rfl⟩
    | tup ds =>
      rw [q] at p i1
      obtain ⟨a, ws, rfl, h1, h2⟩ := i1
      exact .inl ⟨a, ws, rfl, .inr (SqT.of h1), by rw [h2.length]; exact p _ M H (Ext.refl _ _) rep rfl⟩
    | str z =>
      rw [q] at p i1
      cases i1
      by_cases hz:z.length <= lim
      · simp only [hz, if_true] at p
        exact .inr ⟨z, rfl, lim_le hz, p _ M H (Ext.refl _ _) rep rfl⟩
      · simp only [hz, if_false] at p; exact p.elim
    | _ => rw [q] at p; exact p.elim
  | [], _, p => exact p.elim
  | _ :: _ :: _, _, p => exact p.elim
def kList:List R -> Res R
  | [r] => match r.d with
    | .lst ds => .ok (mkL ds r.fr r.al)
    | .tup ds => .ok (mkL ds r.fr r.al)
    | _ => .stuck
  | _ => .stuck
theorem one_msk {g:Gd} {M:Addr -> Prop} {ρ:Pr} {r:R} {a:Addr} (h:vmsk g M (rfrs [r]) ρ (rals [r]) a) : vmsk g M r.fr ρ r.al a := by
  have e1:rfrs [r] = r.fr := by simp [rfrs]
  have e2:rals [r] = r.al := by simp [rals]
  rw [e1, e2] at h
  exact h
theorem cd_list : CallD X E (.type "list") kList := by
  refine ⟨_, call_list_of, fun g M ρ env σ H Q rs vs rep i p => ?_⟩
  match rs, i, p with
  | [r], i, p =>
    obtain ⟨v, w, rfl, i1, i2⟩ := i
    cases i2
    have i1:Is H (vmsk g M (rfrs [r]) ρ (rals [r])) r.d v := i1
    replace i1 := i1.weak fun _ z => one_msk z
    unfold kList at p
    dsimp only at p
    cases q:r.d with
    | lst ds =>
      rw [q] at p i1
      obtain ⟨a, ws, rfl, h1, h2⟩ := i1.rd
      exact ⟨a, ws, rfl, .inl (.inl h1), fun l hl => p.lst rep hl h2⟩
    | tup ds =>
      rw [q] at p i1
      obtain ⟨a, ws, rfl, h1, h2⟩ := i1
      exact ⟨a, ws, rfl, .inr (SqT.of h1), fun l hl => p.lst rep hl h2⟩
    | _ => rw [q] at p; exact p.elim
  | [], _, p => exact p.elim
  | _ :: _ :: _, _, p => exact p.elim
end
end L3
namespace L3
open PySem PySem.Spec PyProof.Rows L2
inductive Fl where
  | nx (env:En) | rt (r:R) | bk (env:En) | ct (env:En)
structure Frz (M:Addr -> Prop) (H:Hp) (M':Addr -> Prop) (H':Hp) : Prop where
  m:∀ a, M a -> M' a
  h:∀ a o, H a = some o -> (M a \/ fixd o) -> H' a = some o
theorem Frz.refl (M:Addr -> Prop) (H:Hp) : Frz M H M H := ⟨fun _ z => z, fun _ _ e _ => e⟩
theorem Frz.trans {M M1 M2:Addr -> Prop} {H H1 H2:Hp} (a:Frz M H M1 H1) (b:Frz M1 H1 M2 H2) : Frz M H M2 H2 := ⟨fun x z => b.m x (a.m x z), fun x o e z => b.h x o (a.h x o e z) (z.imp (a.m x) id)⟩
theorem Ext.frz {M M':Addr -> Prop} {H H':Hp} (e:Ext M H M' H') : Frz M H M' H' := ⟨e.m, fun a o q _ => e.h a o q⟩
section
variable (mg:Str -> Option Value) (E:XK) (g:Gd) (M:Addr -> Prop) (H:Hp) (D:Ends)
def PostS:Res Fl -> Prop
  | .stuck => False
  | .exc c => XOk mg E g c
  | .ok (.nx env) => ∀ σ M' ρ H', Frz M H M' H' -> Rep g M' ρ env σ H' -> D.nx σ H'
  | .ok (.bk env) => ∀ σ M' ρ H', Frz M H M' H' -> Rep g M' ρ env σ H' -> D.bk σ H'
  | .ok (.ct env) => ∀ σ M' ρ H', Frz M H M' H' -> Rep g M' ρ env σ H' -> D.ct σ H'
  | .ok (.rt r) => ∀ v H', Same g.H₀ H' -> ((∀ a, ¬ g.Z a) -> RetOk g H' v r) -> D.rt v H'
end
def SndS (mg:Str -> Option Value) (E:XK) (t:TS) (f:En -> Res Fl) : Prop := ∀ g M ρ env σ H D, Rep g M ρ env σ H -> PostS mg E g M H D (f env) -> t D σ H
def PSD (X:Cx) (E:XK) (st:Stmt) (f:En -> Res Fl) : Prop := ∃ t, PS X st t /\ SndS X.mg E t f
def PSsD (X:Cx) (E:XK) (st:List Stmt) (f:En -> Res Fl) : Prop := ∃ t, PSs X st t /\ SndS X.mg E t f
section
variable {mg:Str -> Option Value} {E:XK} {g:Gd} {M M':Addr -> Prop} {ρ:Pr} {env:En} {σ:St} {H H':Hp} {D:Ends}
theorem PostS.frz {r:Res Fl} (e:Frz M H M' H') (p:PostS mg E g M H D r) : PostS mg E g M' H' D r := by
  cases r with
  | stuck => exact p
  | exc c => exact p
  | ok r => cases r with
    | nx env => exact fun σ M2 ρ2 H2 e2 => p σ M2 ρ2 H2 (e.trans e2)
    | bk env => exact fun σ M2 ρ2 H2 e2 => p σ M2 ρ2 H2 (e.trans e2)
    | ct env => exact fun σ M2 ρ2 H2 e2 => p σ M2 ρ2 H2 (e.trans e2)
    | rt r => exact p
theorem Snd.oneS {t:TE} {f:En -> Res R} (h:Snd mg E t f) (rep:Rep g M ρ env σ H) {K:R -> Res Fl} {Q:VK} (hp:PostS mg E g M H D ((f env).bind K))
    (k:∀ r v M' H', Ext M H M' H' -> Rep g M' ρ env σ H' -> ROk g M' ρ H H' v r -> PostS mg E g M' H' D (K r) -> Q v H') : t σ H Q := by
  refine h g M ρ env σ H Q rep ?_
  cases e:f env with
  | stuck => rw [e] at hp; exact hp
  | exc c => rw [e] at hp; exact hp
  | ok r => rw [e] at hp; exact fun v M1 H1 e1 rep1 ro => k r v M1 H1 e1 rep1 ro (PostS.frz e1.frz hp)
theorem SndT.oneS {t:TT} {f:En -> Res Bool} (h:SndT mg E t f) (rep:Rep g M ρ env σ H) {K:Bool -> Res Fl} {Q:Bool -> Hp -> Prop} (hp:PostS mg E g M H D ((f env).bind K))
    (k:∀ b M' H', Frz M H M' H' -> Rep g M' ρ env σ H' -> PostS mg E g M' H' D (K b) -> Q b H') : t σ H Q := by
  refine h g M ρ env σ H Q rep ?_
  cases e:f env with
  | stuck => rw [e] at hp; exact hp
  | exc c => rw [e] at hp; exact hp
  | ok r => rw [e] at hp; exact fun M1 H1 e1 rep1 => k r M1 H1 e1.frz rep1 (PostS.frz e1.frz hp)
def clr (ρ:Pr) (i:Nat) : Pr := fun j a => if j = i then False else ρ j a
theorem clr_ne {j i:Nat} (h:j ≠ i) : clr ρ i j = ρ j := by funext a; unfold clr; rw [if_neg h]
theorem clr_of {j i:Nat} {a:Addr} (h:clr ρ i j a) : j ≠ i /\ ρ j a := by
  unfold clr at h
  by_cases e:j = i
  · rw [if_pos e] at h; exact h.elim
  · rw [if_neg e] at h; exact ⟨e, h⟩
def setP (ρ:Pr) (i:Nat) (T:Addr -> Prop) : Pr := fun j a => if j = i then T a else ρ j a
theorem setP_ne {j i:Nat} {T:Addr -> Prop} (h:j ≠ i) : setP ρ i T j = ρ j := by funext a; unfold setP; rw [if_neg h]
theorem setP_eq {i:Nat} {T:Addr -> Prop} : setP ρ i T i = T := by funext a; unfold setP; rw [if_pos rfl]
def frz1 (env:En) (i:Nat) : En := match env[i]? with
  | some (some (.own ds fr)) => env.set i (some (.val (.lst ds) fr))
  | some (some (.tre d)) => env.set i (some (.val d true))
  | some (some (.mes _)) => env.set i none
  | _ => env
def frz (env:En) (al:List Nat) : En := al.foldl frz1 env
theorem frz1_ne {i j:Nat} (h:j ≠ i) : (frz1 env i)[j]? = env[j]? := by
  unfold frz1
  split <;> first | rfl | exact List.getElem?_set_ne (Ne.symm h)
theorem frz1_len (i:Nat) : (frz1 env i).length = env.length := by
  unfold frz1
  split <;> simp
theorem frz_ne:∀ (al:List Nat) {env:En} {j:Nat}, ¬ j ∈ al -> (frz env al)[j]? = env[j]?
  | [], _, _, _ => rfl
  | i :: al, env, j, h => by
    show (frz (frz1 env i) al)[j]? = _
    rw [frz_ne al fun z => h (by simp [z]), frz1_ne fun z => h (by simp [z])]
theorem frz_len:∀ (al:List Nat) (env:En), (frz env al).length = env.length
  | [], _ => rfl
  | i :: al, env => by
    show (frz (frz1 env i) al).length = _
    rw [frz_len al, frz1_len]
theorem Rep.frz1 (rep:Rep g M ρ env σ H) (i:Nat) : Rep g (fun a => M a \/ ρ i a) (clr ρ i) (frz1 env i) σ H where
  same := rep.same
  froz := fun b hb => hb.elim (rep.froz b) fun z => (rep.priv i b z).2.2.some
  inn := fun b hb => hb.elim (rep.inn b) fun z => .inl (rep.priv i b z).2.1
  fl := fun b hb h0 => hb.elim (fun z => rep.fl b z h0) fun z => .inl (rep.priv i b z).2.2
  slot := fun j sl ej => by
    by_cases hj:j = i
    · subst hj
      cases e:env[j]? with
      | none =>
        have:L3.frz1 env j = env := by unfold L3.frz1; rw [e]
        rw [this, e] at ej; cases ej
      | some o =>
        have hi:j < env.length := (List.getElem?_eq_some_iff.mp e).1
        cases o with
        | none =>
          have:L3.frz1 env j = env := by unfold L3.frz1; rw [e]
          rw [this, e] at ej; cases ej
        | some s0 =>
          obtain ⟨v, ev, k⟩ := rep.slot j s0 e
          cases s0 with
          | val d fr =>
            have:L3.frz1 env j = env := by unfold L3.frz1; rw [e]
            rw [this, e] at ej; cases ej
            exact ⟨v, ev, Is.weak (fun b z => msk.mono (fun _ => .inl) z) k⟩
          | own ds fr =>
            have:L3.frz1 env j = env.set j (some (.val (.lst ds) fr)) := by unfold L3.frz1; rw [e]
            rw [this, List.getElem?_set_self hi] at ej; cases ej
            obtain ⟨a, vs, rfl, h1, h2, h4⟩ := k
            have ha := (h2 a).mpr rfl
            exact ⟨_, ev, a, vs, rfl, .inl ⟨h1, .inr ha, fun _ => (rep.priv j a ha).2.1⟩, IsAll.weak (fun b z => msk.mono (fun _ => .inl) z) h4⟩
          | tre d =>
            have:L3.frz1 env j = env.set j (some (.val d true)) := by unfold L3.frz1; rw [e]
            rw [this, List.getElem?_set_self hi] at ej; cases ej
            exact ⟨v, ev, Is.weak (fun b z => ⟨.inr z, fun _ => (rep.priv j b z).2.1⟩) k⟩
          | mes d =>
            have:L3.frz1 env j = env.set j none := by unfold L3.frz1; rw [e]
            rw [this, List.getElem?_set_self hi] at ej; cases ej
    · rw [frz1_ne hj] at ej
      obtain ⟨v, ev, k⟩ := rep.slot j sl ej
      exact ⟨v, ev, by rw [clr_ne hj]; exact SlOk.weak (fun _ => .inl) k⟩
  priv := fun j a h => by
    obtain ⟨hj, h⟩ := clr_of h
    exact ⟨fun z => z.elim (rep.priv j a h).1 fun z => hj (rep.apart j i a h z), (rep.priv j a h).2⟩
  apart := fun j k a h1 h2 => rep.apart j k a (clr_of h1).2 (clr_of h2).2
  ow := fun j a h => by
    obtain ⟨hj, h⟩ := clr_of h
    have := rep.ow j a h
    unfold isOwn at this ⊢
    rw [frz1_ne hj]; exact this
  len := by rw [frz1_len]; exact rep.len
  zz := rep.zz
theorem Rep.frz:∀ (al:List Nat) {env:En} {M:Addr -> Prop} {ρ:Pr}, Rep g M ρ env σ H -> ∃ (M':Addr -> Prop) (ρ':Pr), (∀ a, M a -> M' a) /\ Rep g M' ρ' (L3.frz env al) σ H /\ (∀ i, i ∈ al -> ∀ a, ρ i a -> M' a) /\ (∀ j a, ρ' j a -> ρ j a) /\ (∀ j, ¬ j ∈ al -> ρ' j = ρ j)
  | [], env, M, ρ, rep => ⟨M, ρ, fun _ z => z, rep, fun _ z => absurd z (by simp), fun _ _ o => o, fun _ _ => rfl⟩
  | i :: al, env, M, ρ, rep => by
    obtain ⟨M2, ρ2, e2, rep2, o2, k2, l2⟩ := Rep.frz al (rep.frz1 i)
    refine ⟨M2, ρ2, fun a z => e2 a (.inl z), rep2, fun j hj a o => ?_, fun j a o => (clr_of (k2 j a o)).2, fun j hj => ?_⟩
    · by_cases hji:j = i
      · exact e2 a (.inr (hji ▸ o))
      · exact o2 j ((List.mem_cons.mp hj).resolve_left hji) a (by rw [clr_ne hji]; exact o)
    · rw [l2 j fun z => hj (by simp [z]), clr_ne fun z => hj (by simp [z])]
theorem Is.frozen {fr:Bool} {al:List Nat} {d:L3.D} {v:V} (rep:Rep g M ρ env σ H) (e:∀ a, M a -> M' a) (hm:∀ i, i ∈ al -> ∀ a, ρ i a -> M' a) (h:Is H (vmsk g M fr ρ al) d v) : Is H (msk g M' fr) d v :=
  h.weak fun a z => z.elim (msk.mono e) fun ⟨i, hi, o⟩ => ⟨hm i hi a o, fun _ => (rep.priv i a o).2.1⟩
theorem Rep.put {i:Nat} {sl:Sl} {v:V} {T:Addr -> Prop} (rep:Rep g M ρ env σ H) (hi:i < env.length) (ok:SlOk g M T H v sl) (ht:∀ a, T a -> ¬ M a /\ g.H₀ a = none /\ Mu H a /\ ∀ j, j ≠ i -> ¬ ρ j a) (hO:∀ a, T a -> sl.isO = true := by intro _ _; rfl) :
    Rep g M (setP ρ i T) (env.set i (some sl)) (σ.set i (some v)) H := by
  have hi2:i < σ.length := by rw [<- rep.len]; exact hi
  refine ⟨rep.same, rep.froz, rep.inn, rep.fl, fun j s ej => ?_, fun j a h => ?_, fun j k a h1 h2 => ?_, fun j a h => ?_, by rw [List.length_set, List.length_set]; exact rep.len, rep.zz⟩
  · by_cases hj : j = i
    · subst hj
      rw [List.getElem?_set_self hi] at ej
      cases ej
      exact ⟨v, List.getElem?_set_self hi2, by rw [setP_eq]; exact ok⟩
    · rw [List.getElem?_set_ne (Ne.symm hj)] at ej
      obtain ⟨w, ew, k⟩ := rep.slot j s ej
      exact ⟨w, by rw [List.getElem?_set_ne (Ne.symm hj)]; exact ew, by rw [setP_ne hj]; exact k⟩
  · by_cases hj : j = i
    · subst hj; rw [setP_eq] at h
      exact ⟨(ht a h).1, (ht a h).2.1, (ht a h).2.2.1⟩
    · rw [setP_ne hj] at h; exact rep.priv j a h
  · by_cases hj : j = i
    · by_cases hk : k = i
      · rw [hj, hk]
      · subst hj; rw [setP_eq] at h1; rw [setP_ne hk] at h2
        exact absurd h2 ((ht a h1).2.2.2 k hk)
    · by_cases hk : k = i
      · subst hk; rw [setP_eq] at h2; rw [setP_ne hj] at h1
        exact absurd h1 ((ht a h2).2.2.2 j hj)
      · rw [setP_ne hj] at h1; rw [setP_ne hk] at h2
        exact rep.apart j k a h1 h2
  · unfold isOwn
    by_cases hj:j = i
    · subst hj; rw [setP_eq] at h
      rw [List.getElem?_set_self hi]
      exact hO a h
    · rw [setP_ne hj] at h
      rw [List.getElem?_set_ne (Ne.symm hj)]
      exact rep.ow j a h
def put (env:En) (i:Nat) : R -> En
  | .new ds fr => env.set i (some (.own ds fr))
  | .val d fr al => (frz env al).set i (some (.val d fr))
  | .fre d => env.set i (some (.tre d))
theorem Rep.store {i:Nat} {r:R} {v:V} {H0:Hp} (rep:Rep g M ρ env σ H) (h0:Same g.H₀ H0) (hi:i < env.length) (h:ROk g M ρ H0 H v r) : ∃ M' ρ', Frz M H M' H /\ Rep g M' ρ' (L3.put env i r) (σ.set i (some v)) H := by
  cases r with
  | new ds fr =>
    obtain ⟨a, vs, rfl, h1, h2, h3, h4, h5⟩ := h
    exact ⟨M, _, Frz.refl _ _, rep.put (sl := .own ds fr) (T := fun b => b = a) hi ⟨a, vs, rfl, h1, fun _ => Iff.rfl, h5⟩ fun b e => by subst e; exact ⟨h2, h0.free h3, Mu.lst h1, fun j _ => h4 j⟩⟩
  | val d fr al =>
    obtain ⟨M1, ρ1, e1, rep1, o1, k1, _⟩ := Rep.frz al rep
    exact ⟨M1, _, ⟨e1, fun _ _ e _ => e⟩, rep1.put (sl := .val d fr) (T := fun _ => False) (by rw [frz_len]; exact hi) (Is.frozen rep e1 o1 h) (fun _ z => z.elim) fun _ z => z.elim⟩
  | fre d =>
    obtain ⟨T, ht, is⟩ := h
    exact ⟨M, _, Frz.refl _ _, rep.put (sl := .tre d) (T := T) hi is fun b z => let ⟨a1, a2, a3, a4⟩ := ht b z; ⟨a1, h0.free a2, a3, fun j _ => a4 j⟩⟩
theorem Rep.writeO {i:Nat} {a:Addr} {sl:Sl} {v:V} {u':HO} (hu:mutO u') (rep:Rep g M ρ env σ H) (o:ρ i a) (hi:i < env.length) (ev:σ[i]? = some (some v)) (ok:SlOk g M (ρ i) (upd H a u') v sl) (hO:sl.isO = true := by rfl) :
    Frz M H M (upd H a u') /\ Rep g M ρ (env.set i (some sl)) σ (upd H a u') := by
  obtain ⟨nm, n0, uo, ha, hmu⟩ := rep.priv i a o
  have nfx:∀ u, H a = some u -> ¬ fixd u := fun u e z => by
    rw [ha] at e; cases e
    cases uo <;> first | exact z | exact hmu
  have kp:∀ b u, H b = some u -> (M b \/ fixd u) -> upd H a u' b = some u := fun b u q z => by
    rw [upd_ne]
    · exact q
    · rintro rfl
      rcases z with z | z
      · exact nm z
      · exact nfx u q z
  have km:∀ (fr:Bool) b u, H b = some u -> (msk g M fr b \/ fixd u) -> upd H a u' b = some u := fun fr b u q z => kp b u q (z.imp (·.1) id)
  refine ⟨⟨fun _ z => z, kp⟩, fun b u q => ?_, fun b hb => ?_, rep.inn, fun b hb h0 => ?_, fun j s ej => ?_, fun j b h => ?_, rep.apart, fun j b h => ?_, by rw [List.length_set]; exact rep.len, fun c z e => by
    by_cases hc:c = a
    · subst hc; rw [upd_same] at e; cases e
    · rw [upd_ne hc] at e; exact rep.zz c z e⟩
  · rw [upd_ne (fun z => by rw [z, n0] at q; cases q)]
    exact rep.same b u q
  · have nb:b ≠ a := fun z => nm (by rw [<- z]; exact hb)
    rw [upd_ne nb]; exact rep.froz b hb
  · have nb:b ≠ a := fun z => nm (by rw [<- z]; exact hb)
    exact (rep.fl b hb h0).same fun o e => by rw [upd_ne nb]; exact e
  · by_cases hj : j = i
    · subst hj
      rw [List.getElem?_set_self hi] at ej
      cases ej
      exact ⟨v, ev, ok⟩
    · rw [List.getElem?_set_ne (Ne.symm hj)] at ej
      obtain ⟨w, ew, k⟩ := rep.slot j s ej
      refine ⟨w, ew, ?_⟩
      have nj:∀ b, ρ j b -> b ≠ a := fun b hb e => hj (rep.apart j i a (e ▸ hb) o)
      cases s with
      | val d fr => exact Is.mono (km fr) (fun _ _ _ z => z) k
      | own ds' fr' =>
        obtain ⟨b, ws, rfl, h1, h2, h4⟩ := k
        exact ⟨b, ws, rfl, by rw [upd_ne (nj b ((h2 b).mpr rfl))]; exact h1, h2, IsAll.mono (km fr') (fun _ _ _ z => z) h4⟩
      | tre d =>
        refine Is.mono (fun b u q z => ?_) (fun _ _ _ z => z) k
        rw [upd_ne]
        · exact q
        · rcases z with z | z
          · exact nj b z
          · intro e; rw [e] at q; exact nfx u q z
      | mes d =>
        refine IsSh.mono (fun b u q z => kp b u q (.inr z)) (fun b ws z q => ⟨ws, by rw [upd_ne (nj b z)]; exact q⟩) (fun _ z => z) k
  · obtain ⟨b1, b2, b3⟩ := rep.priv j b h
    refine ⟨b1, b2, ?_⟩
    by_cases e:b = a
    · exact ⟨u', by rw [e, upd_same], hu⟩
    · exact b3.same fun o z => by rw [upd_ne e]; exact z
  · unfold isOwn
    by_cases hj:j = i
    · subst hj; rw [List.getElem?_set_self hi]; exact hO
    · rw [List.getElem?_set_ne (Ne.symm hj)]; exact rep.ow j b h
theorem Rep.write {i:Nat} {a:Addr} {sl:Sl} {v:V} {vs':List V} (rep:Rep g M ρ env σ H) (o:ρ i a) (hi:i < env.length) (ev:σ[i]? = some (some v)) (ok:SlOk g M (ρ i) (upd H a (.lst vs')) v sl) (hO:sl.isO = true := by rfl) :
    Frz M H M (upd H a (.lst vs')) /\ Rep g M ρ (env.set i (some sl)) σ (upd H a (.lst vs')) := rep.writeO (u' := .lst vs') True.intro o hi ev ok hO
end
section
variable {X:Cx} {E:XK}
def fNil:En -> Res Fl := fun env => .ok (.nx env)
def fSeq (f k:En -> Res Fl) : En -> Res Fl := fun env => (f env).bind fun r => match r with
  | .nx env' => k env'
  | r => .ok r
theorem pssd_nil:PSsD X E [] fNil := ⟨_, pss_nil, fun g M ρ env σ H D rep p => p σ M ρ H (Frz.refl _ _) rep⟩
theorem pssd_one {st:Stmt} {f:En -> Res Fl} (h:PSD X E st f) : PSsD X E [st] f := let ⟨t, a, b⟩ := h; ⟨t, pss_one a, b⟩
theorem pssd_cons {st:Stmt} {rest:List Stmt} {f k:En -> Res Fl} (h1:PSD X E st f) (h2:PSsD X E rest k) : PSsD X E (st :: rest) (fSeq f k) := by
  obtain ⟨t, a, b⟩ := h1
  obtain ⟨u, c, d⟩ := h2
  refine ⟨_, pss_cons a c, fun g M ρ env σ H D rep p => b g M ρ env σ H _ rep ?_⟩
  unfold fSeq at p
  cases q:f env with
  | stuck => rw [q] at p; exact p
  | exc c => rw [q] at p; exact p
  | ok r =>
    rw [q] at p
    cases r with
    | nx env' => exact fun σ' M' ρ' H' e rep' => d g M' ρ' env' σ' H' D rep' (PostS.frz e p)
    | bk env' => exact p
    | ct env' => exact p
    | rt r => exact p
def fIf (c:En -> Res Bool) (a b:En -> Res Fl) : En -> Res Fl := fun env => (c env).bind fun k => if k then a env else b env
theorem psd_if {c:Expr} {a b:List Stmt} {fc:En -> Res Bool} {fa fb:En -> Res Fl} {pos:Pos} (hc:PTD X E c fc) (ha:PSsD X E a fa) (hb:PSsD X E b fb) : PSD X E (.If c a b pos) (fIf fc fa fb) := by
  obtain ⟨tc, p1, s1⟩ := hc
  obtain ⟨ta, p2, s2⟩ := ha
  obtain ⟨tb, p3, s3⟩ := hb
  refine ⟨_, ps_if p1 p2 p3, fun g M ρ env σ H D rep p => s1.oneS rep p fun b M' H' e rep' p' => ?_⟩
  cases b with
  | true => exact iteT (s2 g M' ρ env σ H' D rep' p')
  | false => exact iteF (s3 g M' ρ env σ H' D rep' p')
def fRet (f:En -> Res R) : En -> Res Fl := fun env => (f env).bind fun r => .ok (.rt r)
theorem ROk.ret {g:Gd} {M:Addr -> Prop} {ρ:Pr} {env:En} {σ:St} {H H0:Hp} {v:V} {r:R} (rep:Rep g M ρ env σ H) (h0:Same g.H₀ H0) (h:ROk g M ρ H0 H v r) (hz:∀ a, ¬ g.Z a) : RetOk g H v r := by
  have mu:∀ a, M a -> g.H₀ a = none -> Mu H a := fun a h1 h2 => (rep.fl a h1 h2).elim id fun z => (hz a z.1).elim
  have key:∀ {fr:Bool} {a:Addr}, msk g M fr a -> nl g.H₀ H a \/ (fr = false /\ g.Ma a) := fun {fr a} z => by
    cases fr with
    | true => exact .inl ⟨z.2 rfl, mu a z.1 (z.2 rfl)⟩
    | false => exact (rep.inn a z.1).imp (fun w => ⟨w, mu a z.1 w⟩) fun w => ⟨rfl, w⟩
  cases r with
  | val d fr al => exact Is.weak (fun a z => z.elim key fun ⟨i, _, o⟩ => .inl (rep.priv i a o).2) h
  | new ds fr =>
    obtain ⟨a, vs, rfl, h1, h2, h3, h4, h5⟩ := h
    exact ⟨a, vs, rfl, h1, h0.free h3, IsAll.weak (fun b z => ⟨fun e => h2 (e ▸ z.1), key z⟩) h5⟩
  | fre d =>
    obtain ⟨T, ht, is⟩ := h
    exact Is.weak (fun a z => let ⟨_, a2, a3, _⟩ := ht a z; ⟨h0.free a2, a3⟩) is
theorem psd_ret {e:Expr} {f:En -> Res R} {pos:Pos} (h:PD X E e f) : PSD X E (.Return (some e) pos) (fRet f) := by
  obtain ⟨t, p1, s1⟩ := h
  exact ⟨_, ps_ret p1, fun g M ρ env σ H D rep p => s1.oneS rep p fun r v M' H' e rep' ro p' => p' v H' rep'.same fun hz => ro.ret rep' rep.same hz⟩
def fSet (i:Nat) (f:En -> Res R) : En -> Res Fl := fun env => (f env).bind fun r => if i < env.length then .ok (.nx (put env i r)) else .stuck
theorem snd_set {mg:Str -> Option Value} {i:Nat} {t:TE} {f:En -> Res R} (s:Snd mg E t f) : SndS mg E (tAsg t (gName i)) (fSet i f) := by
  intro g M ρ env σ H D rep p
  refine s.oneS rep p fun r v M' H' e rep' ro p' => ?_
  by_cases hi:i < env.length
  · rw [if_pos hi] at p'
    obtain ⟨M2, ρ2, e2, rep2⟩ := rep'.store rep.same hi ro
    exact p' _ M2 ρ2 H' e2 rep2
  · rw [if_neg hi] at p'; exact p'.elim
theorem psd_set {i:Nat} {x:Str} {e:Expr} {f:En -> Res R} {pos pos':Pos} (hN:X.N.Nodup) (hi:X.N[i]? = some x) (hx:Loc X.env.scope x) (h:PD X E e f) (hs:swapsWith e (some (.Name x pos')) pos.line X.env = pure false := by rfl)
    (hf:X.fn x = true \/ X.env.scope.names.lookup x = some .local := by first | exact .inl rfl | exact .inr rfl | assumption) : PSD X E (.Assign [.Name x pos'] e pos) (fSet i f) := by
  obtain ⟨t, p1, s1⟩ := h
  exact ⟨_, ps_set hN hi hx p1 hs hf, snd_set s1⟩
def ownOf (env:En) (i:Nat) : Option (List D × Bool) := match env[i]? with
  | some (some (.own ds fr)) => some (ds, fr)
  | some (some (.tre (.lst ds))) => some (ds, true)
  | _ => none
mutual
def D.sz:D -> Nat
  | .tup ds => D.szs ds + 1
  | .lst ds => D.szs ds + 1
  | .dic _ ds => D.szs ds + 1
  | _ => 0
def D.szs:List D -> Nat
  | [] => 0
  | d :: ds => d.sz + D.szs ds + 1
end
section
variable {H:Hp} {m m':Addr -> Prop}
mutual
theorem Is.avoid {a:Addr} {e:D} (ha:Is H m' e (.ref a)) : ∀ {d:D} {v:V}, d.sz < e.sz -> Is H m d v -> Is H (fun b => m b /\ b ≠ a) d v
  | .non, _, _, h => h
  | .bl _, _, _, h => h
  | .int _, _, _, h => h
  | .str _, _, _, h => h
  | .tup ds, _, hs, h => by
    obtain ⟨b, vs, rfl, h1, h2⟩ := h
    simp only [D.sz] at hs
    exact ⟨b, vs, rfl, h1, IsAll.avoid ha (by omega) h2⟩
  | .lst ds, _, hs, h => by
    have h' := h
    obtain ⟨b, vs, rfl, h1, h2⟩ := h
    have nb:b ≠ a := fun z => by
      subst z
      have q := Is.inj h' ha
      rw [q] at hs; omega
    simp only [D.sz] at hs
    refine ⟨b, vs, rfl, ?_, IsAll.avoid ha (by omega) h2⟩
    rcases h1 with ⟨h1, h3⟩ | ⟨o, h1, h3⟩
    · exact .inl ⟨h1, h3, nb⟩
    · exact .inr ⟨o, h1, h3, nb⟩
  | .dic ks ds, _, hs, h => by
    have h' := h
    obtain ⟨b, kvs, rfl, h1, h2⟩ := h
    have nb:b ≠ a := fun z => by
      subst z
      have q := Is.inj h' ha
      rw [q] at hs; omega
    simp only [D.sz] at hs
    exact ⟨b, kvs, rfl, ⟨h1.1, h1.2, nb⟩, IsAll.avoid ha (by omega) h2⟩
theorem IsAll.avoid {a:Addr} {e:D} (ha:Is H m' e (.ref a)) : ∀ {ds:List D} {vs:List V}, D.szs ds < e.sz -> IsAll H m ds vs -> IsAll H (fun b => m b /\ b ≠ a) ds vs
  | [], _, _, h => h
  | d :: ds, _, hs, h => by
    obtain ⟨v, r, rfl, h1, h2⟩ := h
    simp only [D.szs] at hs
    exact ⟨v, r, rfl, Is.avoid ha (by omega) h1, IsAll.avoid ha (by omega) h2⟩
end
end
theorem Rep.toOwn {g:Gd} {M:Addr -> Prop} {ρ:Pr} {env:En} {σ:St} {H:Hp} {i:Nat} {ds:List D} {fr:Bool} (rep:Rep g M ρ env σ H) (e:ownOf env i = some (ds, fr)) :
    ∃ (M':Addr -> Prop) (ρ':Pr) (a:Addr) (vs:List V), (∀ b, M b -> M' b) /\ Rep g M' ρ' (env.set i (some (.own ds fr))) σ H /\ σ[i]? = some (some (.ref a)) /\ H a = some (.lst vs) /\ (∀ b, ρ' i b ↔ b = a) /\ IsAll H (msk g M' fr) ds vs /\ i < env.length /\ (∀ j b, ρ' j b -> ρ j b) /\ (∀ j, j ≠ i -> ρ' j = ρ j) := by
  unfold ownOf at e
  cases q:env[i]? with
  | none => rw [q] at e; cases e
  | some o =>
    have hi:i < env.length := (List.getElem?_eq_some_iff.mp q).1
    have hself:env.set i (env[i]) = env := List.set_getElem_self hi
    cases o with
    | none => rw [q] at e; cases e
    | some sl =>
      obtain ⟨v, ev, k⟩ := rep.slot i sl q
      rw [q] at e
      cases sl with
      | val d f => cases e
      | mes d => cases e
      | own ds' f' =>
        cases e
        obtain ⟨a, vs, rfl, h1, h2, h4⟩ := k
        have eq:env.set i (some (.own ds fr)) = env := by
          have:env[i] = some (.own ds fr) := by
            have := (List.getElem?_eq_some_iff.mp q).2; exact this
          rw [<- this]; exact hself
        rw [eq]
        exact ⟨M, ρ, a, vs, fun _ z => z, rep, ev, h1, h2, h4, hi, fun _ _ z => z, fun _ _ => rfl⟩
      | tre d =>
        cases d with
        | lst ds' =>
          cases e
          have k' := k
          obtain ⟨a, vs, rfl, h1, h2⟩ := k
          have pa:ρ i a := by rcases h1 with ⟨_, z⟩ | ⟨_, _, z⟩ <;> exact z
          obtain ⟨pm, p0, uo, pl, pmu⟩ := rep.priv i a pa
          have hl:H a = some (.lst vs) := by
            rcases h1 with ⟨h1, _⟩ | ⟨o, h1, _⟩
            · exact h1
            · rw [h1] at pl; cases pl; exact pmu.elim
          have inner:IsAll H (fun b => ρ i b /\ b ≠ a) ds vs := IsAll.avoid k' (by simp only [D.sz]; omega) h2
          let M':Addr -> Prop := fun b => M b \/ (ρ i b /\ b ≠ a)
          let ρ':Pr := setP ρ i fun b => b = a
          have rr:Rep g M' ρ' (env.set i (some (.own ds true))) (σ.set i (some (.ref a))) H := by
            have r1:Rep g M' (fun j b => if j = i then b = a else ρ j b) (env.set i (some (.own ds true))) σ H := by
              refine ⟨rep.same, fun b hb => hb.elim (rep.froz b) fun z => ?_, fun b hb => hb.elim (rep.inn b) fun z => .inl (rep.priv i b z.1).2.1, fun b hb h0 => hb.elim (fun z => rep.fl b z h0) fun z => .inl (rep.priv i b z.1).2.2, fun j s ej => ?_, fun j b h => ?_, fun j k b w1 w2 => ?_, fun j b h => ?_, by rw [List.length_set]; exact rep.len, rep.zz⟩
              · exact (rep.priv i b z.1).2.2.some
              · by_cases hj : j = i
                · subst hj
                  rw [List.getElem?_set_self hi] at ej; cases ej
                  exact ⟨_, ev, a, vs, rfl, hl, fun b => by simp, IsAll.weak (fun b z => ⟨.inr z, fun _ => (rep.priv j b z.1).2.1⟩) inner⟩
                · rw [List.getElem?_set_ne (Ne.symm hj)] at ej
                  obtain ⟨v', ev', k2⟩ := rep.slot j s ej
                  have eT:(fun b => if j = i then b = a else ρ j b) = ρ j := by funext b; rw [if_neg hj]
                  exact ⟨v', ev', by show SlOk g M' (fun b => if j = i then b = a else ρ j b) H v' s; rw [eT]; exact SlOk.weak (fun _ => .inl) k2⟩
              · by_cases hj : j = i
                · rw [if_pos hj] at h; subst h
                  exact ⟨fun z => z.elim pm fun z => z.2 rfl, p0, Mu.lst hl⟩
                · rw [if_neg hj] at h
                  exact ⟨fun z => z.elim (rep.priv j b h).1 fun z => hj (rep.apart j i b h z.1), (rep.priv j b h).2⟩
              · by_cases hj : j = i
                · by_cases hk : k = i
                  · rw [hj, hk]
                  · rw [if_pos hj] at w1; rw [if_neg hk] at w2; subst w1
                    exact absurd (rep.apart k i b w2 pa) hk
                · by_cases hk : k = i
                  · rw [if_pos hk] at w2; rw [if_neg hj] at w1; subst w2
                    exact absurd (rep.apart j i b w1 pa) hj
                  · rw [if_neg hj] at w1; rw [if_neg hk] at w2; exact rep.apart j k b w1 w2
              · unfold isOwn
                by_cases hj:j = i
                · subst hj; rw [List.getElem?_set_self hi]; rfl
                · rw [if_neg hj] at h
                  rw [List.getElem?_set_ne (Ne.symm hj)]; exact rep.ow j b h
            have hi2:i < σ.length := by rw [<- rep.len]; exact hi
            have es:σ.set i (some (.ref a)) = σ := by
              have:σ[i] = some (.ref a) := (List.getElem?_eq_some_iff.mp ev).2
              rw [<- this]; exact List.set_getElem_self hi2
            rw [es]; exact r1
          have hi2:i < σ.length := by rw [<- rep.len]; exact hi
          have es:σ.set i (some (.ref a)) = σ := by
            have:σ[i] = some (.ref a) := (List.getElem?_eq_some_iff.mp ev).2
            rw [<- this]; exact List.set_getElem_self hi2
          rw [es] at rr
          refine ⟨M', ρ', a, vs, fun _ => .inl, rr, ev, hl, fun b => by show setP ρ i (fun b => b = a) i b ↔ b = a; rw [setP_eq], IsAll.weak (fun b z => ⟨.inr z, fun _ => (rep.priv i b z.1).2.1⟩) inner, hi, fun j b z => ?_, fun j hj => setP_ne hj⟩
          by_cases hj:j = i
          · subst hj
            have z:setP ρ j (fun b => b = a) j b := z
            rw [setP_eq] at z; rw [z]; exact pa
          · have z:setP ρ i (fun b => b = a) j b := z
            rw [setP_ne hj] at z; exact z
        | _ => cases e
def fApp (i:Nat) (f:En -> Res R) : En -> Res Fl := fun env => match ownOf env i with
  | some (ds, fr) => (f env).bind fun r => if ds.length < lim /\ ¬ i ∈ r.al then .ok (.nx ((frz env r.al).set i (some (.own (ds ++ [r.d]) (fr && r.fr))))) else .stuck
  | none => .stuck
theorem psd_app {i:Nat} {a e:Expr} {f:En -> Res R} {apos cpos pos:Pos} (ha:PE X a (tVar i)) (h:PD X E e f)
    (hbase : attributeBase a "append" X.env (eval a X.env) = eval a X.env := by rfl)
    (hfew:((backTo cpos (starEach [e] X.env)).all (fun x => !x.1) && (backToKw cpos (keywordEach [] X.env)).all (fun x => x.1.isSome)
      && decide (([e] : List Expr).length + ([] : List Keyword).length + (if ([] : List Keyword).isEmpty then 0 else 1) < 30)) = true := by rfl)
    (hline:(apos.endLine == cpos.line) = true := by rfl) (hs:starEach [e] X.env = (false, eval e X.env) :: starEach [] X.env := by rfl) (hplain:(backTo cpos (starEach [] X.env)).any (·.1) = false := by rfl)
    (hsw : swapsWith (.Call (.Attribute a "append" apos) [e] [] cpos) none pos.line X.env = pure false := by rfl) :
    PSD X E (.Expr (.Call (.Attribute a "append" apos) [e] [] cpos) pos) (fApp i f) := by
  obtain ⟨t, p1, s1⟩ := h
  refine ⟨_, ps_expr (pe_bm PySem.F.plainAttrs_list PySem.F.slot_list_append PySem.F.type_list_append mt_append ha (pa_cons p1 pa_nil hs) hbase hfew hline hs hplain) hsw, fun g M ρ env σ H D rep p => ?_⟩
  unfold fApp at p
  cases e1:ownOf env i with
  | none => rw [e1] at p; exact p.elim
  | some o =>
    obtain ⟨ds, fr⟩ := o
    rw [e1] at p
    dsimp only at p
    obtain ⟨M0, ρ0, l, vs, m0, rep0, ev, k1, k2, k4, hi, _⟩ := rep.toOwn e1
    refine ⟨_, ev, .inl ⟨rfl, vs, SqL.of k1⟩, s1.oneS rep p fun r y M' H' e rep' ro p' => ?_⟩
    by_cases hc:ds.length < lim /\ ¬ i ∈ r.al
    · rw [if_pos hc] at p'
      obtain ⟨M1, x1, x1m, rep1, is1⟩ := ro.is rep' e rep.same
      obtain ⟨M2, ρ2, x2, rep2, o2, k5, k6⟩ := Rep.frz r.al rep1
      have is2:Is H' (msk g M2 r.fr) r.d y := Is.frozen rep1 x2 o2 is1
      have e2:ownOf (frz env r.al) i = some (ds, fr) := by
        unfold ownOf
        rw [frz_ne _ hc.2]
        exact e1
      obtain ⟨M3, ρ3, l3, vs3, m3, rep3, ev3, j1, j2, j4, hi3, _⟩ := rep2.toOwn e2
      rw [ev] at ev3; cases ev3
      have hl:H' l = some (.lst vs) := e.h _ _ k1
      rw [hl] at j1; cases j1
      have pl:ρ3 i l := (j2 l).mpr rfl
      obtain ⟨nl3, _⟩ := rep3.priv i l pl
      have is4:IsAll H' (msk g M3 (fr && r.fr)) (ds ++ [r.d]) (vs ++ [y]) := by
        refine IsAll.snoc (IsAll.weak (fun b z => ⟨z.1, fun q => z.2 (by cases fr <;> simp_all)⟩) j4) (Is.weak (fun b z => ⟨m3 b z.1, fun q => z.2 (by cases fr <;> simp_all)⟩) is2)
      have kp:∀ b u, H' b = some u -> (msk g M3 (fr && r.fr) b \/ fixd u) -> upd H' l (.lst (vs ++ [y])) b = some u := fun b u q z => by
        rw [upd_ne]
        · exact q
        · rintro rfl
          rcases z with z | z
          · exact nl3 z.1
          · rw [hl] at q; cases q; exact z
      obtain ⟨f1, rep4⟩ := rep3.write (sl := .own (ds ++ [r.d]) (fr && r.fr)) (vs' := vs ++ [y]) pl (by rw [List.length_set]; exact hi3) ev ⟨l, vs ++ [y], rfl, upd_same, j2, IsAll.mono kp (fun _ _ _ z => z) is4⟩
      rw [List.set_set] at rep4
      refine ⟨l, vs, y, rfl, rfl, hl, by rw [k4.length]; exact lim_lt hc.1, ?_⟩
      exact p' σ M3 ρ3 _ (Frz.trans ⟨fun a z => m3 a (x2 a (x1m a z)), fun _ _ q _ => q⟩ f1) rep4
    · rw [if_neg hc] at p'; exact p'.elim
end
end L3
namespace L3
open PySem PySem.Spec PyProof.Rows L2
def SndG (ix:List Nat) (t:TG) (asg:D -> Bool -> En -> Option En) : Prop := ∀ (g:Gd) (M:Addr -> Prop) (ρ:Pr) (env env':En) (σ:St) (H:Hp) (d:D) (fr:Bool) (v:V) (Q:St -> Hp -> Prop),
  Rep g M ρ env σ H -> Is H (msk g M fr) d v -> asg d fr env = some env' -> (∀ (σ':St) (ρ':Pr), Rep g M ρ' env' σ' H -> (∀ j, ¬ j ∈ ix -> σ'[j]? = σ[j]?) -> (∀ j a, ρ' j a -> ρ j a) -> Q σ' H) -> t v σ H Q
def PGD (X:Cx) (ix:List Nat) (tg:Expr) (asg:D -> Bool -> En -> Option En) : Prop := ∃ t, PG X tg t /\ SndG ix t asg
section
variable {X:Cx} {E:XK}
def gN (i:Nat) : D -> Bool -> En -> Option En := fun d fr env => if i < env.length then some (env.set i (some (.val d fr))) else none
theorem sndg_name {i:Nat} : SndG [i] (gName i) (gN i) := by
  intro g M ρ env env' σ H d fr v Q rep is e k
  unfold gN at e
  by_cases hi:i < env.length
  · rw [if_pos hi] at e
    cases e
    exact k _ _ (rep.put (sl := .val d fr) (T := fun _ => False) hi is (fun _ z => z.elim) fun _ z => z.elim) (fun j hj => List.getElem?_set_ne fun e => hj (by simp [e])) fun j a z => by
      by_cases hj:j = i
      · subst hj; rw [setP_eq] at z; exact z.elim
      · rw [setP_ne hj] at z; exact z
  · rw [if_neg hi] at e; cases e
theorem pgd_name {i:Nat} {x:Str} {pos:Pos} (hN:X.N.Nodup) (hi:X.N[i]? = some x) (hx:Loc X.env.scope x) (hf:X.fn x = true \/ X.env.scope.names.lookup x = some .local := by first | exact .inl rfl | exact .inr rfl | assumption) : PGD X [i] (.Name x pos) (gN i) :=
  ⟨_, pg_name hN hi hx hf, sndg_name⟩
end
structure Src where
  xs:List D
  fr:Bool
  al:List Nat
structure Walk (J:It) (m:Addr -> Prop) (H:Hp) (xs:List D) : Prop where
  go:∀ H' i d, (∀ a o, H a = some o -> (m a \/ fixd o) -> H' a = some o) -> xs[i]? = some d -> J.go i H' /\ ∀ x H'', J.yld i H' x H'' -> Same H' H'' /\ Is H'' m d x
  stop:∀ H', (∀ a o, H a = some o -> (m a \/ fixd o) -> H' a = some o) -> J.stop xs.length H'
theorem Walk.weak {J:It} {m m':Addr -> Prop} {H:Hp} {xs:List D} (w:Walk J m H xs) (h:∀ a, m a -> m' a) : Walk J m' H xs :=
  ⟨fun H' i d k e => let ⟨a, b⟩ := w.go H' i d (fun a o q z => k a o q (z.imp (h a) id)) e; ⟨a, fun x H'' y => let ⟨c, d⟩ := b x H'' y; ⟨c, d.weak h⟩⟩, fun H' k => w.stop H' fun a o q z => k a o q (z.imp (h a) id)⟩
def PostI (mg:Str -> Option Value) (E:XK) (g:Gd) (M:Addr -> Prop) (ρ:Pr) (env:En) (σ:St) (H:Hp) (R:It -> Hp -> Prop) : Res Src -> Prop
  | .stuck => False
  | .exc c => XOk mg E g c
  | .ok s => ∀ J M' H', Ext M H M' H' -> Rep g M' ρ env σ H' -> Walk J (vmsk g M' s.fr ρ s.al) H' s.xs -> R J H'
def SndI (mg:Str -> Option Value) (E:XK) (wi:TI) (f:En -> Res Src) : Prop := ∀ g M ρ env σ H R, Rep g M ρ env σ H -> PostI mg E g M ρ env σ H R (f env) -> wi σ H R
def PID (X:Cx) (E:XK) (tg iter:Expr) (f:En -> Res Src) : Prop := ∃ wi, PI X tg iter wi /\ SndI X.mg E wi f
section
variable {X:Cx} {E:XK} {tg:Expr}
def iSeq (K:PySem.W.Frag) (tl:TE) : TI := fun σ H R => tl σ H fun x H1 => ∃ a, x = .ref a /\ (((∃ xs, SqL K H1 a xs) /\ R (Itl K a) H1) \/ ((∃ xs, SqT K H1 a xs) /\ R (Itt K a) H1))
theorem pi_seq {l:Expr} {tl:TE} (hl:PE X l tl) : PI X tg l (iSeq X.K tl) := by
  intro pins s σ H R I h
  refine thn (hl pins s σ H _ I h) fun v s1 ⟨x, H1, I1, r1, q1⟩ => ?_
  obtain ⟨a, e, q⟩ := q1
  subst e
  cases r1
  rcases q with ⟨⟨xs, hq⟩, q⟩ | ⟨⟨xs, hq⟩, q⟩
  · obtain ⟨its, rv, p, hz⟩ := I1.list hq
    refine wpAny_pyIter_list p.isList ?_
    refine ⟨s1.heap.objs.size, [s1.heap.objs.size], _, _, H1, rfl, I1.kept (t' := s1.toks) fun b o e => Heap.get?_push_of_some _ e, turn_list a _, ⟨_, Heap.get?_push_size _ rfl, rfl, rfl⟩, fun b hb => ?_, q⟩
    have e:b = s1.heap.objs.size := by simpa using hb
    subst e
    exact I1.fpOk (Nat.le_refl _) (I1.hok.fresh (Nat.le_refl _))
  · obtain ⟨its, rv, p, hz⟩ := I1.tuple hq
    refine wpAny_pyIter_tuple (show s1.heap.IsTuple a its.toArray from p) ?_
    refine ⟨s1.heap.objs.size, [s1.heap.objs.size], _, _, H1, rfl, I1.kept (t' := s1.toks) fun b o e => Heap.get?_push_of_some _ e, turn_tuple a _, ⟨_, Heap.get?_push_size _ rfl, rfl, rfl⟩, fun b hb => ?_, q⟩
    have e:b = s1.heap.objs.size := by simpa using hb
    subst e
    exact I1.fpOk (Nat.le_refl _) (I1.hok.fresh (Nat.le_refl _))
theorem walk_list {K:PySem.W.Frag} {a:Addr} {m:Addr -> Prop} {H:Hp} {ds:List D} {vs:List V} (h:(H a = some (.lst vs) /\ m a) \/ ∃ o, H a = some (.frz o (.lst vs)) /\ m a) (is:IsAll H m ds vs) : Walk (Itl K a) m H ds := by
  have st:∀ H', (∀ a o, H a = some o -> (m a \/ fixd o) -> H' a = some o) -> SqL K H' a vs := fun H' k => by
    rcases h with ⟨h, hm⟩ | ⟨o, h, _⟩
    · exact .inl (.inl (k a _ h (.inl hm)))
    · exact .inl (.inr ⟨o, k a _ h (.inr True.intro)⟩)
  refine ⟨fun H' i d k e => ?_, fun H' k => ⟨vs, st H' k, by rw [is.length]; exact Nat.le_refl _⟩⟩
  obtain ⟨v, ev, iv⟩ := (is.mono k fun _ _ _ z => z:IsAll H' m ds vs).get e
  refine ⟨⟨vs, v, st H' k, ev⟩, fun x H'' y => ?_⟩
  obtain ⟨rfl, y⟩ := y
  have := y vs (st _ k)
  rw [ev] at this; cases this
  exact ⟨Same.refl _, iv⟩
theorem walk_tup {K:PySem.W.Frag} {a:Addr} {m:Addr -> Prop} {H:Hp} {ds:List D} {vs:List V} (h:H a = some (.tup vs)) (is:IsAll H m ds vs) : Walk (Itt K a) m H ds := by
  have st:∀ H', (∀ a o, H a = some o -> (m a \/ fixd o) -> H' a = some o) -> SqT K H' a vs := fun H' k => SqT.of (k a _ h (.inr True.intro))
  refine ⟨fun H' i d k e => ?_, fun H' k => ⟨vs, st H' k, by rw [is.length]; exact Nat.le_refl _⟩⟩
  obtain ⟨v, ev, iv⟩ := (is.mono k fun _ _ _ z => z:IsAll H' m ds vs).get e
  refine ⟨⟨vs, v, st H' k, ev⟩, fun x H'' y => ?_⟩
  obtain ⟨rfl, y⟩ := y
  have := y vs (st _ k)
  rw [ev] at this; cases this
  exact ⟨Same.refl _, iv⟩
def numsD (lo:Int) (n:Nat) : List D := (List.range n).map fun k => .int (lo + (k:Nat))
theorem walk_range {m:Addr -> Prop} {H:Hp} (lo:Int) (n:Nat) : Walk (Itr lo n) m H (numsD lo n) := by
  refine ⟨fun H' i d k e => ?_, fun H' k => by show n <= (numsD lo n).length; simp [numsD]⟩
  have hi:i < n := by have := (List.getElem?_eq_some_iff.mp e).1; simpa [numsD] using this
  refine ⟨hi, fun x H'' y => ?_⟩
  obtain ⟨rfl, rfl⟩ := y
  refine ⟨Same.refl _, ?_⟩
  have:(numsD lo n)[i]? = some (.int (lo + (i:Nat))) := by simp [numsD, hi]
  rw [this] at e; cases e
  rfl
def sSeq (f:En -> Res R) : En -> Res Src := fun env => (f env).bind fun r => match r.d with
  | .lst ds => .ok ⟨ds, r.fr, r.al⟩
  | .tup ds => .ok ⟨ds, r.fr, r.al⟩
  | _ => .stuck
theorem pid_seq {l:Expr} {f:En -> Res R} (h:PD X E l f) : PID X E tg l (sSeq f) := by
  obtain ⟨t, p1, s1⟩ := h
  refine ⟨_, pi_seq p1, fun g M ρ env σ H R rep p => ?_⟩
  refine s1.one rep (P := fun M H r => PostI X.mg E g M ρ env σ H R r) p (fun _ _ z => z) (fun _ _ _ z => z) (fun M H M' H' r e p => ?_) fun r v M1 H1 e1 rep1 is q => ?_
  · cases r with
    | stuck => exact p
    | exc c => exact p
    | ok s => exact fun J M2 H2 e2 => p J M2 H2 (e.trans e2)
  · cases z:r.d with
    | lst ds =>
      rw [z] at is
      simp only [z] at q
      obtain ⟨a, vs, rfl, h1, h2⟩ := is
      exact ⟨a, rfl, .inl ⟨⟨vs, .inl (h1.imp (·.1) fun ⟨o, z, _⟩ => ⟨o, z⟩)⟩, q _ M1 H1 (Ext.refl _ _) rep1 (walk_list h1 h2)⟩⟩
    | tup ds =>
      rw [z] at is
      simp only [z] at q
      obtain ⟨a, vs, rfl, h1, h2⟩ := is
      exact ⟨a, rfl, .inr ⟨⟨vs, SqT.of h1⟩, q _ M1 H1 (Ext.refl _ _) rep1 (walk_tup h1 h2)⟩⟩
    | _ => simp only [z] at q; exact q.elim
def cR (i:Int) : Bool := decide (-(2 ^ 62) <= i) && decide (i < 2 ^ 62)
def sR1 (fs:En -> Res (List R)) : En -> Res Src := fun env => (fs env).bind fun rs => match rs.map R.d with
  | [.int j] => if cR j then .ok ⟨numsD 0 j.toNat, true, []⟩ else .stuck
  | _ => .stuck
theorem PostI.ext {mg:Str -> Option Value} {g:Gd} {M M':Addr -> Prop} {ρ:Pr} {env:En} {σ:St} {H H':Hp} {R:It -> Hp -> Prop} {r:Res Src} (e:Ext M H M' H') (p:PostI mg E g M ρ env σ H R r) : PostI mg E g M' ρ env σ H' R r := by
  cases r with
  | stuck => exact p
  | exc c => exact p
  | ok s => exact fun J M2 H2 e2 => p J M2 H2 (e.trans e2)
theorem pid_range1 {a : Expr} {fs : En -> Res (List R)} {p pos : Pos} (hg : Gl X "range") (hm : X.mg "range" = none) (ha : PAD X E [a] fs) (hs : starEach [a] X.env = [(false, eval a X.env)] := by rfl) : PID X E tg (.Call (.Name "range" p) [a] [] pos) (sR1 fs) := by
  obtain ⟨t, p1, s1⟩ := ha
  refine ⟨_, pi_range1 hg hm p1 hs, fun g M ρ env σ H Rq rep p => s1.one rep (P := fun M H r => PostI X.mg E g M ρ env σ H Rq r) p (fun _ _ z => z) (fun _ _ _ z => z) (fun _ _ _ _ _ e p => p.ext e) fun rs vs M1 H1 e1 rep1 is q => ?_⟩
  generalize hd:rs.map R.d = ds at is q
  match ds, is, q with
  | [.int j], is, q =>
    obtain ⟨v, w, rfl, i1, i2⟩ := is
    cases i1; cases i2
    dsimp only at q
    by_cases hc:cR j = true
    · rw [if_pos hc] at q
      simp only [cR, Bool.and_eq_true, decide_eq_true_eq] at hc
      exact ⟨j, rfl, hc.1, hc.2, q _ M1 H1 (Ext.refl _ _) rep1 (walk_range 0 j.toNat)⟩
    · rw [if_neg hc] at q; exact q.elim
  | [], _, q => exact q.elim
  | [.non], _, q => exact q.elim
  | [.bl _], _, q => exact q.elim
  | [.str _], _, q => exact q.elim
  | [.tup _], _, q => exact q.elim
  | [.lst _], _, q => exact q.elim
  | [.dic _ _], _, q => exact q.elim
  | .int _ :: _ :: _, _, q => exact q.elim
  | .non :: _ :: _, _, q => exact q.elim
  | .bl _ :: _ :: _, _, q => exact q.elim
  | .str _ :: _ :: _, _, q => exact q.elim
  | .tup _ :: _ :: _, _, q => exact q.elim
  | .lst _ :: _ :: _, _, q => exact q.elim
  | .dic _ _ :: _ :: _, _, q => exact q.elim
def forD (asg:D -> Bool -> En -> Option En) (fr:Bool) (body:En -> Res Fl) : List D -> En -> Res Fl
  | [], env => .ok (.nx env)
  | x :: xs, env => match asg x fr env with
    | none => .stuck
    | some env1 => (body env1).bind fun r => match r with
      | .nx env' => forD asg fr body xs env'
      | .ct env' => forD asg fr body xs env'
      | .bk env' => .ok (.nx env')
      | .rt r => .ok (.rt r)
def fFor (src:En -> Res Src) (asg:D -> Bool -> En -> Option En) (body:En -> Res Fl) : En -> Res Fl := fun env => (src env).bind fun s => forD asg s.fr body s.xs (frz env s.al)
theorem psd_for {ix:List Nat} {iter:Expr} {body:List Stmt} {src:En -> Res Src} {asg:D -> Bool -> En -> Option En} {fb:En -> Res Fl} {pos:Pos} (hp:PassesOwn (model X.prog X.w) X.A X.env X.xe) (hc:X.calm = true)
    (hi:PID X E tg iter src) (hg:PGD X ix tg asg) (hb:PSsD X E body fb) (hs:∀ x, foldedSetIterable iter X.env x = pure x := by intro _; rfl) : PSD X E (.For tg iter body [] pos) (fFor src asg fb) := by
  obtain ⟨wi, p1, s1⟩ := hi
  obtain ⟨u, p2, s2⟩ := hg
  obtain ⟨tb, p3, s3⟩ := hb
  refine ⟨_, ps_for hp hc p1 p2 p3 hs, fun g M ρ env σ H D rep p => ?_⟩
  refine s1 g M ρ env σ H _ rep ?_
  unfold fFor at p
  cases q:src env with
  | stuck => rw [q] at p; exact p
  | exc c => rw [q] at p; exact p
  | ok s =>
    rw [q] at p
    intro J M1 H1 e1 rep1 wk
    obtain ⟨M2, ρ2, x2, rep2, o2, _, _⟩ := Rep.frz s.al rep1
    have wk2:Walk J (msk g M2 s.fr) H1 s.xs := wk.weak fun a z => z.elim (msk.mono x2) fun ⟨i, hi, o⟩ => ⟨o2 i hi a o, fun _ => (rep1.priv i a o).2.1⟩
    have p2':PostS X.mg E g M2 H1 D (forD asg s.fr fb s.xs (frz env s.al)) := PostS.frz (e1.frz.trans ⟨x2, fun _ _ q _ => q⟩) p
    refine ⟨fun i m σ' H' => m = s.xs.length - i /\ i <= s.xs.length /\ ∃ M' ρ' env', Rep g M' ρ' env' σ' H' /\ Frz M2 H1 M' H' /\ PostS X.mg E g M' H' D (forD asg s.fr fb (s.xs.drop i) env'), ⟨_, rfl, Nat.zero_le _, M2, ρ2, _, rep2, Frz.refl _ _, p2'⟩, ?_⟩
    rintro i m σ' H' ⟨rfl, hle, M', ρ', env', rep', f', p'⟩
    have kp:∀ a o, H1 a = some o -> (msk g M2 s.fr a \/ fixd o) -> H' a = some o := fun a o e z => f'.h a o e (z.imp (·.1) id)
    by_cases hlt:i < s.xs.length
    · have ed:s.xs[i]? = some s.xs[i] := by simp [hlt]
      obtain ⟨go, yl⟩ := wk2.go H' i _ kp ed
      have edrop:s.xs.drop i = s.xs[i] :: s.xs.drop (i + 1) := List.drop_eq_getElem_cons hlt
      rw [edrop] at p'
      unfold forD at p'
      refine .inr ⟨go, fun σ'' H'' => ∃ M'' ρ'' env'', Rep g M'' ρ'' env'' σ'' H'' /\ Frz M2 H1 M'' H'' /\ PostS X.mg E g M'' H'' D (forD asg s.fr fb (s.xs.drop (i + 1)) env''), fun σ'' H'' z => ⟨s.xs.length - (i + 1), by omega, rfl, hlt, z⟩, fun x H'' y => ?_⟩
      obtain ⟨sm, is⟩ := yl x H'' y
      have rep'' := rep'.grow sm
      have fx:Frz M' H' M' H'' := ⟨fun _ z => z, fun a o e _ => sm a o e⟩
      have is':Is H'' (msk g M' s.fr) s.xs[i] x := is.weak fun a z => msk.mono f'.m z
      cases qa:asg s.xs[i] s.fr env' with
      | none => simp only [qa] at p'; exact p'.elim
      | some env1 =>
        simp only [qa] at p'
        refine s2 g M' ρ' env' env1 σ' H'' _ s.fr x _ rep'' is' qa fun σ1 ρ1 rep1' _ _ => ?_
        refine s3 g M' ρ1 env1 σ1 H'' _ rep1' ?_
        have p'' := PostS.frz fx p'
        cases qb:fb env1 with
        | stuck => rw [qb] at p''; exact p''
        | exc c => rw [qb] at p''; exact p''
        | ok r =>
          rw [qb] at p''
          cases r with
          | nx e3 => exact fun σ3 M3 ρ3 H3 f3 rep3 => ⟨M3, ρ3, e3, rep3, (f'.trans fx).trans f3, PostS.frz f3 p''⟩
          | ct e3 => exact fun σ3 M3 ρ3 H3 f3 rep3 => ⟨M3, ρ3, e3, rep3, (f'.trans fx).trans f3, PostS.frz f3 p''⟩
          | bk e3 => exact p''
          | rt r => exact p''
    · have e:i = s.xs.length := by omega
      subst e
      rw [List.drop_length] at p'
      exact .inl ⟨wk2.stop H' kp, p' σ' M' ρ' H' (Frz.refl _ _) rep'⟩
end
end L3
namespace L3
open PySem PySem.Spec PyProof.Rows L2
theorem closure_loop {env:Env} : ∀ (names:List (Str × NameKind)) (cs:List (Str × Addr)), (∀ x ∈ names, x.2 = .free -> ∃ c, env.cells.lookup x.1 = some c) -> (∀ y c, cs.lookup y = some c -> env.cells.lookup y = some c) ->
    ∃ cl, (forIn names cs fun (x:Str × NameKind) (r:List (Str × Addr)) => (do
      if (x.2 == .free) = true then
        let c <- cellOf env x.1
        pure (ForInStep.yield ((x.1, c) :: r))
      else pure (ForInStep.yield r) : Sem (ForInStep (List (Str × Addr))))) = pure cl /\ (∀ y c, cl.lookup y = some c -> env.cells.lookup y = some c) /\ (∀ x ∈ names, x.2 = .free -> ∃ c, cl.lookup x.1 = some c) /\ (∀ y c, cs.lookup y = some c -> ∃ c', cl.lookup y = some c')
  | [], cs, _, h => ⟨cs, by simp, h, fun _ z => absurd z (by simp), fun y c e => ⟨c, e⟩⟩
  | (n, k) :: r, cs, hf, h => by
    by_cases hk:k = .free
    · subst hk
      obtain ⟨c, hc⟩ := hf (n, .free) (by simp) rfl
      have hco:cellOf env n = pure c := by simp [cellOf, hc]
      have h':∀ y c', ((n, c) :: cs).lookup y = some c' -> env.cells.lookup y = some c' := fun y c' e => by
        rw [List.lookup_cons] at e
        cases hy:y == n with
        | true => rw [hy] at e; cases e; rw [eq_of_beq hy]; exact hc
        | false => rw [hy] at e; exact h y c' e
      obtain ⟨cl, e1, e2, e3, e4⟩ := closure_loop r ((n, c) :: cs) (fun x hx => hf x (by simp [hx])) h'
      have self:∃ c', cl.lookup n = some c' := e4 n c (by simp [List.lookup_cons])
      refine ⟨cl, ?_, e2, fun x hx hxf => ?_, fun y c' e => ?_⟩
      · rw [List.forIn_cons]
        simp only [beq_self_eq_true, if_true, hco, pure_bind]
        exact e1
      · rcases List.mem_cons.mp hx with rfl | hx
        · exact self
        · exact e3 x hx hxf
      · by_cases hy : y = n
        · rw [hy]; exact self
        · refine e4 y c' ?_
          have hb:(y == n) = false := by simpa using hy
          rw [List.lookup_cons, hb]
          exact e
    · obtain ⟨cl, e1, e2, e3, e4⟩ := closure_loop r cs (fun x hx => hf x (by simp [hx])) h
      refine ⟨cl, ?_, e2, fun x hx hxf => ?_, e4⟩
      · rw [List.forIn_cons]
        have hkb:(k == NameKind.free) = false := by simpa using hk
        simp only [hkb, Bool.false_eq_true, if_false, pure_bind]
        exact e1
      · rcases List.mem_cons.mp hx with rfl | hx
        · exact absurd hxf hk
        · exact e3 x hx hxf
theorem closureFor_of {scope:Scope} {env:Env} (h:∀ x ∈ scope.names, x.2 = .free -> ∃ c, env.cells.lookup x.1 = some c) :
    ∃ cl, closureFor scope env = pure cl /\ (∀ y c, cl.lookup y = some c -> env.cells.lookup y = some c) /\ (∀ x ∈ scope.names, x.2 = .free -> ∃ c, cl.lookup x.1 = some c) := by
  obtain ⟨cl, e1, e2, e3, _⟩ := closure_loop scope.names [] h (fun _ _ e => by simp at e)
  refine ⟨cl, ?_, e2, e3⟩
  unfold closureFor
  refine Eq.trans ?_ (show ((pure cl:Sem (List (Str × Addr))) >>= fun cs => pure cs) = pure cl by simp)
  rw [<- e1]
  all_goals first
    | rfl
    | (congr 1; congr 1; funext x r; obtain ⟨n, k⟩ := x; first | rfl | (dsimp only; split <;> simp_all))
theorem lookup_mapk {f:Str -> NameKind -> NameKind} : ∀ (names:List (Str × NameKind)) (y:Str), (names.map fun x => (x.1, f x.1 x.2)).lookup y = (names.lookup y).map (f y)
  | [], y => rfl
  | (n, k) :: r, y => by
    rw [List.map_cons, List.lookup_cons, List.lookup_cons]
    cases h:y == n with
    | true => rw [eq_of_beq h]; rfl
    | false => exact lookup_mapk r y
theorem relabel_lookup (scope:Scope) (env:Env) (y:Str) : (relabel scope env).names.lookup y = (scope.names.lookup y).map fun k => if (k == .free && env.scope.kind == .function && env.kindOf y == some .cell) = true then .cell else k := by
  have e:(relabel scope env).names = scope.names.map fun x => (x.1, (fun n k => if (k == NameKind.free && env.scope.kind == .function && env.kindOf n == some .cell) = true then NameKind.cell else k) x.1 x.2) := by
    unfold relabel
    refine List.map_congr_left fun x _ => ?_
    obtain ⟨n, k⟩ := x
    dsimp only
    split <;> rfl
  rw [e]
  exact lookup_mapk (f := fun n k => if (k == NameKind.free && env.scope.kind == .function && env.kindOf n == some .cell) = true then NameKind.cell else k) scope.names y
theorem relabel_free {scope:Scope} {env:Env} {y:Str} (h:scope.names.lookup y = some .free) : (relabel scope env).names.lookup y = some .cell \/ (relabel scope env).names.lookup y = some .free := by
  rw [relabel_lookup, h]
  simp only [Option.map_some]
  split
  · exact .inl rfl
  · exact .inr rfl
def compX (X:Cx) (scope:Scope) (N:List Str) (cl:List (Str × Addr)) (C:Addr) (s:Shared) (H:Hp) (ex:List Addr) : Cx :=
  { X with N := N, s₀ := s, H₀ := H, env := compEnvC scope cl C X.env, outer := X.stack, ex := ex, fn := fun _ => false, pn := [], xe := fun _ _ => False }
section
variable {X:Cx} {pins:List (Addr × Obj)} {σ:St} {H:Hp} {s:Shared} {scope:Scope} {N:List Str} {cl:List (Str × Addr)} {C:Addr} {ex:List Addr}
theorem comp_ok (I:L2.Inv X pins σ H s) (hkind:scope.kind = .function) (hcell:∀ y ∈ scope.names, y.2 ≠ .cell) (hcl:∀ y c, cl.lookup y = some c -> X.env.cells.lookup y = some c) (hhas:∀ x ∈ scope.names, x.2 = .free -> ∃ c, cl.lookup x.1 = some c)
    (hC:s.heap.objs.size <= C) (hex:∀ b ∈ ex, FpOk X pins H b /\ b < s.heap.objs.size) : (compX X scope N cl C s H ex).Ok where
  mod := I.ok.mod
  kind := hkind
  glob := I.ok.glob
  blt := I.ok.blt
  above := hC
  inj := fun x y c h1 h2 => I.ok.inj x y c (hcl x c h1) (hcl y c h2)
  has := fun y hy => by
    have key:∀ k, (relabel scope X.env).names.lookup y = some k -> (k = .cell \/ k = .free) -> ∃ c, cl.lookup y = some c := fun k e hk => by
      rw [relabel_lookup] at e
      cases q:scope.names.lookup y with
      | none => rw [q] at e; cases e
      | some k0 =>
        have hm := PySem.mem_of_lookup q
        have h0 := hcell _ hm
        have hf:k0 = .free := by
          rw [q] at e
          simp only [Option.map_some, Option.some.injEq] at e
          split at e
          · rename_i z
            simp only [Bool.and_eq_true, beq_iff_eq] at z
            exact z.1.1
          · rcases hk with hk | hk
            · exact absurd (e.trans hk) h0
            · exact e.trans hk
        exact hhas _ hm hf
    rcases hy with hy | hy
    · exact key _ hy (.inl rfl)
    · exact key _ hy (.inr rfl)
  cab := fun _ _ h => by cases h
  hd := I.ok.hd
  frames := I.ok.frames
  stk := .inl rfl
  exf := fun b hb => ⟨Nat.ne_of_lt (Nat.lt_of_lt_of_le (hex b hb).2 hC), fun x c e => (hex b hb).1.2.2.2.2.1 x c (hcl x c e)⟩
  bs := fun b o e => I.bs b o e
  bsz := Nat.le_trans I.ok.bsz I.sz
  noex := fun b o e hb => by
    rcases (hex b hb).1.2.2.2.1 with z | z
    · exact I.ok.noex b o e z
    · exact absurd (Nat.lt_of_lt_of_le (Heap.lt_size e) (Nat.le_trans I.ok.bsz z)) (Nat.lt_irrefl _)
  exfs := fun b hb hfs => by
    rcases List.mem_cons.mp (I.stkSub b hfs) with z | z
    · exact (hex b hb).1.2.1 z
    · exact (hex b hb).1.2.2.1 z
  funs := I.stack
  frf := I.stkFree
structure Caps (X:Cx) (scope:Scope) (capN:List Str) (caps:List Nat) : Prop where
  at':∀ (k:Nat) (y:Str), capN[k]? = some y -> ∃ j:Nat, caps[k]? = some j /\ X.N[j]? = some y
  out:∀ y ∈ capN, X.env.kindOf y = some .cell \/ X.env.kindOf y = some .free
  inn:∀ y ∈ capN, scope.names.lookup y = some .free
  len:caps.length = capN.length
def capS (σ:St) (caps:List Nat) : St := caps.map fun j => (σ[j]?).join
theorem comp_inv {tN:List Str} {capN:List Str} {caps:List Nat} {h4:Heap} {tk:Nat} {m4:Str -> Option Value} (I:L2.Inv X pins σ H s) (hkind:scope.kind = .function) (hcell:∀ y ∈ scope.names, y.2 ≠ .cell) (hcl:∀ y c, cl.lookup y = some c -> X.env.cells.lookup y = some c) (hhas:∀ x ∈ scope.names, x.2 = .free -> ∃ c, cl.lookup x.1 = some c)
    (hC:s.heap.objs.size <= C) (hex:∀ b ∈ ex, FpOk X pins H b /\ b < s.heap.objs.size) (hc:Caps X scope capN caps) (kp:∀ b o, s.heap.get? b = some o -> h4.get? b = some o) (ns:h4.Ns C m4) :
    L2.Inv (compX X scope (tN ++ capN) cl C s H ex) [] (List.replicate tN.length none ++ capS σ caps) H { s with heap := h4, toks := tk } where
  ok := comp_ok I hkind hcell hcl hhas hC hex
  os := rfl
  bare := I.bare
  base := Un.kept kp
  loc := by
    refine ⟨m4, ns, fun i y v e1 e2 e3 => ?_⟩
    by_cases hlt:i < tN.length
    · rw [List.getElem?_append_left (by simpa using hlt), List.getElem?_replicate] at e2
      rw [if_pos hlt] at e2; cases e2
    · obtain ⟨k, rfl⟩ : ∃ k, i = tN.length + k := ⟨i - tN.length, by omega⟩
      have e1:capN[k]? = some y := by
        have e1:(tN ++ capN)[tN.length + k]? = some y := e1
        rwa [List.getElem?_append_right (by omega), Nat.add_sub_cancel_left] at e1
      have e2:(capS σ caps)[k]? = some (some v) := by
        rwa [List.getElem?_append_right (by simp), List.length_replicate, Nat.add_sub_cancel_left] at e2
      obtain ⟨j, ej, eN⟩ := hc.at' k y e1
      have e4:σ[j]? = some (some v) := by
        unfold capS at e2
        rw [List.getElem?_map, ej] at e2
        have e2:(σ[j]?).join = some v := by simpa using e2
        cases q:σ[j]? with
        | none => rw [q] at e2; cases e2
        | some o => rw [q] at e2; cases o with
          | none => cases e2
          | some w => cases e2; rfl
      have hm := List.mem_of_getElem? e1
      obtain ⟨m, hn, hl⟩ := I.loc
      have hout := hc.out y hm
      obtain ⟨u, r, l⟩ := hl j y v eN e4 (.inr hout)
      refine ⟨u, r, .inr ⟨relabel_free (hc.inn y hm), ?_⟩⟩
      obtain ⟨c, hcl2⟩ := hhas (y, .free) (PySem.mem_of_lookup (hc.inn y hm)) rfl
      refine ⟨c, hcl2, ?_⟩
      rcases l with ⟨l, _⟩ | ⟨_, c', e5, z⟩
      · rcases hout with h | h <;> (rw [h] at l; cases l)
      · have := hcl y c hcl2
        rw [e5] at this; cases this
        obtain ⟨o, ho, hd⟩ := z
        exact ⟨o, kp _ o ho, hd⟩
  cell := fun y c e => by
    obtain ⟨v, o, ho, hd⟩ := I.cell y c (hcl y c e)
    exact ⟨v, o, kp _ o ho, hd⟩
  free := I.hok.fresh hC
  freeC := fun y c e => I.freeC y c (hcl y c e)
  pin := fun p hp => absurd (show p ∈ ([] : List (Addr × Obj)) from hp) (by simp)
  hok := I.hok.kept kp
  len := by simp [compX, capS, hc.len]
theorem comp_back {X':Cx} {pl:List (Addr × Obj)} {σ':St} {H':Hp} {s':Shared} (I:L2.Inv X pins σ H s) (hX:X' = compX X scope N cl C s H ex) (hC:s.heap.objs.size <= C) (hex:∀ b ∈ ex, FpOk X pins H b /\ b < s.heap.objs.size)
    (I':L2.Inv X' pl σ' H' s') : L2.Inv X pins σ H' s' /\ FpOk X pins H' C := by
  subst hX
  refine ⟨I.call' (ch := ex) I'.os I'.base I'.hok I'.bare fun b hb => ?_, I.fpOk hC I'.free⟩
  obtain ⟨_, h2, h3, h4, h5, h6⟩ := (hex b hb).1
  exact ⟨h4, h2, h5, h6⟩
theorem inv_but {H:Hp} {h':Heap} (I:L2.Inv X pins σ H s) (hf:FpOk X pins H C) (sb:Heap.SameBut C s.heap h') : L2.Inv X pins σ H { s with heap := h' } :=
  I.turned (t' := s.toks) (it := C) (fun b o hb e => (sb.2 b hb).trans e) hf.1 hf.2.1 hf.2.2.2.1 hf.2.2.2.2.1 hf.2.2.2.2.2
end
end L3
namespace L3
open PySem PySem.Spec PyProof.Rows L2
section
variable {X:Cx} {pins:List (Addr × Obj)} {σ:St} {H3:Hp} {s3:Shared} {scope:Scope} {tg:Expr} {tN:List Str} {capN:List Str} {cl:List (Str × Addr)} {C:Addr} {fp:List Addr} {elt iter:Expr} {pos:Pos} {ifs:List Expr}
def PTs (X:Cx) (ifs:List Expr) (tt:TT) : Prop := ∀ (pins:List (Addr × Obj)) (s:Shared) (σ:St) (H:Hp) (Q:Bool -> Hp -> Prop), L2.Inv X pins σ H s -> tt σ H Q ->
  wpAny (model X.prog X.w) X.A (forIn ifs true fun c r => if r = true then do let ok <- isTrue c X.env (eval c X.env); pure (ForInStep.yield ok) else pure (ForInStep.yield r)) (TP X pins σ Q) X.xe s
theorem pts_nil:PTs X [] (fun _ H Q => Q true H) := fun _ _ σ H Q I q => wpAny_tests_nil ⟨H, I, q⟩
theorem pts_one {c:Expr} {tt:TT} (h:PT X c tt) : PTs X [c] tt := fun pins s σ H Q I q => wpAny_tests_one (h pins s σ H Q I q)
theorem comp_loop {J:It} {it Dl:Addr} {tn:Nat -> Heap -> Prop} {X':Cx} (hX:X' = compX X scope (tN ++ capN) cl C s3 H3 fp) (T:Turn X.prog X.w X.K tg J fp it tn) (hcalm:X.calm = true)
    {σc:St} {s4:Shared} (I4:L2.Inv X' [] (List.replicate tN.length none ++ σc) H3 s4) (hlen:X'.N.length = tN.length + σc.length) (st4:tn 0 s4.heap) (hf:∀ b ∈ fp, FpOk X' [] H3 b)
    {tt:TT} {te:TE} {gt:TG} (hg:PG X' tg gt) (ht:PTs X' ifs tt) (he:PE X' elt te)
    (W:Nat -> Nat -> List V -> Hp -> Prop) (Fin:List V -> Hp -> Prop) (w0:∃ m, W 0 m [] H3)
    (turn:∀ i m acc H, W i m acc H -> H Dl = some (.lst acc) /\ ((J.stop i H /\ Fin acc H) \/ (J.go i H /\ ∀ xv H' o, J.yld i H xv H' -> o.length = tN.length -> gt xv (o ++ σc) H' fun σ2 H1 => (∀ j:Nat, tN.length <= j -> σ2[j]? = (o ++ σc)[j]?) /\ tt σ2 H1 fun b H2 => if b = true then
      te σ2 H2 fun y H5 => H5 Dl = some (.lst acc) /\ acc.length < sizeLine /\ ∃ m', m' < m /\ W (i + 1) m' (acc ++ [y]) (upd H5 Dl (.lst (acc ++ [y]))) else ∃ m', m' < m /\ W (i + 1) m' acc H2)))
    (R:Result -> Shared -> Prop) (hR:∀ σ' H' acc s', L2.Inv X' [] σ' H' s' -> H' Dl = some (.lst acc) -> Fin acc H' -> R (.ok .next) s') :
    codeAny (model X.prog X.w) X.A (.compLoop (.ListComp elt [⟨tg, iter, ifs, 0⟩] scope pos) 0 (.ref it) (.ref Dl) (compEnvC scope cl C X.env)) R s4 := by
  obtain ⟨m0, w0⟩ := w0
  have eA:X'.A = X.A := by rw [hX]; rfl
  have eP:X'.prog = X.prog := by rw [hX]; rfl
  have eW:X'.w = X.w := by rw [hX]; rfl
  have eK:X'.K = X.K := by rw [hX]; rfl
  have eE:X'.env = compEnvC scope cl C X.env := by rw [hX]; rfl
  have eX:X'.xe = fun _ _ => False := by rw [hX]; rfl
  have eC:X'.calm = true := by rw [hX]; exact hcalm
  have stat:∀ {H':Hp}, (∀ b ∈ fp, H' b = none) -> ∀ b ∈ fp, FpOk X' [] H' b := fun hn b hb => ⟨hn b hb, (hf b hb).2⟩
  refine codeAny_loop rfl (fun n s => ∃ i o acc H, L2.Inv X' [] (o ++ σc) H s /\ o.length = tN.length /\ tn i s.heap /\ (∀ b ∈ fp, H b = none) /\ W i n acc H) ?_ m0 ⟨0, List.replicate tN.length none, [], H3, I4, by simp, st4, fun b hb => (hf b hb).1, w0⟩
  rintro n s5 ⟨i, o, acc, H5, I5, lo, st5, fr5, w5⟩
  show wpAny _ X.A ((compTurn (.ListComp elt [⟨tg, iter, ifs, 0⟩] scope pos) 0 (.ref it) (.ref Dl) (compEnvC scope cl C X.env)).onRaise (fun x => do noteFrame x (compEnvC scope cl C X.env); theTreesLotGoes x)) _ _ s5
  refine wpAny_noted ?_
  rw [compTurn_list]
  obtain ⟨hD, alt⟩ := turn i n acc H5 w5
  rcases alt with ⟨stop, fin⟩ | ⟨go, step⟩
  · refine wpAny_bind (wpAny_standAt (wpAny_bind (wpAny_mono (eA ▸ T.done X' eP eW eK eC i [] s5 _ H5 _ I5 (stat fr5) st5 stop) (fun r s6 ⟨hr, I6⟩ => ?_) fun _ _ z => z)))
    subst hr
    exact wpAny_pure (hR _ H5 acc s6 I6 hD fin)
  · refine wpAny_bind (wpAny_standAt (wpAny_bind (wpAny_mono (eA ▸ T.item X' eP eW eK eC i [] s5 _ H5 _ I5 (stat fr5) st5 go) (fun r s6 ⟨u, hr, h6⟩ => ?_) fun _ _ z => z)))
    subst hr
    refine wpAny_bind (wpAny_mono h6 (fun _ s7 ⟨xv, H7, I7, r7, y7, st7, fr7⟩ => ?_) fun _ _ z => z)
    have I7' := I7.pinned (stat fr7) (T.obj _ _ st7)
    have hg' := hg _ s7 _ H7 xv u _ I7' r7 (step xv H7 o y7 lo)
    rw [eP, eW, eA, eE, eX] at hg'
    refine wpAny_bind (wpAny_mono hg' (fun _ s8 ⟨σ8, H8, I8, shp, q8⟩ => ?_) fun _ _ z => z.elim)
    obtain ⟨o2, lo2, eσ⟩ : ∃ o2:St, o2.length = tN.length /\ σ8 = o2 ++ σc := by
      have l8:σ8.length = tN.length + σc.length := I8.len.trans hlen
      refine ⟨σ8.take tN.length, by rw [List.length_take]; omega, ?_⟩
      have ed:σ8.drop tN.length = σc := by
        apply List.ext_getElem?
        intro j
        rw [List.getElem?_drop, shp (tN.length + j) (by omega), List.getElem?_append_right (by omega), lo, Nat.add_sub_cancel_left]
      rw [<- ed, List.take_append_drop]
    subst eσ
    have ht' := ht _ s8 _ H8 _ I8 q8
    rw [eP, eW, eA, eE, eX] at ht'
    refine wpAny_bind (wpAny_mono ht' (fun ok s9 ⟨H9, I9, q9⟩ => ?_) fun _ _ z => z.elim)
    have again:∀ {s':Shared} {H':Hp}, L2.Inv X' ([] ++ pinsAt fp s7.heap) (o2 ++ σc) H' s' -> L2.Inv X' [] (o2 ++ σc) H' s' /\ tn (i + 1) s'.heap /\ ∀ b ∈ fp, H' b = none := fun {s' H'} J' => by
      refine ⟨J'.unpinned, T.keep _ _ _ st7 fun b hb ob e => (J'.pin (b, ob) (List.mem_append_right _ (List.mem_append_right _ (mem_pinsAt hb e)))).1, fun b hb => ?_⟩
      obtain ⟨ob, e, d⟩ := T.obj _ _ st7 b hb
      exact (J'.pin (b, ob) (List.mem_append_right _ (List.mem_append_right _ (mem_pinsAt hb e)))).2.1
    cases ok with
    | false =>
      obtain ⟨m', hm, w9⟩ := (show ∃ m', m' < n /\ W (i + 1) m' acc H9 from by simpa using q9)
      obtain ⟨a1, a2, a3⟩ := again I9
      exact wpAny_pure ⟨rfl, m', hm, i + 1, o2, acc, H9, a1, lo2, a2, a3, w9⟩
    | true =>
      have q9:te (o2 ++ σc) H9 fun y H5 => H5 Dl = some (.lst acc) /\ acc.length < sizeLine /\ ∃ m', m' < n /\ W (i + 1) m' (acc ++ [y]) (upd H5 Dl (.lst (acc ++ [y]))) := by simpa using q9
      have he' := he _ s9 _ H9 _ I9 q9
      rw [eP, eW, eA, eE, eX] at he'
      refine wpAny_bind (wpAny_bind (wpAny_mono he' (fun v s10 ⟨y, H10, I10, ry, eD, hl, m', hm, w10⟩ => ?_) fun _ _ z => z.elim))
      have hm' := mt_append (X := X') _ s10 _ H10 (.ref Dl) [y] (.ref Dl) [v] (fun w H' => w = .non /\ H' = upd H10 Dl (.lst (acc ++ [y]))) I10 rfl (.cons ry .nil) ⟨Dl, acc, y, rfl, rfl, eD, hl, rfl, rfl⟩
      rw [eP, eW, eA, eX] at hm'
      refine wpAny_bind (wpAny_mono hm' (fun _ s11 ⟨w, H11, I11, _, _, eH⟩ => ?_) fun _ _ z => z.elim)
      subst eH
      obtain ⟨a1, a2, a3⟩ := again I11
      exact wpAny_pure (wpAny_pure ⟨rfl, m', hm, i + 1, o2, acc ++ [y], _, a1, lo2, a2, a3, w10⟩)
end
end L3
namespace L3
open PySem PySem.Spec PyProof.Rows L2
structure CScope (X:Cx) (scope:Scope) (tN:List Str) (capN:List Str) (caps:List Nat) : Prop where
  kind:scope.kind = .function
  ncell:∀ y ∈ scope.names, y.2 ≠ .cell
  names:∀ y ∈ scope.names, y.2 = .local -> scope.names.lookup y.1 = some .local
  own:∀ x ∈ tN, scope.names.lookup x = some .local
  free:∀ y ∈ scope.names, y.2 = .free -> X.env.kindOf y.1 = some .cell \/ X.env.kindOf y.1 = some .free
  cap:Caps X scope capN caps
  nd:(tN ++ capN).Nodup
section
variable {X:Cx} {pins:List (Addr × Obj)} {σ:St} {H:Hp} {s:Shared} {scope:Scope} {tg:Expr} {tN:List Str} {capN:List Str} {caps:List Nat} {elt iter:Expr} {pos:Pos} {ifs:List Expr} {wi:TI}
def CompGoal (X:Cx) (scope:Scope) (tg:Expr) (tN:List Str) (capN:List Str) (caps:List Nat) (elt:Expr) (ifs:List Expr) (σ:St) (Fin:Addr -> List V -> Hp -> Prop) (J:It) (H2:Hp) : Prop :=
  ∀ (Dl:Addr), H2 Dl = none -> ∀ (cl:List (Str × Addr)) (C:Addr) (s3:Shared) (fp:List Addr), ∃ (gt:TG) (tt:TT) (te:TE) (W:Nat -> Nat -> List V -> Hp -> Prop),
    PG (compX X scope (tN ++ capN) cl C s3 (upd H2 Dl (.lst [])) fp) tg gt /\ PTs (compX X scope (tN ++ capN) cl C s3 (upd H2 Dl (.lst [])) fp) ifs tt /\ PE (compX X scope (tN ++ capN) cl C s3 (upd H2 Dl (.lst [])) fp) elt te /\ (∃ m, W 0 m [] (upd H2 Dl (.lst []))) /\
    ∀ i m acc H, W i m acc H -> H Dl = some (.lst acc) /\ ((J.stop i H /\ Fin Dl acc H) \/ (J.go i H /\ ∀ xv H' (o:St), J.yld i H xv H' -> o.length = tN.length -> gt xv (o ++ capS σ caps) H' fun σ2 H1 => (∀ j:Nat, tN.length <= j -> σ2[j]? = (o ++ capS σ caps)[j]?) /\ tt σ2 H1 fun b H2 => if b = true then
      te σ2 H2 fun y H5 => H5 Dl = some (.lst acc) /\ acc.length < sizeLine /\ ∃ m', m' < m /\ W (i + 1) m' (acc ++ [y]) (upd H5 Dl (.lst (acc ++ [y]))) else ∃ m', m' < m /\ W (i + 1) m' acc H2))
theorem comp_core {use:Option (Value -> Sem Unit)} {Qv:Value -> Shared -> Prop} {Fin:Addr -> List V -> Hp -> Prop} (hc:X.calm = true) (S:CScope X scope tN capN caps) (I:L2.Inv X pins σ H s) (hi:PI X tg iter wi)
    (h:wi σ H (CompGoal X scope tg tN capN caps elt ifs σ Fin))
    (hu:∀ (Dl C:Addr) (acc:List V) (H':Hp) (s':Shared), L2.Inv X pins σ H' s' -> FpOk X pins H' C -> H' Dl = some (.lst acc) -> Fin Dl acc H' -> (∃ m, s'.heap.Ns C m) -> compPost (model X.prog X.w) X.A X.xe use Qv (.ref Dl) C (.ok .next) s')
    (hs:∀ x, foldedSetIterable iter X.env x = pure x := by intro _; rfl) :
    wpAny (model X.prog X.w) X.A (comprehension (.ListComp elt [⟨tg, iter, ifs, 0⟩] scope pos) scope X.env (firstIterPos [⟨tg, iter, ifs, 0⟩] pos) (newList []) false (eval iter X.env) use) Qv X.xe s := by
  obtain ⟨cl, ecl, hcl, hhas⟩ := closureFor_of (scope := scope) (env := X.env) fun y hy hf => I.ok.has y.1 (S.free y hy hf)
  refine wpAny_comprehension_free rfl hs ecl S.kind S.names (thn (hi pins s σ H _ I h) fun v s1 h1 => thn h1 fun itv s2 h2 => ?_)
  obtain ⟨it, fp, tn, J, H2, rfl, I2, T, st2, f2, goal⟩ := h2
  refine wpAny_newObj_type (wpAny_newFunctionEnv S.ncell (by intro y hy; simp at hy) (fun h₁ hns₁ hsb₁ => ?_) S.kind)
  dsimp only at hns₁ hsb₁ ⊢
  have hD:H2 s2.heap.objs.size = none := I2.hok.fresh (Nat.le_refl _)
  have I3 : L2.Inv X pins σ (upd H2 s2.heap.objs.size (.lst [])) { s2 with heap := s2.heap.push { cls := .type "list", dict := none, data := .seq ([] : List Value).toArray } } :=
    I2.laid (t' := s2.toks) (fun b u e => Heap.get?_push_of_some _ e) (Nat.le_refl _) ⟨Nat.zero_le _, [], 0, .nil, Heap.get?_push_size _ rfl⟩
  generalize hs3 : ({ s2 with heap := s2.heap.push { cls := .type "list", dict := none, data := .seq ([] : List Value).toArray } } : Shared) = s3 at I3
  have e3 : s2.heap.push { cls := .type "list", dict := none, data := .seq ([] : List Value).toArray } = s3.heap := by rw [<- hs3]
  rw [e3] at hns₁ hsb₁ ⊢
  have kp:∀ b o, s3.heap.get? b = some o -> h₁.get? b = some o := fun b o e => hsb₁.extBut b o (Nat.ne_of_lt (Heap.lt_size e)) (Heap.get?_push_of_some _ e)
  have k23:∀ b o, s2.heap.get? b = some o -> s3.heap.get? b = some o := fun b o e => by rw [<- e3]; exact Heap.get?_push_of_some _ e
  have hex:∀ b ∈ fp, FpOk X pins (upd H2 s2.heap.objs.size (.lst [])) b /\ b < s3.heap.objs.size := fun b hb => by
    obtain ⟨o, ho, _⟩ := T.obj 0 _ st2 b hb
    have hlt:b < s2.heap.objs.size := Heap.lt_size ho
    refine ⟨⟨?_, (f2 b hb).2⟩, Heap.lt_size (k23 b o ho)⟩
    rw [upd_ne (Nat.ne_of_lt hlt)]
    exact (f2 b hb).1
  have es:({ s2 with heap := h₁, toks := s2.toks + ([] : List (Str × Value)).length } : Shared) = { s3 with heap := h₁, toks := s2.toks + ([] : List (Str × Value)).length } := by rw [<- hs3]
  have I4:L2.Inv (compX X scope (tN ++ capN) cl s3.heap.objs.size s3 (upd H2 s2.heap.objs.size (.lst [])) fp) [] (List.replicate tN.length none ++ capS σ caps) (upd H2 s2.heap.objs.size (.lst [])) { s3 with heap := h₁, toks := s2.toks + ([] : List (Str × Value)).length } :=
    comp_inv I3 S.kind S.ncell hcl hhas (Nat.le_refl _) hex S.cap kp hns₁
  obtain ⟨gt, tt, te, W, hg, ht, he, w0, turn⟩ := goal s2.heap.objs.size hD cl s3.heap.objs.size s3 fp
  have st4:tn 0 h₁ := T.keep 0 _ _ st2 fun b hb o e => kp b o (k23 b o e)
  have f4:∀ b ∈ fp, FpOk (compX X scope (tN ++ capN) cl s3.heap.objs.size s3 (upd H2 s2.heap.objs.size (.lst [])) fp) [] (upd H2 s2.heap.objs.size (.lst [])) b := fun b hb => by
    obtain ⟨f, hlt⟩ := hex b hb
    refine ⟨f.1, Nat.ne_of_lt hlt, fun hfs => ?_, .inl hb, fun y c e => f.2.2.2.2.1 y c (hcl y c e), fun p hp => absurd (show p ∈ ([] : List (Addr × Obj)) from hp) (by simp)⟩
    rcases List.mem_cons.mp (I3.stkSub b hfs) with z | z
    · exact f.2.1 z
    · exact f.2.2.1 z
  have loop:codeAny (model X.prog X.w) X.A (.compLoop (.ListComp elt [⟨tg, iter, ifs, 0⟩] scope pos) 0 (.ref it) (.ref s2.heap.objs.size) (compEnvC scope cl s3.heap.objs.size X.env)) (compPost (model X.prog X.w) X.A X.xe use Qv (.ref s2.heap.objs.size) s3.heap.objs.size)
      { s3 with heap := h₁, toks := s2.toks + ([] : List (Str × Value)).length } := by
    refine comp_loop rfl T hc I4 (by show (tN ++ capN).length = _; simp [capS, S.cap.len]) st4 f4 hg ht he W (Fin s2.heap.objs.size) w0 turn _ fun σ' H' acc s' I' hD' fin => ?_
    obtain ⟨Io, fo⟩ := comp_back I3 rfl (Nat.le_refl _) hex I'
    obtain ⟨m', hn', _⟩ := I'.loc
    exact hu _ _ acc H' s' Io fo hD' fin ⟨m', hn'⟩
  rw [es]
  exact codeAny_compStart_list loop (T.self _ 0 _ _ _ st4 loop)
theorem pe_compS {Q:VK} (hc:X.calm = true) (S:CScope X scope tN capN caps) (I:L2.Inv X pins σ H s) (hi:PI X tg iter wi) (h:wi σ H (CompGoal X scope tg tN capN caps elt ifs σ fun Dl _ H' => Q (.ref Dl) H'))
    (hs:∀ x, foldedSetIterable iter X.env x = pure x := by intro _; rfl) : wpAny (model X.prog X.w) X.A (eval (.ListComp elt [⟨tg, iter, ifs, 0⟩] scope pos) X.env) (EP X pins σ Q) X.xe s := by
  rw [eval_ListComp]
  refine comp_core (use := none) hc S I hi h (fun Dl C acc H' s' Io fo hD fin hn => ?_) hs
  obtain ⟨m, hn⟩ := hn
  exact ⟨m, hn, fun h' sb => ⟨.ref Dl, H', inv_but Io fo sb, rfl, fin⟩⟩
theorem ps_compS {D:Ends} {i:Nat} {y:Str} {py spos:Pos} (hc:X.calm = true) (S:CScope X scope tN capN caps) (hN:X.N.Nodup) (hi':X.N[i]? = some y) (hy:X.env.scope.names.lookup y = some .local)
    (hsw:swapsWith (.ListComp elt [⟨tg, iter, ifs, 0⟩] scope pos) (some (.Name y py)) spos.line X.env = pure true) (I:L2.Inv X pins σ H s) (hi:PI X tg iter wi)
    (h:wi σ H (CompGoal X scope tg tN capN caps elt ifs σ fun Dl _ H' => D.nx (σ.set i (some (.ref Dl))) H')) (hs:∀ x, foldedSetIterable iter X.env x = pure x := by intro _; rfl) :
    wpAny (model X.prog X.w) X.A (exec (.Assign [.Name y py] (.ListComp elt [⟨tg, iter, ifs, 0⟩] scope pos) spos) X.env) (SP X pins D) X.xe s := by
  rw [exec_Assign_Name_used _ _ _ _ hsw]
  refine wpAny_bind (wpAny_standAt (wpAny_bind ?_))
  show wpAny _ X.A (do let _ <- comprehension (.ListComp elt [⟨tg, iter, ifs, 0⟩] scope pos) scope X.env _ (newList []) false (eval iter X.env) (some (assign (.Name y py) X.env))) _ _ s
  refine wpAny_bind (wpAny_mono (comp_core (use := some (assign (.Name y py) X.env)) (Qv := fun _ s' => SP X pins D .next s') hc S I hi h (fun Dl C acc H' s' Io fo hD fin hn => ?_) hs) (fun _ s' hq => wpAny_pure (wpAny_pure hq)) fun _ _ e => e)
  obtain ⟨m, hn⟩ := hn
  show wpAny _ X.A (assign (.Name y py) X.env (.ref Dl)) _ _ _
  refine wpAny_assign_Name (store_ok2 (v := .ref Dl) Io hN hi' (.inl hy) rfl (fun s'' I'' ⟨a, sb, ha⟩ => ?_) (.inr hy))
  have nca:C ≠ a := by
    rcases ha with z | z
    · rw [z]; exact fo.2.1
    · exact Ne.symm (fo.2.2.2.2.1 y a z)
  refine ⟨m, hn.sameBut sb nca, fun h' sb' => ?_⟩
  exact ⟨_, H', inv_but I'' fo sb', fin⟩
end
end L3
namespace L3
open PySem PySem.Spec PyProof.Rows L2
def Res.noX {α:Type} : Res α -> Res α
  | .exc _ => .stuck
  | r => r
def capE (env:En) (j:Nat) : Option Sl := match env[j]? with
  | some (some (.val d fr)) => some (.val d fr)
  | some (some (.own ds fr)) => some (.val (.lst ds) fr)
  | some (some (.tre d)) => some (.val d true)
  | _ => none
def envB (env:En) (n:Nat) (caps:List Nat) : En := List.replicate n none ++ caps.map (capE env)
def compD (mk:D -> Option En) (test:En -> Res Bool) (elt:En -> Res R) : List D -> Res (List R)
  | [] => .ok []
  | x :: xs => match mk x with
    | none => .stuck
    | some e => (test e).bind fun b => if b then (elt e).bind fun r => (compD mk test elt xs).bind fun rs => .ok (r :: rs) else compD mk test elt xs
def vComp (n:Nat) (caps:List Nat) (src:En -> Res Src) (asg:D -> Bool -> En -> Option En) (test:En -> Res Bool) (elt:En -> Res R) : En -> Res R := fun env => (src env).bind fun s => if s.xs.length <= lim then
  (compD (fun d => asg d s.fr (envB env n caps)) test elt s.xs).noX.bind fun rs => .ok (mkL (rs.map R.d) (rfrs rs) (s.al ++ caps.filter (isOwn env))) else .stuck
def PTsD (X:Cx) (E:XK) (ifs:List Expr) (f:En -> Res Bool) : Prop := ∃ t, PTs X ifs t /\ SndT X.mg E t f
section
variable {X:Cx} {E:XK}
theorem ptsd_nil:PTsD X E [] (fun _ => .ok true) := ⟨_, pts_nil, fun g M ρ env σ H Q rep p => p M H (Ext.refl _ _) rep⟩
theorem ptsd_one {c:Expr} {f:En -> Res Bool} (h:PTD X E c f) : PTsD X E [c] f := let ⟨t, a, b⟩ := h; ⟨t, pts_one a, b⟩
end
section
variable {g:Gd} {M M1:Addr -> Prop} {ρ:Pr} {env:En} {σ:St} {H H1:Hp}
theorem rep_I {n:Nat} {caps:List Nat} {M':Addr -> Prop} {o:St} (rep:Rep g M1 ρ env σ H1) (s:Same H1 H) (ho:o.length = n) (hM:∀ a, (M1 a \/ ∃ i, i ∈ caps /\ ρ i a) -> M' a) (hf:∀ a, M' a -> H a ≠ none) (hi:∀ a, M' a -> g.H₀ a = none \/ g.Ma a) (hfl:∀ a, M' a -> g.H₀ a = none -> MuZ g H a) :
    Rep g M' (fun _ _ => False) (envB env n caps) (o ++ capS σ caps) H where
  same := rep.same.trans s
  froz := hf
  inn := hi
  fl := hfl
  slot := fun i sl e => by
    by_cases hlt:i < n
    · unfold envB at e
      rw [List.getElem?_append_left (by simpa using hlt), List.getElem?_replicate, if_pos hlt] at e
      cases e
    · obtain ⟨k, rfl⟩ : ∃ k, i = n + k := ⟨i - n, by omega⟩
      have e:(caps.map (capE env))[k]? = some (some sl) := by
        unfold envB at e
        rwa [List.getElem?_append_right (by simp), List.length_replicate, Nat.add_sub_cancel_left] at e
      rw [List.getElem?_map] at e
      cases q:caps[k]? with
      | none => rw [q] at e; cases e
      | some j =>
        rw [q] at e
        have e:capE env j = some sl := by simpa using e
        have hj:j ∈ caps := List.mem_of_getElem? q
        unfold capE at e
        cases q2:env[j]? with
        | none => rw [q2] at e; cases e
        | some o =>
          cases o with
          | none => rw [q2] at e; cases e
          | some sl0 =>
            obtain ⟨v, ev, k2⟩ := rep.slot j sl0 q2
            have el:(o ++ capS σ caps)[n + k]? = some (some v) := by
              rw [List.getElem?_append_right (by omega), ho, Nat.add_sub_cancel_left]
              unfold capS
              rw [List.getElem?_map, q]
              simp [ev]
            rw [q2] at e
            cases sl0 with
            | val d' fr' =>
              cases e
              exact ⟨v, el, Is.mono (fun a o q _ => s a o q) (fun a _ _ z => ⟨hM a (.inl z.1), z.2⟩) k2⟩
            | own ds' fr' =>
              cases e
              obtain ⟨a, vs, rfl, h1, h2, h4⟩ := k2
              have ha := (h2 a).mpr rfl
              exact ⟨_, el, a, vs, rfl, .inl ⟨s _ _ h1, hM a (.inr ⟨j, hj, ha⟩), fun _ => (rep.priv j a ha).2.1⟩, IsAll.mono (fun a o q _ => s a o q) (fun a _ _ z => ⟨hM a (.inl z.1), z.2⟩) h4⟩
            | tre d' =>
              cases e
              exact ⟨v, el, Is.mono (fun a o q _ => s a o q) (fun a _ _ z => ⟨hM a (.inr ⟨j, hj, z⟩), fun _ => (rep.priv j a z).2.1⟩) k2⟩
            | mes d' => cases e
  priv := fun _ _ z => z.elim
  apart := fun _ _ _ z => z.elim
  ow := fun _ _ z => z.elim
  len := by simp [envB, capS, ho]
  zz := fun a z e => rep.zz a z (s.free e)
end
def tComp (X:Cx) (scope:Scope) (tg:Expr) (tN:List Str) (capN:List Str) (caps:List Nat) (elt:Expr) (ifs:List Expr) (wi:TI) : TE := fun σ H Q => wi σ H (CompGoal X scope tg tN capN caps elt ifs σ fun Dl _ H' => Q (.ref Dl) H')
section
variable {X:Cx} {E:XK} {scope:Scope} {tg:Expr} {tN:List Str} {capN:List Str} {caps:List Nat} {ix:List Nat} {asg:D -> Bool -> En -> Option En} {elt iter:Expr} {pos:Pos} {ifs:List Expr} {wi:TI} {src:En -> Res Src} {ft:En -> Res Bool} {fe:En -> Res R}
theorem snd_comp (si : SndI X.mg E wi src) (hix : ∀ j ∈ ix, j < tN.length) (hg : ∀ cl C s3 H3 fp, PGD (compX X scope (tN ++ capN) cl C s3 H3 fp) ix tg asg) (ht : ∀ cl C s3 H3 fp, PTsD (compX X scope (tN ++ capN) cl C s3 H3 fp) E0 ifs ft) (he : ∀ cl C s3 H3 fp, PD (compX X scope (tN ++ capN) cl C s3 H3 fp) E0 elt fe) :
    Snd X.mg E (tComp X scope tg tN capN caps elt ifs wi) (vComp tN.length caps src asg ft fe) := by
  intro g M ρ env σ H Q rep p
  refine si g M ρ env σ H _ rep ?_
  unfold vComp at p
  cases q:src env with
  | stuck => rw [q] at p; exact p
  | exc c => rw [q] at p; exact p
  | ok s =>
    rw [q] at p
    simp only [Res.bind_ok] at p
    intro J M1 H1 e1 rep1 wk Dl hDl cl C s3 fp
    by_cases hlim:s.xs.length <= lim
    · rw [if_pos hlim] at p
      cases qc:compD (fun d => asg d s.fr (envB env tN.length caps)) ft fe s.xs with
      | stuck => rw [qc] at p; exact p.elim
      | exc c => rw [qc] at p; exact p.elim
      | ok full =>
        rw [qc] at p
        have p:PostE X.mg E g M1 ρ env σ H1 Q (.ok (mkL (full.map R.d) (rfrs full) (s.al ++ caps.filter (isOwn env)))) := PostE.ext e1 p
        obtain ⟨gt, pg, sg⟩ := hg cl C s3 (upd H1 Dl (.lst [])) fp
        obtain ⟨tt, pt, st⟩ := ht cl C s3 (upd H1 Dl (.lst [])) fp
        obtain ⟨te, pe, se⟩ := he cl C s3 (upd H1 Dl (.lst [])) fp
        obtain ⟨d0, dm, dow⟩ := rep1.free hDl
        refine ⟨gt, tt, te, fun i m acc H => m = s.xs.length - i /\ i <= s.xs.length /\ ∃ (M':Addr -> Prop) (rs rest:List R), Same H1 H /\ H Dl = some (.lst acc) /\ (∀ a, (M1 a \/ ∃ j, j ∈ s.al ++ caps /\ ρ j a) -> M' a) /\
          (∀ a, M' a -> (M1 a \/ ∃ j, j ∈ s.al ++ caps /\ ρ j a) \/ H1 a = none) /\ ¬ M' Dl /\ (∀ a, M' a -> H a ≠ none) /\ (∀ a, M' a -> g.H₀ a = none -> MuZ g H a) /\ rs.length <= i /\ IsAll H (msk g M' (rfrs rs)) (rs.map R.d) acc /\ compD (fun d => asg d s.fr (envB env tN.length caps)) ft fe (s.xs.drop i) = .ok rest /\ full = rs ++ rest,
          pg, pt, pe, ⟨_, rfl, Nat.zero_le _, (fun a => M1 a \/ ∃ j, j ∈ s.al ++ caps /\ ρ j a), [], full, same_upd hDl, upd_same, fun _ z => z, fun _ z => .inl z, ?_, ?_, ?_, Nat.le_refl _, rfl, qc, rfl⟩, ?_⟩
        · rintro (z | ⟨j, _, z⟩)
          · exact dm z
          · exact dow j z
        · rintro a (z | ⟨j, _, z⟩) hn
          · exact rep1.froz a z ((same_upd hDl).free hn)
          · obtain ⟨_, _, uo, hz, _⟩ := rep1.priv j a z
            rw [(same_upd hDl) a _ hz] at hn; cases hn
        · rintro a (z | ⟨j, _, z⟩) h0
          · exact (rep1.fl a z h0).same fun o e => same_upd hDl _ _ e
          · exact .inl ((rep1.priv j a z).2.2.same fun o e => same_upd hDl _ _ e)
        · rintro i m acc H2 ⟨rfl, hle, M', rs, rest, sm, hD2, hMi, hMo, nD, frz2, fl2, hrs, isA, qr, efull⟩
          refine ⟨hD2, ?_⟩
          have kp:∀ a o, H1 a = some o -> (vmsk g M1 s.fr ρ s.al a \/ fixd o) -> H2 a = some o := fun a o e _ => sm a o e
          have inn2:∀ {M'':Addr -> Prop} {a:Addr}, (M1 a \/ ∃ j, j ∈ s.al ++ caps /\ ρ j a) \/ H1 a = none -> g.H₀ a = none \/ g.Ma a := fun {M'' a} z => by
            rcases z with (z | ⟨j, _, z⟩) | z
            · exact rep1.inn a z
            · exact .inl (rep1.priv j _ z).2.1
            · exact .inl (rep1.same.free z)
          by_cases hlt:i < s.xs.length
          · have ed:s.xs[i]? = some s.xs[i] := by simp [hlt]
            obtain ⟨go, yl⟩ := wk.go H2 i _ kp ed
            refine .inr ⟨go, fun xv H3 o y lo => ?_⟩
            obtain ⟨s23, isx⟩ := yl xv H3 y
            have edrop:s.xs.drop i = s.xs[i] :: s.xs.drop (i + 1) := List.drop_eq_getElem_cons hlt
            rw [edrop] at qr
            unfold compD at qr
            have isx':Is H3 (msk g M' s.fr) s.xs[i] xv := isx.weak fun a z => by
              rcases z with z | ⟨j, hj, z⟩
              · exact ⟨hMi a (.inl z.1), z.2⟩
              · exact ⟨hMi a (.inr ⟨j, by simp [hj], z⟩), fun _ => (rep1.priv j _ z).2.1⟩
            have repI:Rep g M' (fun _ _ => False) (envB env tN.length caps) (o ++ capS σ caps) H3 := rep_I rep1 (sm.trans s23) lo (fun a z => hMi a (z.imp id fun ⟨j, hj, w⟩ => ⟨j, by simp [hj], w⟩)) (fun a z hn => frz2 a z (s23.free hn)) (fun a z => inn2 (M'' := M') (hMo a z)) (fun a z h0 => (fl2 a z h0).same fun o e => s23 _ _ e)
            cases qa:asg s.xs[i] s.fr (envB env tN.length caps) with
            | none => simp only [qa] at qr; cases qr
            | some envT =>
            simp only [qa] at qr
            refine sg g M' _ _ envT _ H3 _ s.fr xv _ repI isx' qa fun σ2 ρ2 repT shp nρ => ⟨fun j hj => shp j fun z => absurd (hix j z) (by omega), ?_⟩
            refine st g M' ρ2 _ _ H3 _ repT ?_
            cases qt:ft envT with
            | stuck => rw [qt] at qr; cases qr
            | exc c => rw [qt] at qr; cases qr
            | ok b =>
              rw [qt] at qr
              intro M4 H4 e4 rep4
              cases b with
              | false =>
                refine iteF ⟨s.xs.length - (i + 1), by omega, rfl, hlt, M', rs, rest, (sm.trans s23).trans e4.h, e4.h _ _ (s23 _ _ hD2), hMi, hMo, nD, fun a z hn => frz2 a z (s23.free (e4.h.free hn)), fun a z h0 => (fl2 a z h0).same fun o e => e4.h _ _ (s23 _ _ e), by omega, ?_, by simpa using qr, efull⟩
                exact IsAll.same e4.h (IsAll.same s23 isA)
              | true =>
                refine iteT ?_
                simp only [Res.bind_ok, if_true] at qr
                refine se g M4 ρ2 _ _ H4 _ rep4 ?_
                cases qe:fe envT with
                | stuck => rw [qe] at qr; cases qr
                | exc c => rw [qe] at qr; cases qr
                | ok r =>
                  rw [qe] at qr
                  simp only [Res.bind_ok] at qr
                  cases qd:compD (fun d => asg d s.fr (envB env tN.length caps)) ft fe (s.xs.drop (i + 1)) with
                  | stuck => rw [qd] at qr; cases qr
                  | exc c => rw [qd] at qr; cases qr
                  | ok rest' =>
                    rw [qd] at qr
                    have qr:r :: rest' = rest := by simpa using qr
                    intro yv M5 H5 e5 rep5 ro
                    obtain ⟨M6, e6, m56, rep6, is6⟩ := ro.is rep5 e5 rep4.same
                    have D3:H3 Dl = some (.lst acc) := s23 _ _ hD2
                    have D4:H4 Dl = some (.lst acc) := e4.h _ _ D3
                    have D5:H5 Dl = some (.lst acc) := e5.h _ _ D4
                    have nD4:¬ M4 Dl := fun z => (e4.n Dl z).elim nD fun w => by rw [D3] at w; cases w
                    have nD6:¬ M6 Dl := fun z => (e6.n Dl z).elim nD4 fun w => by rw [D4] at w; cases w
                    have M46:∀ a, M4 a -> M6 a := e6.m
                    have up:∀ a o, H5 a = some o -> a ≠ Dl -> upd H5 Dl (.lst (acc ++ [yv])) a = some o := fun a o e n => by rw [upd_ne n]; exact e
                    have kp5:∀ (fr:Bool) a o, H5 a = some o -> (msk g M6 fr a \/ fixd o) -> upd H5 Dl (.lst (acc ++ [yv])) a = some o := fun fr a o e z => up a o e fun w => by
                      subst w
                      rcases z with z | z
                      · exact nD6 z.1
                      · rw [D5] at e; cases e; exact z
                    refine ⟨D5, ?_, s.xs.length - (i + 1), by omega, rfl, hlt, M6, rs ++ [r], rest', ?_, upd_same, fun a z => M46 a (e4.m a (hMi a z)), fun a z => ?_, nD6, fun a z => ?_, fun a z h0 => ?_, by simp; omega, ?_, qd, by rw [efull, <- qr]; simp⟩
                    · have:acc.length = rs.length := by rw [isA.length, List.length_map]
                      exact lim_lt (by omega)
                    · intro b o e
                      exact up b o (e5.h _ _ (e4.h _ _ (s23 _ _ (sm _ _ e)))) (ne_of_none e hDl)
                    · rcases e6.n a z with z | z
                      · rcases e4.n a z with z | z
                        · exact hMo a z
                        · exact .inr (sm.free (s23.free z))
                      · exact .inr (sm.free (s23.free (e4.h.free z)))
                    · by_cases hw:a = Dl
                      · rw [hw, upd_same]; simp
                      · rw [upd_ne hw]; exact rep6.froz a z
                    · have hw:a ≠ Dl := fun e => nD6 (e ▸ z)
                      exact (rep6.fl a z h0).same fun o e => by rw [upd_ne hw]; exact e
                    · rw [List.map_append]
                      refine IsAll.append ?_ ⟨yv, [], rfl, ?_, rfl⟩
                      · have i5:IsAll H5 (msk g M' (rfrs rs)) (rs.map R.d) acc := ((isA.same s23).same e4.h).same e5.h
                        refine (i5.weak fun a z => (⟨M46 a (e4.m a z.1), fun e => z.2 (by simp [rfrs] at e ⊢; exact e.1)⟩ : msk g M6 (rfrs (rs ++ [r])) a)).mono (kp5 _) fun _ _ _ z => z
                      · refine (is6.weak fun a z => ?_:Is H5 (msk g M6 (rfrs (rs ++ [r]))) r.d yv).mono (kp5 _) fun _ _ _ z => z
                        rcases z with z | ⟨j, _, z⟩
                        · exact ⟨z.1, fun e => z.2 (by simp [rfrs] at e; exact e.2)⟩
                        · exact (nρ _ _ z).elim
          · have ei:i = s.xs.length := by omega
            subst ei
            refine .inl ⟨wk.stop H2 kp, ?_⟩
            rw [List.drop_length] at qr
            unfold compD at qr
            cases qr
            rw [List.append_nil] at efull
            subst efull
            have RM:Rep g (fun a => M1 a \/ (nl H1 H2 a /\ M' a)) ρ env σ H2 := rep1.came sm M'
            have XM:Ext M1 H1 (fun a => M1 a \/ (nl H1 H2 a /\ M' a)) H2 := ⟨fun _ => .inl, sm, fun _ z => z.imp id (·.1.1)⟩
            have nDl:¬ (M1 Dl \/ (nl H1 H2 Dl /\ M' Dl)) := fun z => z.elim dm fun z => nD z.2
            have nwD:∀ b, V.ref Dl = .ref b -> H1 b = none := fun b e => by cases e; exact hDl
            unfold mkL at p
            by_cases hfl:D.flats (full.map R.d) = true
            · rw [if_pos hfl] at p
              exact p _ _ H2 XM RM ⟨Dl, acc, rfl, hD2, nDl, hDl, dow, IsAll.flat hfl isA⟩
            · rw [if_neg hfl] at p
              by_cases hal:(s.al ++ caps.filter (isOwn env)).isEmpty = true
              · rw [if_pos hal] at p
                refine p _ _ H2 XM RM ⟨Dl, acc, rfl, hD2, nDl, hDl, dow, isA.weak fun a z => ⟨?_, z.2⟩⟩
                rcases hMo a z.1 with (w | ⟨j, hj, w⟩) | w
                · exact .inl w
                · exfalso
                  have he:s.al ++ caps.filter (isOwn env) = [] := by simpa using hal
                  rcases List.mem_append.mp hj with hj | hj
                  · have:j ∈ s.al ++ caps.filter (isOwn env) := List.mem_append_left _ hj
                    rw [he] at this; simp at this
                  · have:j ∈ s.al ++ caps.filter (isOwn env) := List.mem_append_right _ (List.mem_filter.mpr ⟨hj, rep1.ow j a w⟩)
                    rw [he] at this; simp at this
                · exact .inr ⟨⟨w, (fl2 a z.1 (rep1.same.free w)).elim id fun q => (rep1.zz a q.1 w).elim⟩, z.1⟩
              · rw [if_neg hal] at p
                refine p _ (fun a => (M1 a \/ (nl H1 H2 a /\ M' a)) \/ a = Dl) H2 ⟨fun _ z => .inl (.inl z), sm, fun a z => z.elim (XM.n a) fun e => .inr (e ▸ hDl)⟩ (RM.more hD2 d0 dow) ⟨Dl, acc, rfl, .inl ⟨hD2, .inl ⟨.inr rfl, fun _ => d0⟩⟩, isA.weak fun a z => ?_⟩
                rcases hMo a z.1 with (w | ⟨j, hj, w⟩) | w
                · exact .inl ⟨.inl (.inl w), z.2⟩
                · refine .inr ⟨j, ?_, w⟩
                  rcases List.mem_append.mp hj with hj | hj
                  · exact List.mem_append_left _ hj
                  · exact List.mem_append_right _ (List.mem_filter.mpr ⟨hj, rep1.ow j a w⟩)
                · exact .inl ⟨.inl (.inr ⟨⟨w, (fl2 a z.1 (rep1.same.free w)).elim id fun q => (rep1.zz a q.1 w).elim⟩, z.1⟩), z.2⟩
    · rw [if_neg hlim] at p; exact p.elim
theorem pd_comp (hc:X.calm = true) (S:CScope X scope tN capN caps) (hi:PID X E tg iter src) (hix:∀ j ∈ ix, j < tN.length) (hg:∀ cl C s3 H3 fp, PGD (compX X scope (tN ++ capN) cl C s3 H3 fp) ix tg asg) (ht:∀ cl C s3 H3 fp, PTsD (compX X scope (tN ++ capN) cl C s3 H3 fp) E0 ifs ft) (he:∀ cl C s3 H3 fp, PD (compX X scope (tN ++ capN) cl C s3 H3 fp) E0 elt fe)
    (hs:∀ x, foldedSetIterable iter X.env x = pure x := by intro _; rfl) : PD X E (.ListComp elt [⟨tg, iter, ifs, 0⟩] scope pos) (vComp tN.length caps src asg ft fe) := by
  obtain ⟨wi, p1, s1⟩ := hi
  exact ⟨tComp X scope tg tN capN caps elt ifs wi, fun pins s σ H Q I h => pe_compS hc S I p1 h hs, snd_comp s1 hix hg ht he⟩
theorem psd_comp {i:Nat} {y:Str} {py spos:Pos} (hc:X.calm = true) (S:CScope X scope tN capN caps) (hN:X.N.Nodup) (hi':X.N[i]? = some y) (hy:X.env.scope.names.lookup y = some .local)
    (hi:PID X E tg iter src) (hix:∀ j ∈ ix, j < tN.length) (hg:∀ cl C s3 H3 fp, PGD (compX X scope (tN ++ capN) cl C s3 H3 fp) ix tg asg) (ht:∀ cl C s3 H3 fp, PTsD (compX X scope (tN ++ capN) cl C s3 H3 fp) E0 ifs ft) (he:∀ cl C s3 H3 fp, PD (compX X scope (tN ++ capN) cl C s3 H3 fp) E0 elt fe)
    (hsw:swapsWith (.ListComp elt [⟨tg, iter, ifs, 0⟩] scope pos) (some (.Name y py)) spos.line X.env = pure true := by rfl) (hs:∀ x, foldedSetIterable iter X.env x = pure x := by intro _; rfl) :
    PSD X E (.Assign [.Name y py] (.ListComp elt [⟨tg, iter, ifs, 0⟩] scope pos) spos) (fSet i (vComp tN.length caps src asg ft fe)) := by
  obtain ⟨wi, p1, s1⟩ := hi
  exact ⟨tAsg (tComp X scope tg tN capN caps elt ifs wi) (gName i), fun pins s σ H D I h => ps_compS hc S hN hi' hy hsw I p1 h hs, snd_set (snd_comp s1 hix hg ht he)⟩
end
end L3
namespace L3
open PySem PySem.Spec PyProof.Rows L2
def startE (N:List Str) (ds:List D) : En := ds.map (fun d => some (.val d false)) ++ List.replicate (N.length - ds.length) none
def retOf:Res Fl -> Res R
  | .ok (.nx _) => .ok (.val .non true [])
  | .ok (.rt r) => .ok r
  | .ok _ => .stuck
  | .exc c => .exc c
  | .stuck => .stuck
def runF (N:List Str) (FB:En -> Res Fl) (ds:List D) : Res R := retOf (FB (startE N ds))
theorem passE {X:Cx} {E:XK} : Passes CX0 X E := fun _ _ _ _ _ _ _ h => h.elim
theorem rep_start {H:Hp} {Ma:Addr -> Prop} {ds:List D} {vs:List V} {N:List Str} (is:IsAll H Ma ds vs) : Rep (mkG H Ma) (fun a => Ma a /\ H a ≠ none) (fun _ _ => False) (startE N ds) (L2.start N vs) H where
  same := Same.refl H
  froz := fun a z => z.2
  inn := fun a z => .inr z.1
  fl := fun a z h => absurd h z.2
  slot := fun i sl e => by
    have hl := is.length
    unfold startE at e
    by_cases hi:i < ds.length
    · rw [List.getElem?_append_left (by simpa using hi), List.getElem?_map] at e
      obtain ⟨v, ev, iv⟩ := is.get (i := i) (d := ds[i]) (by simp [hi])
      have e1:ds[i]? = some ds[i] := by simp [hi]
      rw [e1] at e
      cases e
      refine ⟨v, ?_, Is.mono (fun _ _ q _ => q) (fun a o q z => ⟨⟨z, by rw [q]; simp⟩, fun z => by cases z⟩) iv⟩
      unfold L2.start
      rw [List.getElem?_append_left (by simp; omega), List.getElem?_map, ev]; rfl
    · rw [List.getElem?_append_right (by simpa using hi), List.getElem?_replicate] at e
      split at e <;> cases e
  priv := fun _ _ z => z.elim
  apart := fun _ _ _ z => z.elim
  ow := fun _ _ z => z.elim
  len := by
    have hl := is.length
    unfold startE L2.start
    simp [hl]
  zz := fun _ z => z.elim
section
variable {P:Program} {w:World} {K:PySem.W.Frag} {mg:Str -> Option Value} {base:Heap}
theorem fn_D0 {x qual:Str} {st:Stmt} {f:Addr} {fd:FuncData} {N ps:List Str} {k:Nat} {FB:En -> Res Fl} (F:Fun K x qual st f fd) (S:FnScope N ps (defScope st))
    (body:∀ (cdv:Value) (A:Around) (outer:List Env) (s:Shared) (H:Hp) (E:XK), Room k (A.deeper (envOfC qual (defScope st) s.heap.objs.size f cdv)) -> PSsD (cxOf CX0 P w K mg base N qual (defScope st) f cdv A outer s H E).nox E (defBody st) FB) :
    FnOk P w K mg base CX0 (k + 1) f fd ps (spD mg ps.length (runF N FB)) := by
  refine F.ok S (fun vs H Q E h => h.1) (fun cdv A outer s H vs Q E hr h => ?_)
  obtain ⟨hl, ds, Ma, is, post⟩ := h
  obtain ⟨t, p1, s1⟩ := body cdv A outer s H E hr
  refine ⟨t, p1, s1 (mkG H Ma) _ _ (startE N ds) (L2.start N vs) H _ (rep_start is) ?_⟩
  unfold runF at post
  cases q:FB (startE N ds) with
  | stuck => rw [q] at post; exact post
  | exc c => rw [q] at post; exact post
  | ok r =>
    rw [q] at post
    cases r with
    | nx env => exact fun σ M' ρ' H' _ rep => post .non H' rep.same rfl
    | rt r => exact fun v H' s ro => post v H' s (ro fun _ z => z)
    | bk env => exact post.elim
    | ct env => exact post.elim
theorem FnOk.func {CX:CXT} {k:Nat} {f:Addr} {fd:FuncData} {ps:List Str} {n:Nat} {F G:List D -> Res R} (h:FnOk P w K mg base CX k f fd ps (spD mg n F)) (e:∀ ds, ds.length = n -> G ds ≠ .stuck -> F ds = G ds) : FnOk P w K mg base CX k f fd ps (spD mg n G) :=
  h.imp fun vs H Q E ⟨hl, ds, Ma, is, post⟩ => ⟨hl, ds, Ma, is, by
    rw [e ds (by rw [<- is.length]; exact hl) (fun z => by rw [z] at post; exact post)]
    exact post⟩
end
section
variable {X:Cx} {E:XK}
theorem sl_tupW:SlR X (fun x lo hi H Q => ∃ a xs, x = .ref a /\ SqT X.K H a xs /\ (HT.sIx xs.length 0 lo = 0 /\ HT.sIx xs.length xs.length hi = xs.length) /\ Q x H) := by
  intro pins s σ H x v vl vu lo hi sl Q I rx hs pl pu h
  obtain ⟨a, xs, rfl, hx, hw, q⟩ := h
  cases rx
  obtain ⟨its, r, ht, hz⟩ := I.tuple hx
  have hlen:its.toArray.size = xs.length := by rw [List.size_toArray]; exact r.length.symm
  refine ⟨"tuple", _, PyProof.Rows.slot_tuple_getitem.lookup, ht.typeIs, ?_⟩
  obtain ⟨os, hos, hcs, hds⟩ := id hs
  have hTs : s.TypeIs (.ref sl) "slice" := ⟨os, hos, hcs⟩
  unfold getItem
  try with_reducible refine wpAny_holding ?_
  first | refine wpAny_bind (wpAny_pure ?_) | skip
  refine wpAny_bind (wpAny_sequenceKey ht.typeIs (by decide) ?_)
  refine wpAny_bind (wpAny_callSpecial?_slot (name := Str.ofString "__getitem__") ht.typeIs PyProof.Rows.slot_tuple_getitem
    (wpAny_call_entry PyProof.Rows.slot_tuple_getitem ht.typeIs entry_tuple_getitem ?_ (args_tuple_getitem _ _)))
  show wpAny _ _ (Builtin.Tuple.tupleItemsOf (.ref a) >>= _) _ _ s
  refine wpAny_bind (tupleItemsOf_ ht ?_)
  refine wpAny_bind (wpAny_typeOf hTs ?_)
  rw [if_pos (by decide)]
  refine wpAny_bind (HT.sliceApplied_gen hs pl pu ?_)
  have hyes:((((HT.sIx its.toArray.size 0 lo:Nat) : Int) == 0 && (1:Int) == 1 && (HT.sIx its.toArray.size its.toArray.size hi - HT.sIx its.toArray.size 0 lo) == its.toArray.size) = true) := by
    rw [hlen, hw.1, hw.2]; simp
  show wpAny _ _ (if (((HT.sIx its.toArray.size 0 lo:Nat) : Int) == 0 && (1:Int) == 1 && (HT.sIx its.toArray.size its.toArray.size hi - HT.sIx its.toArray.size 0 lo) == its.toArray.size) = true then _ else _) _ _ s
  rw [if_pos hyes]
  have fin:EP X pins σ Q (.ref a) s := ⟨.ref a, H, I, rfl, q⟩
  refine wpAny_bind (m := Builtin.Tuple.tupleIsExact (.ref a)) ?_
  unfold Builtin.Tuple.tupleIsExact
  refine wpAny_bind (wpAny_typeOf ht.typeIs ?_)
  refine wpAny_pure ?_
  rw [if_pos (by decide)]
  exact wpAny_bind (wpAny_rule (wpAny_pure ⟨_, rfl, wpAny_pure fin⟩))
end
end L3
namespace L3
open PySem PySem.Spec PyProof.Rows L2
section
variable {X:Cx} {E:XK}
def cutA {α:Type} (xs:List α) (lo hi:Option Int) : List α := (xs.drop (HT.sIx xs.length 0 lo)).take (HT.sIx xs.length xs.length hi - HT.sIx xs.length 0 lo)
theorem IsAll.cut {H:Hp} {m:Addr -> Prop} {ds:List D} {vs:List V} (h:IsAll H m ds vs) (lo hi:Option Int) : IsAll H m (cutA ds lo hi) (cutV vs lo hi) := by
  unfold cutA cutV
  rw [h.length]
  exact (h.drop _).take _
def PostO (mg:Str -> Option Value) (E:XK) (g:Gd) (M:Addr -> Prop) (ρ:Pr) (env:En) (σ:St) (H:Hp) (Q:Option Int -> Hp -> Prop) : Res (Option Int) -> Prop
  | .stuck => False
  | .exc c => XOk mg E g c
  | .ok o => ∀ M' H', Ext M H M' H' -> Rep g M' ρ env σ H' -> Q o H'
def POD (X:Cx) (E:XK) (e:Option Expr) (f:En -> Res (Option Int)) : Prop := ∃ t, PO X e t /\ ∀ g M ρ env σ H Q, Rep g M ρ env σ H -> PostO X.mg E g M ρ env σ H Q (f env) -> t σ H Q
def oSome (f:En -> Res R) : En -> Res (Option Int) := fun env => (f env).bind fun r => match r.d with
  | .int i => .ok (some i)
  | _ => .stuck
theorem pod_some {e:Expr} {f:En -> Res R} (h:PD X E e f) : POD X E (some e) (oSome f) := by
  obtain ⟨t, p1, s1⟩ := h
  refine ⟨_, po_some p1, fun g M ρ env σ H Q rep p => s1.one rep (P := fun M H r => PostO X.mg E g M ρ env σ H Q r) p (fun _ _ z => z) (fun _ _ _ z => z) (fun M H M' H' r e p => ?_) fun r v M1 H1 e1 rep1 is q => ?_⟩
  · cases r with
    | stuck => exact p
    | exc c => exact p
    | ok o => exact fun M2 H2 e2 => p M2 H2 (e.trans e2)
  · cases z:r.d with
    | int i =>
      rw [z] at is; simp only [z] at q
      cases is
      exact ⟨i, rfl, q M1 H1 (Ext.refl _ _) rep1⟩
    | _ => simp only [z] at q; exact q.elim
def oCut (r:R) (lo hi:Option Int) : Res R := match r.d with
  | .lst xs => .ok (mkL (cutA xs lo hi) r.fr r.al)
  | .tup xs => .ok (mkV (.tup (cutA xs lo hi)) r.fr r.al)
  | _ => .stuck
def vSlice (fa:En -> Res R) (fl fh:En -> Res (Option Int)) : En -> Res R := fun env => (fa env).bind fun r => (fl env).bind fun lo => (fh env).bind fun hi => oCut r lo hi
theorem pd_slice {e:Expr} {lo hi:Option Expr} {fa:En -> Res R} {fl fh:En -> Res (Option Int)} {p2 pos:Pos} (ha:PD X E e fa) (hl:POD X E lo fl) (hh:POD X E hi fh) : PD X E (.Subscript e (.Slice lo hi none p2) pos) (vSlice fa fl fh) := by
  obtain ⟨ta, p1, s1⟩ := ha
  obtain ⟨tl, p2, s2⟩ := hl
  obtain ⟨th, p3, s3⟩ := hh
  refine ⟨_, pe_slice (sl_list.or (sl_tup.or sl_tupW)) p1 p2 p3, fun g M ρ env σ H Q rep p => s1.oneE rep p fun r v M1 H1 e1 rep1 is q => ?_⟩
  refine s2 g M1 ρ env σ H1 _ rep1 ?_
  cases z1:fl env with
  | stuck => rw [z1] at q; exact q
  | exc c => rw [z1] at q; exact q
  | ok lo' =>
    rw [z1] at q
    intro M2 H2 e2 rep2
    have q2:PostE X.mg E g M2 ρ env σ H2 Q ((fh env).bind fun hi => oCut r lo' hi) := PostE.ext e2 q
    refine s3 g M2 ρ env σ H2 _ rep2 ?_
    cases z2:fh env with
    | stuck => rw [z2] at q2; exact q2
    | exc c => rw [z2] at q2; exact q2
    | ok hi' =>
      rw [z2] at q2
      intro M3 H3 e3 rep3
      have q3:PostE X.mg E g M3 ρ env σ H3 Q (oCut r lo' hi') := PostE.ext e3 q2
      have is3 := (is.ext e2).ext e3
      unfold oCut at q3
      cases z:r.d with
      | lst xs =>
        rw [z] at q3 is3
        obtain ⟨a, vs, rfl, h1, h2⟩ := is3.rd
        exact .inl ⟨a, vs, rfl, .inl h1, fun p hp => q3.lst rep3 hp (h2.cut lo' hi')⟩
      | tup xs =>
        rw [z] at q3 is3
        have is4 := is3
        obtain ⟨a, vs, rfl, h1, h2⟩ := is3
        by_cases hw:HT.sIx vs.length 0 lo' = 0 /\ HT.sIx vs.length vs.length hi' = vs.length
        · have ec:cutA xs lo' hi' = xs := by
            unfold cutA
            rw [<- h2.length, hw.1, hw.2, h2.length]
            simp
          dsimp only at q3
          rw [ec] at q3
          exact .inr (.inr ⟨a, vs, rfl, SqT.of h1, hw, q3.val rep3 is4⟩)
        · exact .inr (.inl ⟨a, vs, rfl, SqT.of h1, hw, fun p hp => q3.tup rep3 hp (h2.cut lo' hi')⟩)
      | _ => rw [z] at q3; exact q3.elim
def D.ty:D -> String
  | .non => "NoneType" | .bl _ => "bool" | .int _ => "int" | .str _ => "str" | .tup _ => "tuple" | .lst _ => "list" | .dic _ _ => "dict"
def TyX (K : PySem.W.Frag) (H : Hp) (x : V) (t : Value) : Prop := TyOf K H x t \/ (t = .type "dict" /\ ∃ a, x = .ref a /\ IsD H a)
theorem Is.ty {H:Hp} {m:Addr -> Prop} {d:D} {v:V} {K:PySem.W.Frag} (h:Is H m d v) : TyX K H v (.type d.ty) := by
  cases d with
  | non => cases h; exact .inl .non
  | bl b => cases h; exact .inl (.bl b)
  | int b => cases h; exact .inl (.int b)
  | str b => cases h; exact .inl (.str b)
  | tup ds => obtain ⟨a, vs, rfl, h1, _⟩ := h; exact .inl (.tup h1)
  | lst ds =>
    obtain ⟨a, vs, rfl, h1, _⟩ := h
    rcases h1 with ⟨h1, _⟩ | ⟨o, h1, _⟩
    · exact .inl (.lst h1)
    · exact .inl (.frz h1)
  | dic ks ds =>
    obtain ⟨a, kvs, rfl, h1, _⟩ := h
    exact .inr ⟨rfl, a, rfl, h1.1.imp (fun ⟨kvs, e, _⟩ => ⟨kvs, e⟩) fun ⟨kvs, e, _⟩ => ⟨kvs, e⟩⟩
def isT (T:String) (d:D) : Bool := match d with
  | .non => T == "NoneType"
  | .bl _ => T == "bool" || T == "int"
  | .int _ => T == "int"
  | .str _ => T == "str"
  | .tup _ => T == "tuple"
  | .lst _ => T == "list"
  | .dic _ _ => T == "dict"
def Kind (T:String) : Prop := ∀ (K:PySem.W.Frag) (d:D), PySem.W.kitOne K (.type d.ty) (.type T) = some (isT T d)
theorem kind_bool : Kind "bool" := fun K d => by cases d <;> kernel_rfl
def vIsi (T:String) (fa:En -> Res R) : En -> Res R := fun env => (fa env).bind fun r => .ok (.val (.bl (isT T r.d)) true [])
theorem call_isi : CallR X (.builtin "isinstance") (fun xs H Q => ∃ x T t b, xs = [x, .ty T] /\ TyX X.K H x t /\ PySem.W.kitOne X.K t (.type T) = some b /\ Q (.bl b) H) := by
  intro pins s σ H xs us Q I r h
  obtain ⟨x, T, t, b, rfl, ty, e, q⟩ := h
  obtain ⟨u, c, rfl, ru, rc⟩ := vals2 r
  obtain rfl:c = Value.type T := rc
  rcases ty with ty | ⟨rfl, a, rfl, hd⟩
  · exact isinst_ok I ru ty e fun tk => ⟨.bl b, H, I.tok tk, rfl, q⟩
  · obtain rfl:u = Value.ref a := ru
    obtain ⟨t1, _⟩ := isD_at I hd
    exact PySem.W.kia_one PySem.W.kitx_dict I.kIn t1 e (fun z => nomatch z) fun tk => ⟨.bl b, H, I.tok tk, rfl, q⟩
theorem pd_isi {T : Str} {T' : String} {e : Expr} {fa : En -> Res R} {p q pos : Pos} (hK : Kind T') (hg : Gl X "isinstance") (hm : X.mg "isinstance" = none) (hgT : Gl X T) (hmT : X.mg T = none) (hvT : bootBuiltins T = some (.type T')) (ha : PD X E e fa)
    (hnT : T ≠ "__name__" := by decide) (hdT : (T == ("__debug__" : Str)) = false := by decide)
    (he:starEach [e, .Name T q] X.env = (false, eval e X.env) :: starEach [.Name T q] X.env := by rfl) (he2:starEach [.Name T q] X.env = (false, eval (.Name T q) X.env) :: starEach [] X.env := by rfl) (hpl:(backTo pos (starEach [.Name T q] X.env)).any (·.1) = false := by rfl) :
    PD X E (.Call (.Name "isinstance" p) [e, .Name T q] [] pos) (vIsi T' fa) := by
  obtain ⟨ta, p1, s1⟩ := ha
  refine ⟨_, pe_callB call_isi hg hm (by decide +kernel) (pa_cons p1 (pa_cons (pe_bltn hgT hmT hvT (v := .ty T') rfl hnT hdT) pa_nil he2) he) (by decide) (by decide) he hpl, fun g M ρ env σ H Q rep p => s1.oneE rep p fun r v M1 H1 e1 rep1 is q => ?_⟩
  exact ⟨v, T', _, _, rfl, is.ty, hK X.K r.d, q _ M1 H1 (Ext.refl _ _) rep1 rfl⟩
end
end L3
namespace L3
open PySem PySem.Spec PyProof.Rows L2
section
variable {X:Cx} {E:XK}
def bools:List D -> Option (List Bool)
  | [] => some []
  | .bl b :: r => (bools r).map fun bs => b :: bs
  | _ :: _ => none
def kAll:List R -> Res R
  | [r] => match r.d with
    | .lst ds => match bools ds with
      | some bs => .ok (.val (.bl (bs.all id)) true [])
      | none => .stuck
    | _ => .stuck
  | _ => .stuck
theorem bools_get:∀ {ds:List D} {bs:List Bool} {i:Nat} {d:D}, bools ds = some bs -> ds[i]? = some d -> ∃ b, d = .bl b /\ bs[i]? = some b
  | [], _, _, _, _, e => by simp at e
  | .bl b :: r, bs, 0, d, h, e => by
    simp at e; subst e
    unfold bools at h
    cases q:bools r with
    | none => rw [q] at h; cases h
    | some bs' => rw [q] at h; cases h; exact ⟨b, rfl, rfl⟩
  | .bl b :: r, bs, i + 1, d, h, e => by
    unfold bools at h
    cases q:bools r with
    | none => rw [q] at h; cases h
    | some bs' =>
      rw [q] at h; cases h
      obtain ⟨b', e1, e2⟩ := bools_get (i := i) q (by simpa using e)
      exact ⟨b', e1, by simpa using e2⟩
  | .non :: _, _, _, _, h, _ => by cases h
  | .int _ :: _, _, _, _, h, _ => by cases h
  | .str _ :: _, _, _, _, h, _ => by cases h
  | .tup _ :: _, _, _, _, h, _ => by cases h
  | .lst _ :: _, _, _, _, h, _ => by cases h
theorem bools_len:∀ {ds:List D} {bs:List Bool}, bools ds = some bs -> bs.length = ds.length
  | [], _, h => by cases h; rfl
  | .bl b :: r, bs, h => by
    unfold bools at h
    cases q:bools r with
    | none => rw [q] at h; cases h
    | some bs' => rw [q] at h; cases h; simp [bools_len q]
  | .non :: _, _, h => by cases h
  | .int _ :: _, _, h => by cases h
  | .str _ :: _, _, h => by cases h
  | .tup _ :: _, _, h => by cases h
  | .lst _ :: _, _, h => by cases h
theorem call_allB (hc : X.calm = true) : CallR X (.builtin "all") (fun xs H Q => ∃ (p : Addr) (vs : List V) (bs : List Bool), xs = [.ref p] /\ SqL X.K H p vs /\ vs = bs.map V.bl /\ Q (.bl (bs.all id)) H) := by
  intro pins s σ H xs us Q I r h
  obtain ⟨p, vs, bs, rfl, hq, rfl, q⟩ := h
  obtain ⟨u, rfl, rx⟩ := vals1 r
  cases rx
  obtain ⟨its, rv, pl, hz⟩ := I.list hq
  have hh:X.A.in1.handled = none := I.ok.hd hc
  obtain ⟨o, ho, _⟩ := pl.isList
  have hlt:p < s.heap.objs.size := Heap.lt_size ho
  refine call_all_walk (wpAny_pyIter_list pl.isList ?_)
  refine ⟨s.heap.objs.size, _, _, _, _, _, fun i => (bs[i]?).getD true, rfl, Walks.list hh s.heap.objs.size p (Nat.ne_of_lt hlt) its.toArray, ⟨⟨_, Heap.get?_push_size _ rfl, rfl, rfl⟩, ?_⟩, ?_, fun h' tk hk => ?_⟩
  · exact pl.isList.at fun o e => Heap.get?_push_of_some _ e
  · intro i v s' Q' E' hv hQ'
    have hv:its[i]? = some v := by simpa using hv
    have hi:i < its.length := (List.getElem?_eq_some_iff.mp hv).1
    have hl := rv.length
    have hb:i < bs.length := by simpa using (by rw [List.length_map] at hl; omega:i < bs.length)
    obtain ⟨u', hu, ru⟩ := rv.get (i := i) (x := .bl bs[i]) (by simp [hb])
    rw [hv] at hu; cases hu
    cases ru
    have eb:bs[i]? = some bs[i] := by simp [hb]
    dsimp only at hQ'
    rw [eb] at hQ'
    exact wpAny_truthy_bool hQ'
  · have hl := rv.length
    rw [List.length_map] at hl
    have e:((List.range its.toArray.size).all fun i => (bs[i]?).getD true) = bs.all id := by
      rw [List.size_toArray, <- hl]
      rw [Bool.eq_iff_iff, List.all_eq_true, List.all_eq_true]
      constructor
      · intro h b hb
        obtain ⟨i, hi⟩ := List.mem_iff_getElem?.mp hb
        have := h i (by simp; exact (List.getElem?_eq_some_iff.mp hi).1)
        rw [hi] at this; exact this
      · intro h i hi
        have hi:i < bs.length := by simpa using hi
        have eb:bs[i]? = some bs[i] := by simp [hi]
        rw [eb]
        exact h _ (List.getElem_mem hi)
    rw [e]
    refine ⟨.bl _, H, ?_, rfl, q⟩
    have I1 : L2.Inv X pins σ H { s with heap := s.heap.push { cls := .type "list_iterator", data := .fields #[.ref p, .int 0 0] } } := I.kept (t' := s.toks) fun b o e => Heap.get?_push_of_some _ e
    have fo := I.fpOk (H' := H) (Nat.le_refl s.heap.objs.size) (I.hok.fresh (Nat.le_refl _))
    exact I1.turned (t' := tk) (it := s.heap.objs.size) (fun b o hb e => hk b o (by simpa using hb) e) fo.1 fo.2.1 fo.2.2.2.1 fo.2.2.2.2.1 fo.2.2.2.2.2
theorem cd_all (hc : X.calm = true) : CallD X E (.builtin "all") kAll := by
  refine ⟨_, call_allB hc, fun g M ρ env σ H Q rs vs rep i p => ?_⟩
  match rs, i, p with
  | [r], i, p =>
    obtain ⟨v, w, rfl, i1, i2⟩ := i
    cases i2
    have i1:Is H (vmsk g M (rfrs [r]) ρ (rals [r])) r.d v := i1
    unfold kAll at p
    dsimp only at p
    cases q:r.d with
    | lst ds =>
      rw [q] at p i1
      obtain ⟨a, ws, rfl, h1, h2⟩ := i1.rd
      dsimp only at p
      cases qb:bools ds with
      | none => rw [qb] at p; exact p.elim
      | some bs =>
        rw [qb] at p
        refine ⟨a, ws, bs, rfl, .inl h1, ?_, p _ M H (Ext.refl _ _) rep rfl⟩
        apply List.ext_getElem?
        intro j
        by_cases hj:j < ds.length
        · obtain ⟨b, e1, e2⟩ := bools_get (i := j) (d := ds[j]) qb (by simp [hj])
          obtain ⟨v', ev, iv⟩ := h2.get (i := j) (d := ds[j]) (by simp [hj])
          rw [e1] at iv
          cases iv
          rw [ev, List.getElem?_map, e2]; rfl
        · have l1 := h2.length
          have l2 := bools_len qb
          rw [List.getElem?_eq_none (by omega), List.getElem?_eq_none (by simp; omega)]
    | _ => rw [q] at p; exact p.elim
  | [], _, p => exact p.elim
  | _ :: _ :: _, _, p => exact p.elim
def fSetI (i:Nat) (fk fv:En -> Res R) : En -> Res Fl := fun env => match ownOf env i with
  | some (ds, fr) => (fv env).bind fun r => (fk env).bind fun k => match k.d with
    | .int z => match ixN ds.length z with
      | some j => if ¬ i ∈ r.al then .ok (.nx ((frz env r.al).set i (some (.own (ds.set j r.d) (fr && r.fr))))) else .stuck
      | none => .stuck
    | _ => .stuck
  | none => .stuck
theorem psd_setI {i:Nat} {o k v:Expr} {fk fv:En -> Res R} {tpos pos:Pos} (ho:PE X o (tVar i)) (hk:PD X E k fk) (hv:PD X E v fv)
    (ha:∀ v, assign (.Subscript o k tpos) X.env v = (do
      let ov <- holding [v] (eval o X.env)
      let iv <- holding [v, ov] (eval k X.env)
      standAt tpos
      holding [v, ov, iv] (setItem ov iv v)
      release [v, ov, iv] []) := by intro _; rfl)
    (hs:swapsWithSole [.Subscript o k tpos] v pos.line X.env = pure false := by rfl) (hw:swappedStores [.Subscript o k tpos] v X.env = pure none := by rfl)
    (h1:(assignEach [.Subscript o k tpos] X.env).map (·.2) = [assign (.Subscript o k tpos) X.env] := by rfl) : PSD X E (.Assign [.Subscript o k tpos] v pos) (fSetI i fk fv) := by
  obtain ⟨tk, p1, s1⟩ := hk
  obtain ⟨tv, p2, s2⟩ := hv
  refine ⟨_, ps_asg p2 (pg_sub ho p1 set_list ha) hs hw h1, fun g M ρ env σ H D rep p => ?_⟩
  unfold fSetI at p
  cases e1:ownOf env i with
  | none => rw [e1] at p; exact p.elim
  | some q =>
    obtain ⟨ds, fr⟩ := q
    rw [e1] at p
    dsimp only at p
    obtain ⟨M0, ρ0, l, vs, m0, rep0, ev, k1, k2, k4, hi, _⟩ := rep.toOwn e1
    refine s2.oneS rep p fun r y M' H' e rep' ro p' => ?_
    obtain ⟨M1, x1, x1m, rep1, is1⟩ := ro.is rep' e rep.same
    refine ⟨_, ev, s1.oneS (D := D) rep1 (PostS.frz ⟨x1m, fun _ _ q _ => q⟩ p') fun rk yk M5 H5 e5 rep5 rok p5 => ?_⟩
    obtain ⟨M6, x6, x6m, rep6, is6⟩ := rok.is rep5 e5 rep1.same
    cases z:rk.d with
    | int iz =>
      rw [z] at is6; simp only [z] at p5
      cases is6
      cases zj:ixN ds.length iz with
      | none => simp only [zj] at p5; exact p5.elim
      | some j =>
        simp only [zj] at p5
        by_cases hc:¬ i ∈ r.al
        · rw [if_pos hc] at p5
          have is1':Is H5 (vmsk g M6 r.fr ρ r.al) r.d y := (is1.ext e5).weak fun a z => z.mono x6m
          obtain ⟨M2, ρ2, x2, rep2, o2, k5, k6⟩ := Rep.frz r.al rep6
          have is2:Is H5 (msk g M2 r.fr) r.d y := Is.frozen rep6 x2 o2 is1'
          have e2:ownOf (frz env r.al) i = some (ds, fr) := by
            unfold ownOf
            rw [frz_ne _ hc]
            exact e1
          obtain ⟨M3, ρ3, l3, vs3, m3, rep3, ev3, j1, j2, j4, hi3, _⟩ := rep2.toOwn e2
          rw [ev] at ev3; cases ev3
          have hl:H5 l = some (.lst vs) := e5.h _ _ (e.h _ _ k1)
          rw [hl] at j1; cases j1
          have pl:ρ3 i l := (j2 l).mpr rfl
          obtain ⟨nl3, _⟩ := rep3.priv i l pl
          have is4:IsAll H5 (msk g M3 (fr && r.fr)) (ds.set j r.d) (vs.set j y) :=
            IsAll.set j (IsAll.weak (fun b z => ⟨z.1, fun q => z.2 (by cases fr <;> simp_all)⟩) j4) (Is.weak (fun b z => ⟨m3 b z.1, fun q => z.2 (by cases fr <;> simp_all)⟩) is2)
          have kp:∀ b u, H5 b = some u -> (msk g M3 (fr && r.fr) b \/ fixd u) -> upd H5 l (.lst (vs.set j y)) b = some u := fun b u q z => by
            rw [upd_ne]
            · exact q
            · rintro rfl
              rcases z with z | z
              · exact nl3 z.1
              · rw [hl] at q; cases q; exact z
          obtain ⟨f1, rep4⟩ := rep3.write (sl := .own (ds.set j r.d) (fr && r.fr)) (vs' := vs.set j y) pl (by rw [List.length_set]; exact hi3) ev ⟨l, vs.set j y, rfl, upd_same, j2, IsAll.mono kp (fun _ _ _ z => z) is4⟩
          rw [List.set_set] at rep4
          refine ⟨l, vs, iz, j, rfl, rfl, hl, by rw [k4.length]; exact zj, ?_⟩
          exact p5 σ M3 ρ3 _ (Frz.trans ⟨fun a z => m3 a (x2 a (x6m a z)), fun _ _ q _ => q⟩ f1) rep4
        · rw [if_neg hc] at p5; exact p5.elim
    | _ => simp only [z] at p5; exact p5.elim
theorem IsShs.get {H:Hp} {m:Addr -> Prop} : ∀ {ds:List D} {vs:List V} {j:Nat} {d:D}, IsShs H m ds vs -> ds[j]? = some d -> ∃ v, vs[j]? = some v /\ IsSh H m d v
  | [], _, _, _, _, e => by simp at e
  | d :: ds, _, 0, _, h, e => by
    obtain ⟨v, r, rfl, h1, h2⟩ := h
    simp at e; subst e
    exact ⟨v, rfl, h1⟩
  | d :: ds, _, j + 1, _, h, e => by
    obtain ⟨v, r, rfl, h1, h2⟩ := h
    obtain ⟨w, a, b⟩ := IsShs.get (j := j) h2 (by simpa using e)
    exact ⟨w, by simpa using a, b⟩
end
end L3
namespace L3
open PySem PySem.Spec PyProof.Rows L2
section
variable {X:Cx} {E:XK} {es:List Expr} {k:Nat} {tpos:Pos}
end
end L3
namespace L3
open PySem PySem.Spec PyProof.Rows L2
def cOk (osc:Scope) (N:List Str) (scope:Scope) (tN capN:List Str) (caps:List Nat) : Bool :=
  (scope.kind == .function) && scope.names.all (fun y => y.2 != .cell) && scope.names.all (fun y => y.2 != .local || scope.names.lookup y.1 == some .local) && tN.all (fun x => scope.names.lookup x == some .local) &&
  scope.names.all (fun y => y.2 != .free || (osc.names.lookup y.1 == some .cell || osc.names.lookup y.1 == some .free)) && (capN.zip caps).all (fun p => N[p.2]? == some p.1) && (caps.length == capN.length) &&
  capN.all (fun y => osc.names.lookup y == some .cell || osc.names.lookup y == some .free) && capN.all (fun y => scope.names.lookup y == some .free) && decide (tN ++ capN).Nodup
theorem CScope.of {X:Cx} {osc:Scope} {N:List Str} {scope:Scope} {tN capN:List Str} {caps:List Nat} (h1:X.env.scope = osc) (h2:X.N = N) (h3:cOk osc N scope tN capN caps = true) : CScope X scope tN capN caps := by
  unfold cOk at h3
  simp only [Bool.and_eq_true, List.all_eq_true, Bool.or_eq_true, beq_iff_eq, bne_iff_ne, decide_eq_true_eq, ne_eq] at h3
  obtain ⟨⟨⟨⟨⟨⟨⟨⟨⟨a1, a2⟩, a3⟩, a4⟩, a5⟩, a6⟩, a7⟩, a8⟩, a9⟩, a10⟩ := h3
  subst h1 h2
  refine ⟨a1, a2, fun y hy hl => (a3 y hy).resolve_left fun z => z hl, a4, fun y hy hf => (a5 y hy).resolve_left fun z => z hf, ⟨fun k y e => ?_, a8, a9, a7⟩, a10⟩
  have hk:k < capN.length := (List.getElem?_eq_some_iff.mp e).1
  have hk2:k < caps.length := by omega
  refine ⟨caps[k], by simp [hk2], ?_⟩
  have hm:(y, caps[k]) ∈ capN.zip caps := by
    have:(capN.zip caps)[k]? = some (y, caps[k]) := by
      rw [List.getElem?_zip_eq_some]
      exact ⟨e, by simp [hk2]⟩
    exact List.mem_of_getElem? this
  exact a6 _ hm
structure Fn (K:PySem.W.Frag) (mg:Str -> Option Value) (x:Str) (st:Stmt) (ps:List Str) (f:Addr) (fd:FuncData) : Prop where
  fu:Fun K x x st f fd
  bi:Binds K fd ps []
  gl:mg x = some (.ref f)
end L3
namespace L3
open PySem PySem.Spec PyProof.Rows L2
section
variable {X:Cx} {E:XK}
end
end L3
namespace L3
open PySem PySem.Spec PyProof.Rows L2
def spT (F:List D -> Res R) : Sp := fun vs H Q _ => vs.length = 1 /\ ∃ ds Ma r, IsAll H Ma ds vs /\ F ds = .ok r /\ ∀ v H', Same H H' -> RetOk (mkG H Ma) H' v r -> Q v H'
def isListV:Value -> Bool
  | .type n => n == "list"
  | _ => false
def noL (K:PySem.W.Frag) : Bool := K.all fun p => !isListV p.2.cls
theorem noL_at {a : Addr} {o : Obj} : ∀ {K : PySem.W.Frag}, noL K = true -> K.lookup a = some o -> o.cls = .type "list" -> False
  | [], _, e, _ => by cases e
  | (b, x) :: r, h, e, c => by
    unfold noL at h
    rw [List.all_cons, Bool.and_eq_true] at h
    rw [List.lookup_cons] at e
    split at e
    · cases e
      rw [c] at h
      have h1 := h.1
      simp [isListV] at h1
    · exact noL_at (K := r) h.2 e c
theorem isAll_ints {H:Hp} {m:Addr -> Prop} : ∀ ns:List Int, IsAll H m (ns.map D.int) (ns.map V.int)
  | [] => rfl
  | n :: r => ⟨.int n, r.map V.int, rfl, rfl, isAll_ints r⟩
theorem spT_of {K:PySem.W.Frag} {F:List D -> Res R} (hF:∀ ns:List Int, ns.length <= 63 -> ∃ f al, F [.lst (ns.map .int)] = .ok (.val (.bl true) f al)) (hK:noL K = true) (H:Hp) (a:Addr) (ns:List Int) (hl:ns.length <= 63) (hO:Only H) (hS:SqL K H a (ns.map V.int)) :
    spT F [.ref a] H (fun v _ => v = .bl true) fun _ _ _ => False := by
  obtain ⟨f, al, e⟩ := hF ns hl
  refine ⟨rfl, [.lst (ns.map .int)], fun b => b = a, _, ⟨_, [], rfl, ⟨a, ns.map V.int, rfl, ?_, isAll_ints ns⟩, rfl⟩, e, fun v H' _ h => h⟩
  rcases hS with h | ⟨o, its, n, h1, h2, _⟩
  · rcases h with h | ⟨o, h⟩
    · exact .inl ⟨h, rfl⟩
    · exact .inr ⟨o, h, rfl⟩
  · exact (noL_at hK h1 h2).elim
section
variable {P:Program} {w:World} {K:PySem.W.Frag} {mg:Str -> Option Value} {base:Heap}
theorem FnOk.top {CX:CXT} {k:Nat} {f:Addr} {fd:FuncData} {ps:List Str} {F:List D -> Res R} (h:FnOk P w K mg base CX k f fd ps (spD mg 1 F)) : FnOk P w K mg base CX k f fd ps (spT F) :=
  h.imp fun vs H Q E ⟨hl, ds, Ma, r, is, e, q⟩ => ⟨hl, ds, Ma, is, by rw [e]; exact q⟩
end
end L3
namespace L3
open PySem PySem.Spec PyProof.Rows L2
section
variable {P:Program} {w:World} {K:PySem.W.Frag} {mg:Str -> Option Value} {base:Heap}
end
section
variable {P:Program} {w:World} {K:PySem.W.Frag} {mg:Str -> Option Value} {base:Heap} {N:List Str} {qual:Str} {scope:Scope} {f:Addr} {cd:Value} {A:Around} {outer:List Env} {s₀:Shared} {H₀:Hp} {E:XK}
end
def Res.quiet {α:Type} : Res α -> Res α
  | .exc _ => .stuck
  | r => r
section
variable {X:Cx} {E:XK} {hc:Str} {Ch:Addr} {cs:List Str} {np hpos pos epos p cpos:Pos} {b₀:Stmt} {suite:List Stmt} {fsu:En -> Res Fl} {k:Nat} {f:Addr} {fd:FuncData} {ps:List Str} {F:List D -> Res R} {x:Str} {e:Expr} {es:List Expr} {fs:En -> Res (List R)}
theorem PostS.quiet {mg:Str -> Option Value} {g:Gd} {M:Addr -> Prop} {H:Hp} {D:Ends} {r:Res Fl} (p:PostS mg E g M H D r.quiet) : PostS mg E0 g M H D r := by
  cases r with
  | stuck => exact p
  | exc c => exact (show False from p).elim
  | ok r => cases r <;> exact p
end
end L3
namespace L3
open PySem PySem.Spec PyProof.Rows L2
structure ZipSt (h:Heap) (z TI TO i1 i2 a b:Addr) (i:Nat) : Prop where
  zip:IsZip h z TI TO .none
  ti:IsPair h TI (.ref i1) (.ref i2)
  to:∃ u v, IsPair h TO u v
  l:h.IsListIter i1 a i
  r:h.IsListIter i2 b i
structure ZipNe (z TI TO i1 i2:Addr) : Prop where
  TIz:TI ≠ z
  TOz:TO ≠ z
  i1z:i1 ≠ z
  i2z:i2 ≠ z
  TITO:TI ≠ TO
  TIi1:TI ≠ i1
  TIi2:TI ≠ i2
  TOi1:TO ≠ i1
  TOi2:TO ≠ i2
  i12:i1 ≠ i2
section
variable {h:Heap} {z TI TO i1 i2 a b:Addr} {i:Nat} {its its2:Array Value}
end
section
variable {X:Cx} {E:XK} {es:List Expr} {k:Nat} {tpos:Pos}
end
section
variable {X:Cx} {E:XK}
end
end L3
namespace L3
open PySem PySem.Spec PyProof.Rows L2
section
variable {X:Cx} {E:XK}
open Classical in
noncomputable def eqItem (H:Hp) (m:Addr -> Prop) (x:D) (u:Value) : Bool := decide (∃ d v, RelV v u /\ Is H m d v /\ eqD d x = true)
theorem eqItem_of {H:Hp} {m:Addr -> Prop} {x d:D} {v:V} {u:Value} (r:RelV v u) (h:Is H m d v) : eqItem H m x u = eqD d x := by
  unfold eqItem
  cases q:eqD d x with
  | true => exact @decide_eq_true _ (Classical.propDecidable _) ⟨d, v, r, h, q⟩
  | false =>
    refine @decide_eq_false _ (Classical.propDecidable _) fun ⟨d', v', r', h', q'⟩ => ?_
    have e := L2.RelV.inj r r'
    subst e
    have e := Is.inj h h'
    subst e
    rw [q] at q'; cases q'
theorem any_items {H:Hp} {m:Addr -> Prop} {x:D} : ∀ {ds:List D} {vs:List V} {us:List Value}, IsAll H m ds vs -> Vals vs us -> us.any (eqItem H m x) = ds.any fun d => eqD d x
  | [], _, _, h, r => by cases h; cases r; rfl
  | d :: ds, _, _, h, r => by
    obtain ⟨v, w, rfl, h1, h2⟩ := h
    cases r with
    | cons r1 r2 => rw [List.any_cons, List.any_cons, eqItem_of r1 h1, any_items h2 r2]
def rInD (neg:Bool) (K:PySem.W.Frag) : R2 := fun x y H Q => ∃ p ds vs d m m', y = .ref p /\ (SqL K H p vs \/ SqT K H p vs) /\ IsAll H m ds vs /\ Is H m' d x /\ (D.deps ds <= 50 /\ d.dep <= 50) /\ Q (.bl (if neg then !(ds.any fun e => eqD e d) else ds.any fun e => eqD e d)) H
theorem mem_items {pins:List (Addr × Obj)} {σ:St} {H:Hp} {s:Shared} {m m':Addr -> Prop} {d:D} {x:V} {v:Value} {A:Around} (I:L2.Inv X pins σ H s) (hu:A.units + 50 < cLine) (hx:Is H m' d x) (hE:d.dep <= 50) (rx:RelV x v) :
    ∀ {ds:List D} {vs:List V} {us:List Value}, IsAll H m ds vs -> Vals vs us -> D.deps ds <= 50 -> ∀ u ∈ us, SeqAt.EqAt A s u v (eqItem H m d u)
  | [], _, _, h, r, _ => fun u hu => by cases h; cases r; cases hu
  | e :: ds, _, _, h, r, hd => fun u hm => by
    obtain ⟨y, w, rfl, h1, h2⟩ := h
    have hd':max e.dep (D.deps ds) <= 50 := hd
    cases r with
    | cons r1 r2 =>
      rcases List.mem_cons.mp hm with rfl | hm
      · rw [eqItem_of r1 h1]
        exact eq_at I.hok 50 A hu (by omega) (by omega) (by omega) h1 hx r1 rx
      · exact mem_items I hu hx hE rx h2 r2 (by omega) u hm
theorem op_inD (hu:X.A.units + 64 < cLine) : OpR X (compareOp .In) (rInD false X.K) := by
  intro pins s σ H x y v u Q I rx ry h
  obtain ⟨p, ds, vs, d, m, m', rfl, hq, hi, hx, hd, q⟩ := h
  cases ry
  rcases hq with hq | hq
  · obtain ⟨its, r, pl, hz⟩ := I.list hq
    refine SeqAt.in_listAt (eqItem H m d) pl.isList (fun w hw => mem_items I (by show X.A.units + 1 + 50 < cLine; omega) hx hd.2 rx hi r hd.1 w (by simpa using hw)) ⟨.bl _, H, I, rfl, ?_⟩
    rw [show its.toArray.any (eqItem H m d) = its.any (eqItem H m d) by simp, any_items hi r]
    exact q
  · obtain ⟨its, r, pl, hz⟩ := I.tuple hq
    refine SeqAt.in_tupleAt (eqItem H m d) pl (fun w hw => mem_items I (by show X.A.units + 1 + 50 < cLine; omega) hx hd.2 rx hi r hd.1 w (by simpa using hw)) ⟨.bl _, H, I, rfl, ?_⟩
    rw [show its.toArray.any (eqItem H m d) = its.any (eqItem H m d) by simp, any_items hi r]
    exact q
def inD (neg:Bool) (x:D) (ds:List D) : Res R := if D.deps ds <= 50 /\ x.dep <= 50 then .ok (.val (.bl (if neg then !(ds.any fun e => eqD e x) else ds.any fun e => eqD e x)) true []) else .stuck
def oInG (neg:Bool) (a b:R) : Res R := match b.d with
  | .lst ds => inD neg a.d ds
  | .tup ds => inD neg a.d ds
  | _ => .stuck
def oIn:R -> R -> Res R := oInG false
theorem od_inG {neg:Bool} {f:Value -> Value -> Sem Value} (h:OpR X f (rInD neg X.K)) : OpD X E f (oInG neg) := by
  refine ⟨_, h, fun g M ρ env σ H Q ra rb x y rep i1 i2 p => ?_⟩
  unfold oInG at p
  have key:∀ ds, PostE X.mg E g M ρ env σ H Q (inD neg ra.d ds) -> (D.deps ds <= 50 /\ ra.d.dep <= 50) /\ Q (.bl (if neg then !(ds.any fun e => eqD e ra.d) else ds.any fun e => eqD e ra.d)) H := fun ds p => by
    unfold inD at p
    by_cases hd:D.deps ds <= 50 /\ ra.d.dep <= 50
    · rw [if_pos hd] at p; exact ⟨hd, p _ M H (Ext.refl _ _) rep rfl⟩
    · rw [if_neg hd] at p; exact p.elim
  cases e2:rb.d with
  | lst ds =>
    rw [e2] at p i2
    obtain ⟨a, vs, rfl, h1, h2⟩ := i2.rd
    obtain ⟨k1, k2⟩ := key ds p
    exact ⟨a, ds, vs, ra.d, _, _, rfl, .inl (.inl h1), h2, i1, k1, k2⟩
  | tup ds =>
    rw [e2] at p i2
    obtain ⟨a, vs, rfl, h1, h2⟩ := i2
    obtain ⟨k1, k2⟩ := key ds p
    exact ⟨a, ds, vs, ra.d, _, _, rfl, .inr (SqT.of h1), h2, i1, k1, k2⟩
  | _ => rw [e2] at p; exact p.elim
theorem od_in (hu:X.A.units + 64 < cLine) : OpD X E (compareOp .In) oIn := od_inG (op_inD hu)
end
end L3
namespace L2
open PySem PySem.Spec PySem.Calls PyProof.Rows
section
variable {K:PySem.W.Frag} {x C:Addr} {c:Value}
end
section
variable {X:Cx} {pins:List (Addr × Obj)} {σ:St} {H:Hp} {s:Shared} {x:Addr} {o:Obj}
end
section
variable {X:Cx} {hc:Str} {Ch:Addr} {np hpos pos epos:Pos} {b₀:Stmt} {suite:List Stmt} {ts:Addr -> Addr -> TS} {te:TX} {e:Expr} {i:Nat} {n:Str}
end
end L2
namespace L2
open PySem PySem.Spec PySem.Calls PyProof.Rows
section
variable {X:Cx} {i iw:Nat} {n y b1 b2:Str} {s1 s2:Str} {py p1 p2 p3 p4 p5 p6 p7 p8 p9 p10 p11 p12 p13 p14 p15 lp:Pos} {j1 j2} {T1:String} {Ch2:Addr}
end
end L2
namespace L3
open PySem PySem.Spec PyProof.Rows L2
section
variable {X:Cx} {E:XK} {i iw:Nat} {n y b1 b2:Str} {s1 s2:Str} {py p1 p2 p3 p4 p5 p6 p7 p8 p9 p10 p11 p12 p13 p14 p15 lp:Pos} {j1 j2} {T1:String} {Ch2:Addr}
variable {hc:Str} {Ch:Addr} {cs:List Str} {np hpos pos epos p cpos:Pos} {k:Nat} {f:Addr} {fd:FuncData} {ps:List Str} {F:List D -> Res R} {x:Str} {e:Expr} {es:List Expr} {fs:En -> Res (List R)}
end
end L3
namespace L3
open PySem PySem.Spec PyProof.Rows L2
def keyD:D -> Option Key
  | .int i => some (.inl i)
  | .str x => some (.inr x)
  | _ => none
def keysD:List D -> Option (List Key)
  | [] => some []
  | d :: ds => match keyD d, keysD ds with
    | some k, some ks => some (k :: ks)
    | _, _ => none
def keyT:D -> Option (List Key)
  | .tup ds => keysD ds
  | _ => none
def pairD:D -> Option (List Key × D)
  | .tup [k, v] => (keyT k).map fun ks => (ks, v)
  | _ => none
def pairsD:List D -> Option (List (List Key × D))
  | [] => some []
  | d :: ds => match pairD d, pairsD ds with
    | some p, some ps => some (p :: ps)
    | _, _ => none
def putKD (t:List (List Key × D)) (k:List Key) (d:D) : List (List Key × D) := if (t.any fun x => decide (x.1 = k)) = true then t.map (fun x => if x.1 = k then (x.1, d) else x) else t ++ [(k, d)]
def putsD (t ps:List (List Key × D)) : List (List Key × D) := ps.foldl (fun t x => putKD t x.1 x.2) t
def dicOf (ps:List (List Key × D)) : D := .dic ((putsD [] ps).map fun p => .inr p.1) ((putsD [] ps).map Prod.snd)
def kDict:List R -> Res R
  | [r] => match r.d with
    | .lst ds => match pairsD ds with
      | some ps => if D.flats ((putsD [] ps).map Prod.snd) then .ok (.fre (dicOf ps)) else .stuck
      | none => .stuck
    | _ => .stuck
  | _ => .stuck
section
variable {H:Hp} {m:Addr -> Prop}
theorem Is.key {d:D} {v:V} {k:Key} (h:Is H m d v) (e:keyD d = some k) : v = kV k := by
  cases d with
  | int i => cases e; exact h
  | str x => cases e; exact h
  | _ => cases e
theorem IsAll.keys:∀ {ds:List D} {vs:List V} {ks:List Key}, IsAll H m ds vs -> keysD ds = some ks -> vs = ks.map kV
  | [], _, _, h, e => by cases h; cases e; rfl
  | d :: ds, _, ks, h, e => by
    obtain ⟨v, r, rfl, h1, h2⟩ := h
    unfold keysD at e
    cases q:keyD d with
    | none => rw [q] at e; cases e
    | some k =>
      cases q2:keysD ds with
      | none => rw [q, q2] at e; cases e
      | some ks' =>
        rw [q, q2] at e; cases e
        rw [h1.key q, IsAll.keys h2 q2]; rfl
theorem Is.keyT {d:D} {v:V} {k:List Key} (h:Is H m d v) (e:L3.keyT d = some k) : ∃ b, v = .ref b /\ H b = some (.tup (k.map kV)) := by
  cases d with
  | tup ds =>
    obtain ⟨a, vs, rfl, h1, h2⟩ := h
    have e:keysD ds = some k := e
    rw [IsAll.keys h2 e] at h1
    exact ⟨a, rfl, h1⟩
  | _ => cases e
def RKV (H:Hp) (m:Addr -> Prop) : List (List Key × V) -> List (List Key × D) -> Prop := Paired fun a b => a.1 = b.1 /\ Is H m b.2 a.2
theorem RKV.fst {a:List (List Key × V)} {b:List (List Key × D)} (r:RKV H m a b) : a.map Prod.fst = b.map Prod.fst := by
  induction r with
  | nil => rfl
  | cons h _ ih => rw [List.map_cons, List.map_cons, ih, h.1]
theorem RKV.snd {a:List (List Key × V)} {b:List (List Key × D)} (r:RKV H m a b) : IsAll H m (b.map Prod.snd) (a.map Prod.snd) := by
  induction r with
  | nil => rfl
  | cons h _ ih => exact ⟨_, _, rfl, h.2, ih⟩
theorem RKV.append {a c:List (List Key × V)} {b d:List (List Key × D)} (r:RKV H m a b) (s:RKV H m c d) : RKV H m (a ++ c) (b ++ d) := by
  induction r with
  | nil => exact s
  | cons h _ ih => exact .cons h ih
theorem RKV.any {a:List (List Key × V)} {b:List (List Key × D)} (r:RKV H m a b) (k:List Key) : (a.any fun x => decide (x.1 = k)) = (b.any fun x => decide (x.1 = k)) := by
  induction r with
  | nil => rfl
  | cons h _ ih => rw [List.any_cons, List.any_cons, ih, h.1]
theorem RKV.repl {a:List (List Key × V)} {b:List (List Key × D)} {k:List Key} {v:V} {d:D} (r:RKV H m a b) (h:Is H m d v) : RKV H m (a.map fun x => if x.1 = k then (x.1, v) else x) (b.map fun x => if x.1 = k then (x.1, d) else x) := by
  induction r with
  | nil => exact .nil
  | @cons p q ps qs hq t ih =>
    refine .cons ?_ ih
    dsimp only
    by_cases e:p.1 = k
    · rw [if_pos e, if_pos (hq.1 ▸ e)]; exact ⟨hq.1, h⟩
    · rw [if_neg e, if_neg (fun z => e (hq.1.trans z))]; exact hq
theorem RKV.put {a:List (List Key × V)} {b:List (List Key × D)} {k:List Key} {v:V} {d:D} (r:RKV H m a b) (h:Is H m d v) : RKV H m (putK a k v) (putKD b k d) := by
  unfold putK putKD
  rw [r.any k]
  split
  · exact r.repl h
  · exact r.append (.cons ⟨rfl, h⟩ .nil)
theorem pairs_of:∀ {ds:List D} {vs:List V} {ps:List (List Key × D)}, IsAll H m ds vs -> pairsD ds = some ps -> ∃ kvs, PairsIn H vs kvs /\ ∀ a b, RKV H m a b -> RKV H m (putAll a kvs) (putsD b ps)
  | [], _, _, h, e => by cases h; cases e; exact ⟨[], .nil, fun a b r => r⟩
  | d :: ds, _, ps, h, e => by
    obtain ⟨v, r, rfl, h1, h2⟩ := h
    unfold pairsD at e
    cases q:pairD d with
    | none => rw [q] at e; cases e
    | some p =>
      cases q2:pairsD ds with
      | none => rw [q, q2] at e; cases e
      | some ps' =>
        rw [q, q2] at e; cases e
        obtain ⟨kvs, k1, k2⟩ := pairs_of h2 q2
        unfold pairD at q
        split at q
        · rename_i kd vd
          obtain ⟨a, vs2, rfl, g1, g2⟩ := h1
          obtain ⟨y1, r1, rfl, i1, y2, r2, rfl, i2, i3⟩ := g2
          cases i3
          cases q3:keyT kd with
          | none => rw [q3] at q; cases q
          | some kk =>
            rw [q3] at q; cases q
            obtain ⟨ka, rfl, hka⟩ := i1.keyT q3
            exact ⟨(kk, y2) :: kvs, .cons ⟨a, ka, rfl, g1, hka⟩ k1, fun a b r => k2 _ _ (r.put i2)⟩
        · cases q
end
section
variable {X:Cx} {E:XK}
theorem dic_fre {g:Gd} {M:Addr -> Prop} {ρ:Pr} {env:En} {σ:St} {H H':Hp} {b:Addr} {d:D} (rep:Rep g M ρ env σ H) (hb:H b = none) (is:Is H' (fun a => a = b) d (.ref b)) (mu:Mu H' b) : ROk g M ρ H H' (.ref b) (.fre d) := by
  obtain ⟨h0, hm, ho⟩ := rep.free hb
  exact ⟨fun a => a = b, fun a e => by subst e; exact ⟨hm, hb, mu, ho⟩, is⟩
theorem pd_dnew {pos:Pos} : PD X E (.Dict [] [] pos) (fun _ => .ok (.fre (.dic [] []))) := by
  refine ⟨_, pe_dnewK, fun g M ρ env σ H Q rep p b hb => ?_⟩
  have s:Same H (upd H b (.dK [])) := same_upd hb
  exact p _ M _ ⟨fun _ z => z, s, fun _ z => .inl z⟩ (rep.grow s) (dic_fre rep hb ⟨b, [], rfl, ⟨.inl ⟨[], .inl upd_same, rfl, rfl⟩, rfl⟩, rfl⟩ ⟨_, upd_same, True.intro⟩)
theorem cd_dict (hc : X.calm = true) (hu : X.A.units + 64 < cLine) : CallD X E (.type "dict") kDict := by
  refine ⟨_, call_dictP hc hu, fun g M ρ env σ H Q rs vs rep i p => ?_⟩
  match rs, i, p with
  | [r], i, p =>
    obtain ⟨v, w, rfl, i1, i2⟩ := i
    cases i2
    have i1:Is H (vmsk g M (rfrs [r]) ρ (rals [r])) r.d v := i1
    replace i1 := i1.weak fun _ z => one_msk z
    unfold kDict at p
    dsimp only at p
    cases q:r.d with
    | lst ds =>
      rw [q] at p i1
      dsimp only at p
      cases q2:pairsD ds with
      | none => rw [q2] at p; exact p.elim
      | some ps =>
        rw [q2] at p
        obtain ⟨a, ws, rfl, h1, h2⟩ := i1.rd
        obtain ⟨kvs, k1, k2⟩ := pairs_of h2 q2
        refine ⟨a, ws, kvs, rfl, h1, k1, fun b hb => ?_⟩
        have rk := k2 [] [] .nil
        have s:Same H (upd H b (.dT (putAll [] kvs))) := same_upd hb
        dsimp only at p
        by_cases hf:D.flats ((putsD [] ps).map Prod.snd) = true
        · rw [if_pos hf] at p
          refine p _ M _ ⟨fun _ z => z, s, fun _ z => .inl z⟩ (rep.grow s) (dic_fre rep hb ⟨b, _, rfl, ⟨.inr ⟨putAll [] kvs, .inl upd_same, ?_, rfl⟩, rfl⟩, IsAll.flat hf (IsAll.same s rk.snd)⟩ ⟨_, upd_same, True.intro⟩)
          have := congrArg (List.map fun k:List Key => (Sum.inr k:DK)) rk.fst
          rw [List.map_map, List.map_map] at this
          exact this.symm
        · rw [if_neg hf] at p; exact p.elim
    | _ => rw [q] at p; exact p.elim
  | [], _, p => exact p.elim
  | _ :: _ :: _, _, p => exact p.elim
def keyX:D -> Option DK
  | .int i => some (.inl (.inl i))
  | .str x => some (.inl (.inr x))
  | .tup ds => (keysD ds).map .inr
  | _ => none
def kin:DK -> DK -> Bool
  | .inl _, .inl _ => true
  | .inr _, .inr _ => true
  | _, _ => false
def hasK (ks:List DK) (k:DK) : Bool := ks.any fun x => decide (x = k)
def inDic (neg:Bool) (a:D) (ks:List DK) : Res R := match keyX a with
  | some k => if ks.all (kin k) then .ok (.val (.bl (if neg then !hasK ks k else hasK ks k)) true []) else .stuck
  | none => .stuck
def oInH (neg:Bool) (a b:R) : Res R := match b.d with
  | .dic ks _ => inDic neg a.d ks
  | _ => oInG neg a b
def oInX:R -> R -> Res R := oInH false
def rInT (neg:Bool) : R2 := fun x y H Q => ∃ a o, y = .ref a /\ DGetX H a x o /\ Q (.bl (if neg then !o.isSome else o.isSome)) H
theorem op_inT (hu:X.A.units + 64 < cLine) : OpR X (compareOp .In) (rInT false) := by
  intro pins s σ H x y v u Q I rx ry h
  obtain ⟨a, o, rfl, g, q⟩ := h
  cases ry
  exact d_inX (by omega) I g rx fun s' I' => ⟨.bl _, H, I', rfl, q⟩
theorem valV_has {κ:Type} [DecidableEq κ] {kvs:List (κ × V)} (inj:κ -> DK) (hi:∀ a b, inj a = inj b -> a = b) (k:κ) : (valV kvs k).isSome = hasK (kvs.map fun p => inj p.1) (inj k) := by
  unfold hasK
  induction kvs with
  | nil => rfl
  | cons p r ih =>
    rw [List.map_cons, List.any_cons]
    by_cases e:p.1 = k
    · rw [valV_pos e, decide_eq_true (congrArg inj e)]; rfl
    · rw [valV_neg e, ih, decide_eq_false (fun z => e (hi _ _ z)), Bool.false_or]
theorem Is.keyX {H:Hp} {m:Addr -> Prop} {d:D} {v:V} {k:DK} (h:Is H m d v) (e:L3.keyX d = some k) : (∃ k0, k = .inl k0 /\ v = kV k0) \/ ∃ k0 b, k = .inr k0 /\ v = .ref b /\ H b = some (.tup (k0.map kV)) := by
  cases d with
  | int i => cases e; exact .inl ⟨_, rfl, h⟩
  | str x => cases e; exact .inl ⟨_, rfl, h⟩
  | tup ds =>
    have e:(keysD ds).map Sum.inr = some k := e
    obtain ⟨k0, hk, rfl⟩ := Option.map_eq_some_iff.mp e
    obtain ⟨b, e1, e2⟩ := Is.keyT (d := .tup ds) h hk
    exact .inr ⟨k0, b, rfl, e1, e2⟩
  | _ => cases e
theorem dget_of {H:Hp} {a:Addr} {ks:List DK} {vs:List V} {m:Addr -> Prop} {d:D} {x:V} {k:DK} (h:DAt H a ks vs) (hx:Is H m d x) (e:L3.keyX d = some k) (hk:ks.all (kin k) = true) : ∃ o, DGetX H a x o /\ o.isSome = hasK ks k := by
  rcases hx.keyX e with ⟨k0, rfl, rfl⟩ | ⟨k0, b, rfl, rfl, hb⟩
  · rcases h with ⟨kvs, e1, rfl, rfl⟩ | ⟨kvs, e1, rfl, rfl⟩
    · exact ⟨_, .inl (.inl ⟨kvs, k0, e1, rfl, rfl⟩), valV_has Sum.inl (fun _ _ z => Sum.inl.inj z) k0⟩
    · cases kvs with
      | nil => exact ⟨none, .inr (.inl ⟨e1, ⟨k0, rfl⟩, rfl⟩), rfl⟩
      | cons p r => simp [kin] at hk
  · rcases h with ⟨kvs, e1, rfl, rfl⟩ | ⟨kvs, e1, rfl, rfl⟩
    · cases kvs with
      | nil => exact ⟨none, .inr (.inr ⟨e1, ⟨b, k0, rfl, hb⟩, rfl⟩), rfl⟩
      | cons p r => simp [kin] at hk
    · exact ⟨_, .inl (.inr ⟨kvs, k0, b, e1, rfl, hb, rfl⟩), valV_has Sum.inr (fun _ _ z => Sum.inr.inj z) k0⟩
theorem od_inH {neg:Bool} {f:Value -> Value -> Sem Value} (h1:OpD X E f (oInG neg)) (h2:OpR X f (rInT neg)) : OpD X E f (oInH neg) := by
  obtain ⟨r, o1, s1⟩ := h1
  refine ⟨_, o1.or h2, fun g M ρ env σ H Q ra rb x y rep i1 i2 p => ?_⟩
  unfold oInH at p
  cases q:rb.d with
  | dic ks ds =>
    right
    rw [q] at p i2
    dsimp only at p
    unfold inDic at p
    cases q2:keyX ra.d with
    | none => rw [q2] at p; exact p.elim
    | some k =>
      rw [q2] at p
      dsimp only at p
      by_cases hk:ks.all (kin k) = true
      · rw [if_pos hk] at p
        obtain ⟨a, vs, rfl, h1, h2⟩ := i2
        obtain ⟨o, g1, g2⟩ := dget_of h1.1 i1 q2 hk
        refine ⟨a, o, rfl, g1, ?_⟩
        rw [g2]
        exact p _ M H (Ext.refl _ _) rep rfl
      · rw [if_neg hk] at p; exact p.elim
  | _ =>
    left
    refine s1 g M ρ env σ H Q ra rb x y rep i1 i2 ?_
    rw [q] at p
    exact p
theorem od_inX (hu:X.A.units + 64 < cLine) : OpD X E (compareOp .In) oInX := od_inH (od_in hu) (op_inT hu)
def replD:List DK -> List D -> DK -> D -> List D
  | k' :: ks, d' :: ds, k, d => (if k' = k then d else d') :: replD ks ds k d
  | _, _, _, _ => []
def dicPut (ks:List DK) (ds:List D) (k:DK) (d:D) : D := if hasK ks k then .dic ks (replD ks ds k d) else .dic (ks ++ [k]) (ds ++ [d])
theorem put_rel {κ:Type} [DecidableEq κ] (inj:κ -> DK) (hi:∀ a b, inj a = inj b -> a = b) {H:Hp} {m:Addr -> Prop} {kvs:List (κ × V)} {ds:List D} {k:κ} {v:V} {d:D} (h:IsAll H m ds (kvs.map Prod.snd)) (hv:Is H m d v) :
    ∃ ks' ds', dicPut (kvs.map fun p => inj p.1) ds (inj k) d = .dic ks' ds' /\ ks' = (putK kvs k v).map (fun p => inj p.1) /\ IsAll H m ds' ((putK kvs k v).map Prod.snd) := by
  have hany:hasK (kvs.map fun p => inj p.1) (inj k) = kvs.any fun p => decide (p.1 = k) := by
    unfold hasK
    rw [List.any_map]
    congr 1
    funext p
    exact decide_eq_decide.mpr ⟨hi _ _, congrArg inj⟩
  unfold dicPut putK
  rw [hany]
  by_cases e:(kvs.any fun p => decide (p.1 = k)) = true
  · rw [if_pos e, if_pos e]
    refine ⟨_, _, rfl, ?_, ?_⟩
    · rw [List.map_map]
      refine List.map_congr_left fun p _ => ?_
      show inj p.1 = inj (if p.1 = k then (p.1, v) else p).1
      split <;> rfl
    · clear e hany
      induction kvs generalizing ds with
      | nil =>
        cases ds with
        | nil => exact rfl
        | cons d0 r => obtain ⟨_, _, z, _⟩ := h; cases z
      | cons p r ih =>
        cases ds with
        | nil => cases h
        | cons d0 ds =>
          obtain ⟨v0, r0, z, i1, i2⟩ := h
          cases z
          have := ih i2
          refine ⟨_, _, rfl, ?_, this⟩
          dsimp only
          by_cases e:p.1 = k
          · rw [if_pos (congrArg inj e), if_pos e]; exact hv
          · rw [if_neg (fun z => e (hi _ _ z)), if_neg e]; exact i1
  · rw [if_neg e, if_neg e]
    exact ⟨_, _, rfl, by simp, by rw [List.map_append]; exact h.append ⟨v, [], rfl, hv, rfl⟩⟩
def kPut2 (i:Nat) (env:En) (ks:List DK) (ds:List D) (d:D) (k:R) : Res Fl := match keyX k.d with
  | some x => if ks.all (kin x) /\ ks.length < lim then .ok (.nx (env.set i (some (.tre (dicPut ks ds x d))))) else .stuck
  | none => .stuck
def kPut1 (i:Nat) (fk:En -> Res R) (env:En) (ks:List DK) (ds:List D) (r:R) : Res Fl := if r.d.flat then (fk env).bind (kPut2 i env ks ds r.d) else .stuck
def fPutD (i:Nat) (fk fv:En -> Res R) : En -> Res Fl := fun env => match env[i]? with
  | some (some (.tre (.dic ks ds))) => (fv env).bind (kPut1 i fk env ks ds)
  | _ => .stuck
theorem psd_put {i:Nat} {o ki value:Expr} {fk fv:En -> Res R} {pos pos':Pos} (hu:X.A.units + 64 < cLine) (ho:PE X o (tVar i)) (hk:PD X E ki fk) (hv:PD X E value fv)
    (hs:swapsWith value (some (.Subscript o ki pos')) pos.line X.env = pure false := by rfl) : PSD X E (.Assign [.Subscript o ki pos'] value pos) (fPutD i fk fv) := by
  obtain ⟨tk, p1, s1⟩ := hk
  obtain ⟨tv, p2, s2⟩ := hv
  refine ⟨_, ps_dputX (by omega) ho p1 p2 hs, fun g M ρ env σ H D rep p => ?_⟩
  unfold fPutD at p
  split at p
  · rename_i ks ds hq
    have hi:i < env.length := (List.getElem?_eq_some_iff.mp hq).1
    refine s2.oneS rep p fun r v M1 H1 e1 rep1 ro p1 => ?_
    obtain ⟨M1', x1, x1m, rep1', is1⟩ := ro.is rep1 e1 rep.same
    unfold kPut1 at p1
    by_cases hf:r.d.flat = true
    · rw [if_pos hf] at p1
      obtain ⟨va, ev, ka⟩ := rep1'.slot i _ hq
      have ka:Is H1 (ρ i) (.dic ks ds) va := ka
      obtain ⟨a, vs, rfl, ⟨dat, pa⟩, hall⟩ := ka
      refine ⟨.ref a, ev, s1.oneS rep1' (PostS.frz ⟨x1m, fun _ _ q _ => q⟩ p1) fun rk y M2 H2 e2 rep2 rok p2 => ?_⟩
      obtain ⟨M2', x2, x2m, rep2', is2⟩ := rok.is rep2 e2 rep1'.same
      unfold kPut2 at p2
      cases qk:keyX rk.d with
      | none => rw [qk] at p2; exact p2.elim
      | some x =>
        rw [qk] at p2
        dsimp only at p2
        by_cases hc:ks.all (kin x) = true /\ ks.length < lim
        · rw [if_pos hc] at p2
          have dat2:DAt H2 a ks vs := dat.keep fun o e => e2.h _ _ e
          have hall2:IsAll H2 (ρ i) ds vs := hall.same e2.h
          have hv2:Is H2 (ρ i) r.d v := Is.flat hf (is1.same e2.h)
          have kd:Is H2 (ρ i) (.dic ks ds) (.ref a) := ⟨a, vs, rfl, ⟨dat2, pa⟩, hall2⟩
          have inner:IsAll H2 (fun b => ρ i b /\ b ≠ a) ds vs := IsAll.avoid kd (by simp only [L3.D.sz]; omega) hall2
          have hv3:Is H2 (fun b => ρ i b /\ b ≠ a) r.d v := Is.flat hf hv2
          have nofz:∀ o u, H2 a ≠ some (.frz o u) := fun o u z => by
            obtain ⟨_, _, uo, q, qm⟩ := rep2'.priv i a pa
            rw [z] at q; cases q; exact qm
          obtain ⟨uo, huo, hmo⟩ := dat2.mu nofz
          have rdn:∀ u, Rd H2 a u -> H2 a = some u := fun u z => z.elim id fun ⟨o, z⟩ => (nofz _ _ z).elim
          have nfx:∀ u, H2 a = some u -> ¬ fixd u := fun u e z => by
            rw [huo] at e; cases e
            cases uo <;> first | exact z | exact hmo
          have fin:∀ (u':HO) (ks':List DK) (ds':List L3.D) (vs':List V), mutO u' -> DAt (upd H2 a u') a ks' vs' -> dicPut ks ds x r.d = .dic ks' ds' -> IsAll H2 (fun b => ρ i b /\ b ≠ a) ds' vs' -> D.nx σ (upd H2 a u') := fun u' ks' ds' vs' hu' hd he hall' => by
            rw [he] at p2
            have hall3:IsAll (upd H2 a u') (ρ i) ds' vs' := hall'.mono (fun b u q z => by
              rw [upd_ne]
              · exact q
              · rintro rfl
                rcases z with z | z
                · exact z.2 rfl
                · exact nfx u q z) fun _ _ _ z => z.1
            obtain ⟨f1, rep3⟩ := rep2'.writeO (u' := u') hu' pa hi ev (sl := .tre (.dic ks' ds')) ⟨a, vs', rfl, ⟨hd, pa⟩, hall3⟩
            exact p2 σ M2' ρ _ (Frz.trans ⟨x2m, fun _ _ q _ => q⟩ f1) rep3
          refine ⟨a, ?_⟩
          rcases is2.keyX qk with ⟨k0, rfl, rfl⟩ | ⟨k0, b, rfl, rfl, hb⟩
          · rcases dat2 with ⟨kvs, e1, rfl, rfl⟩ | ⟨kvs, e1, rfl, rfl⟩
            · obtain ⟨ks', ds', g1, g2, g3⟩ := put_rel Sum.inl (fun _ _ z => Sum.inl.inj z) (k := k0) inner hv3
              refine ⟨_, rfl, .inl (DPut.k (rdn _ e1) (by have := hc.2; rw [List.length_map] at this; exact lim_lt this)), fin _ ks' ds' _ True.intro (.inl ⟨_, .inl upd_same, g2, rfl⟩) g1 g3⟩
            · cases kvs with
              | nil =>
                cases ds with
                | nil => exact ⟨_, rfl, .inr (.inl ⟨rdn _ e1, k0, rfl, rfl⟩), fin (.dK [(k0, v)]) [.inl k0] [r.d] [v] True.intro (.inl ⟨_, .inl upd_same, rfl, rfl⟩) rfl ⟨v, [], rfl, hv3, rfl⟩⟩
                | cons d0 ds0 => obtain ⟨_, _, z, _⟩ := inner; cases z
              | cons q r0 => simp [kin] at hc
          · rcases dat2 with ⟨kvs, e1, rfl, rfl⟩ | ⟨kvs, e1, rfl, rfl⟩
            · cases kvs with
              | nil =>
                cases ds with
                | nil => exact ⟨_, rfl, .inr (.inr ⟨rdn _ e1, b, k0, rfl, hb, rfl⟩), fin (.dT [(k0, v)]) [.inr k0] [r.d] [v] True.intro (.inr ⟨_, .inl upd_same, rfl, rfl⟩) rfl ⟨v, [], rfl, hv3, rfl⟩⟩
                | cons d0 ds0 => obtain ⟨_, _, z, _⟩ := inner; cases z
              | cons q r0 => simp [kin] at hc
            · obtain ⟨ks', ds', g1, g2, g3⟩ := put_rel Sum.inr (fun _ _ z => Sum.inr.inj z) (k := k0) inner hv3
              refine ⟨_, rfl, .inl (DPut.t (rdn _ e1) hb (by have := hc.2; rw [List.length_map] at this; exact lim_lt this)), fin _ ks' ds' _ True.intro (.inr ⟨_, .inl upd_same, g2, rfl⟩) g1 g3⟩
        · rw [if_neg hc] at p2; exact p2.elim
    · rw [if_neg hf] at p1; exact p1.elim
  · exact p.elim
end
end L3
namespace L3
open PySem PySem.Spec PyProof.Rows L2
section
variable {X:Cx} {E:XK}
def oShr:R -> R -> Res R := oI (fun _ j => decide (0 <= j)) fun i j => .int (i / 2 ^ j.toNat)
def oBand:R -> R -> Res R := oI (fun _ _ => true) fun i j => .int (Builtin.bitAnd i j)
theorem od_shr:OpD X E (binaryOp .RShift) oShr := opd_I _ _ op_shr (fun i j h => by simpa using h) fun _ _ _ _ => rfl
theorem od_band:OpD X E (binaryOp .BitAnd) oBand := opd_I0 _ op_and fun _ _ _ _ => rfl
def kAny:List R -> Res R
  | [r] => match r.d with
    | .lst ds => match bools ds with
      | some bs => .ok (.val (.bl (bs.any id)) true [])
      | none => .stuck
    | _ => .stuck
  | _ => .stuck
theorem call_anyB (hc : X.calm = true) : CallR X (.builtin "any") (fun xs H Q => ∃ (p : Addr) (vs : List V) (bs : List Bool), xs = [.ref p] /\ SqL X.K H p vs /\ vs = bs.map V.bl /\ Q (.bl (bs.any id)) H) := by
  intro pins s σ H xs us Q I r h
  obtain ⟨p, vs, bs, rfl, hq, rfl, q⟩ := h
  obtain ⟨u, rfl, rx⟩ := vals1 r
  cases rx
  obtain ⟨its, rv, pl, hz⟩ := I.list hq
  have hh:X.A.in1.handled = none := I.ok.hd hc
  obtain ⟨o, ho, _⟩ := pl.isList
  have hlt:p < s.heap.objs.size := Heap.lt_size ho
  refine call_any_walk (wpAny_pyIter_list pl.isList ?_)
  refine ⟨s.heap.objs.size, _, _, _, _, _, fun i => (bs[i]?).getD false, rfl, Walks.list hh s.heap.objs.size p (Nat.ne_of_lt hlt) its.toArray, ⟨⟨_, Heap.get?_push_size _ rfl, rfl, rfl⟩, ?_⟩, ?_, fun h' tk hk => ?_⟩
  · exact pl.isList.at fun o e => Heap.get?_push_of_some _ e
  · intro i v s' Q' E' hv hQ'
    have hv:its[i]? = some v := by simpa using hv
    have hi:i < its.length := (List.getElem?_eq_some_iff.mp hv).1
    have hl := rv.length
    have hb:i < bs.length := by simpa using (by rw [List.length_map] at hl; omega:i < bs.length)
    obtain ⟨u', hu, ru⟩ := rv.get (i := i) (x := .bl bs[i]) (by simp [hb])
    rw [hv] at hu; cases hu
    cases ru
    have eb:bs[i]? = some bs[i] := by simp [hb]
    dsimp only at hQ'
    rw [eb] at hQ'
    exact wpAny_truthy_bool hQ'
  · have hl := rv.length
    rw [List.length_map] at hl
    have e:((List.range its.toArray.size).any fun i => (bs[i]?).getD false) = bs.any id := by
      rw [List.size_toArray, <- hl]
      rw [Bool.eq_iff_iff, List.any_eq_true, List.any_eq_true]
      constructor
      · rintro ⟨i, hi, h⟩
        have hi:i < bs.length := by simpa using hi
        have eb:bs[i]? = some bs[i] := by simp [hi]
        rw [eb] at h
        exact ⟨bs[i], List.getElem_mem hi, h⟩
      · rintro ⟨b, hb, h⟩
        obtain ⟨i, hi⟩ := List.mem_iff_getElem?.mp hb
        refine ⟨i, by simp; exact (List.getElem?_eq_some_iff.mp hi).1, ?_⟩
        rw [hi]; exact h
    rw [e]
    refine ⟨.bl _, H, ?_, rfl, q⟩
    have I1 : L2.Inv X pins σ H { s with heap := s.heap.push { cls := .type "list_iterator", data := .fields #[.ref p, .int 0 0] } } := I.kept (t' := s.toks) fun b o e => Heap.get?_push_of_some _ e
    have fo := I.fpOk (H' := H) (Nat.le_refl s.heap.objs.size) (I.hok.fresh (Nat.le_refl _))
    exact I1.turned (t' := tk) (it := s.heap.objs.size) (fun b o hb e => hk b o (by simpa using hb) e) fo.1 fo.2.1 fo.2.2.2.1 fo.2.2.2.2.1 fo.2.2.2.2.2
theorem cd_any (hc : X.calm = true) : CallD X E (.builtin "any") kAny := by
  refine ⟨_, call_anyB hc, fun g M ρ env σ H Q rs vs rep i p => ?_⟩
  match rs, i, p with
  | [r], i, p =>
    obtain ⟨v, w, rfl, i1, i2⟩ := i
    cases i2
    have i1:Is H (vmsk g M (rfrs [r]) ρ (rals [r])) r.d v := i1
    unfold kAny at p
    dsimp only at p
    cases q:r.d with
    | lst ds =>
      rw [q] at p i1
      obtain ⟨a, ws, rfl, h1, h2⟩ := i1.rd
      dsimp only at p
      cases qb:bools ds with
      | none => rw [qb] at p; exact p.elim
      | some bs =>
        rw [qb] at p
        refine ⟨a, ws, bs, rfl, .inl h1, ?_, p _ M H (Ext.refl _ _) rep rfl⟩
        apply List.ext_getElem?
        intro j
        by_cases hj:j < ds.length
        · obtain ⟨b, e1, e2⟩ := bools_get (i := j) (d := ds[j]) qb (by simp [hj])
          obtain ⟨v', ev, iv⟩ := h2.get (i := j) (d := ds[j]) (by simp [hj])
          rw [e1] at iv
          cases iv
          rw [ev, List.getElem?_map, e2]; rfl
        · have l1 := h2.length
          have l2 := bools_len qb
          rw [List.getElem?_eq_none (by omega), List.getElem?_eq_none (by simp; omega)]
    | _ => rw [q] at p; exact p.elim
  | [], _, p => exact p.elim
  | _ :: _ :: _, _, p => exact p.elim
end
end L3
namespace L3
open PySem PySem.Spec PyProof.Rows L2
def setAtX (i:Nat) (fk fv:En -> Res R) (env:En) : Option (Option Sl) -> Res Fl
  | some (some (.tre (.dic _ _))) => fPutD i fk fv env
  | _ => fSetI i fk fv env
def fSetX (i:Nat) (fk fv:En -> Res R) : En -> Res Fl := fun env => setAtX i fk fv env env[i]?
theorem psd_setX {X:Cx} {E:XK} {i:Nat} {fk fv:En -> Res R} {st:Stmt} (h1:PSD X E st (fSetI i fk fv)) (h2:PSD X E st (fPutD i fk fv)) : PSD X E st (fSetX i fk fv) := by
  obtain ⟨t1, p1, s1⟩ := h1
  obtain ⟨t2, p2, s2⟩ := h2
  refine ⟨fun D σ H => t1 D σ H \/ t2 D σ H, fun pins s σ H D I h => h.elim (p1 pins s σ H D I) (p2 pins s σ H D I), fun g M ρ env σ H D rep p => ?_⟩
  unfold fSetX setAtX at p
  split at p
  · exact .inr (s2 g M ρ env σ H D rep p)
  · exact .inl (s1 g M ρ env σ H D rep p)
end L3
namespace L3
open PySem PySem.Spec PyProof.Rows L2
def getD:List DK -> List D -> DK -> Option D
  | k' :: ks, d :: ds, k => if k' = k then some d else getD ks ds k
  | _, _, _ => none
def oDGet (ra rk:R) : Res R := match ra.d with
  | .dic ks ds => match keyX rk.d with
    | some x => if ks.all (kin x) then (match getD ks ds x with
      | some d => .ok (mkV d ra.fr ra.al)
      | none => .stuck) else .stuck
    | none => .stuck
  | _ => .stuck
theorem get_rel {κ:Type} [DecidableEq κ] (inj:κ -> DK) (hi:∀ a b, inj a = inj b -> a = b) {H:Hp} {m:Addr -> Prop} {k:κ} {d:D} : ∀ {kvs:List (κ × V)} {ds:List D}, IsAll H m ds (kvs.map Prod.snd) -> getD (kvs.map fun p => inj p.1) ds (inj k) = some d -> ∃ v, valV kvs k = some v /\ Is H m d v
  | [], ds, _, e => by cases ds <;> cases e
  | p :: r, [], h, e => by cases h
  | p :: r, d0 :: ds, h, e => by
    obtain ⟨v0, r0, z, i1, i2⟩ := h
    cases z
    rw [List.map_cons] at e
    unfold getD at e
    by_cases hk:p.1 = k
    · rw [if_pos (congrArg inj hk)] at e
      cases e
      exact ⟨p.2, valV_pos hk, i1⟩
    · rw [if_neg (fun z => hk (hi _ _ z))] at e
      obtain ⟨v, e1, e2⟩ := get_rel inj hi i2 e
      exact ⟨v, by rw [valV_neg hk]; exact e1, e2⟩
section
variable {X:Cx} {E:XK}
theorem pd_dget {o k:Expr} {fa fk:En -> Res R} {pos:Pos} (hu:X.A.units + 64 < cLine) (ho:PD X E o fa) (hk:PD X E k fk) (hs:NoSl k) : PD X E (.Subscript o k pos) (v2 oDGet fa fk) := by
  obtain ⟨ta, p1, s1⟩ := ho
  obtain ⟨tk, p2, s2⟩ := hk
  refine ⟨_, pe_dget (by omega) p1 p2 hs, fun g M ρ env σ H Q rep p => s1.twoE s2 rep p fun ra rk x y M1 H1 rep1 i1 i2 q => ?_⟩
  unfold oDGet at q
  cases qa:ra.d with
  | dic ks ds =>
    rw [qa] at q i1
    dsimp only at q
    cases qk:keyX rk.d with
    | none => rw [qk] at q; exact q.elim
    | some kx =>
      rw [qk] at q
      dsimp only at q
      by_cases hc:ks.all (kin kx) = true
      · rw [if_pos hc] at q
        obtain ⟨a, vs, rfl, ⟨dat, _⟩, hall⟩ := i1
        cases qd:getD ks ds kx with
        | none => rw [qd] at q; exact q.elim
        | some d =>
          rw [qd] at q
          refine ⟨a, ?_⟩
          rcases i2.keyX qk with ⟨k0, rfl, rfl⟩ | ⟨k0, b, rfl, rfl, hb⟩
          · rcases dat with ⟨kvs, e1, rfl, rfl⟩ | ⟨kvs, e1, rfl, rfl⟩
            · obtain ⟨v, g1, g2⟩ := get_rel Sum.inl (fun _ _ z => Sum.inl.inj z) hall qd
              exact ⟨v, rfl, by rw [<- g1]; exact .inl ⟨kvs, k0, e1, rfl, rfl⟩, q.val rep1 g2⟩
            · cases kvs with
              | nil => cases ds <;> cases qd
              | cons p r => simp [kin] at hc
          · rcases dat with ⟨kvs, e1, rfl, rfl⟩ | ⟨kvs, e1, rfl, rfl⟩
            · cases kvs with
              | nil => cases ds <;> cases qd
              | cons p r => simp [kin] at hc
            · obtain ⟨v, g1, g2⟩ := get_rel Sum.inr (fun _ _ z => Sum.inr.inj z) hall qd
              exact ⟨v, rfl, by rw [<- g1]; exact .inr ⟨kvs, k0, b, e1, rfl, hb, rfl⟩, q.val rep1 g2⟩
      · rw [if_neg hc] at q; exact q.elim
  | _ => rw [qa] at q; exact q.elim
def ixAtX (i:Nat) (fb:En -> Res R) (env:En) : Option (Option Sl) -> Res R
  | some (some (.tre (.dic _ _))) => v2 oDGet (vVar i) fb env
  | some (some (.val (.dic _ _) _)) => v2 oDGet (vVar i) fb env
  | _ => vIxV i fb env
def vIxX (i:Nat) (fb:En -> Res R) : En -> Res R := fun env => ixAtX i fb env env[i]?
theorem pd_ixX {e:Expr} {i:Nat} {fb:En -> Res R} (h1:PD X E e (vIxV i fb)) (h2:PD X E e (v2 oDGet (vVar i) fb)) : PD X E e (vIxX i fb) := by
  obtain ⟨t1, p1, s1⟩ := h1
  obtain ⟨t2, p2, s2⟩ := h2
  refine ⟨fun σ H Q => t1 σ H Q \/ t2 σ H Q, fun pins s σ H Q I h => h.elim (p1 pins s σ H Q I) (p2 pins s σ H Q I), fun g M ρ env σ H Q rep p => ?_⟩
  unfold vIxX ixAtX at p
  split at p
  · exact .inr (s2 g M ρ env σ H Q rep p)
  · exact .inr (s2 g M ρ env σ H Q rep p)
  · exact .inl (s1 g M ρ env σ H Q rep p)
def kG3 (ra:R) (ks:List DK) (ds:List D) (rk rz:R) : Res R := match keyX rk.d with
  | some x => if ks.all (kin x) then (match getD ks ds x with
    | some d => .ok (mkV d ra.fr ra.al)
    | none => .ok (mkV rz.d rz.fr rz.al)) else .stuck
  | none => .stuck
def kG2 (fx:En -> Res R) (env:En) (ra:R) (ks:List DK) (ds:List D) (rk:R) : Res R := (fx env).bind (kG3 ra ks ds rk)
def kG1 (fk fx:En -> Res R) (env:En) (ra:R) : Res R := match ra.d with
  | .dic ks ds => (fk env).bind (kG2 fx env ra ks ds)
  | _ => .stuck
def vGet2 (fa fk fx:En -> Res R) : En -> Res R := fun env => (fa env).bind (kG1 fk fx env)
theorem DAt.isD {H:Hp} {a:Addr} {ks:List DK} {vs:List V} (h:DAt H a ks vs) : IsD H a := h.imp (fun ⟨kvs, e, _⟩ => ⟨kvs, e⟩) fun ⟨kvs, e, _⟩ => ⟨kvs, e⟩
theorem has_get:∀ {ks:List DK} {ds:List D} {k:DK}, ks.length = ds.length -> hasK ks k = (getD ks ds k).isSome
  | [], ds, k, _ => by cases ds <;> rfl
  | k' :: ks, [], k, h => by cases h
  | k' :: ks, d :: ds, k, h => by
    have ih := has_get (ks := ks) (ds := ds) (k := k) (by simpa using h)
    unfold hasK getD
    unfold hasK at ih
    rw [List.any_cons]
    by_cases e:k' = k
    · rw [if_pos e, decide_eq_true e]; rfl
    · rw [if_neg e, decide_eq_false e, Bool.false_or]; exact ih
theorem dget_val {H:Hp} {a:Addr} {ks:List DK} {vs:List V} {ds:List D} {m m':Addr -> Prop} {d:D} {x:V} {k:DK} (h:DAt H a ks vs) (hall:IsAll H m ds vs) (hx:Is H m' d x) (e:L3.keyX d = some k) (hk:ks.all (kin k) = true) :
    ∃ o, DGetX H a x o /\ (match getD ks ds k with | some d => ∃ v, o = some v /\ Is H m d v | none => o = none) := by
  have key:∀ {κ:Type} [DecidableEq κ] (inj:κ -> DK) (hi:∀ a b, inj a = inj b -> a = b) (kvs:List (κ × V)) (k0:κ), IsAll H m ds (kvs.map Prod.snd) -> (match getD (kvs.map fun p => inj p.1) ds (inj k0) with | some d => ∃ v, valV kvs k0 = some v /\ Is H m d v | none => valV kvs k0 = none) := by
    intro κ _ inj hi kvs k0 hl
    have hlen:(kvs.map fun p => inj p.1).length = ds.length := by have := hl.length; rw [List.length_map] at this ⊢; exact this
    have h1 := has_get (k := inj k0) hlen
    have h2 := valV_has (kvs := kvs) inj hi k0
    cases q:getD (kvs.map fun p => inj p.1) ds (inj k0) with
    | some d => exact get_rel inj hi hl q
    | none =>
      rw [q] at h1
      rw [h1] at h2
      cases z:valV kvs k0 with
      | none => rfl
      | some v => rw [z] at h2; cases h2
  rcases hx.keyX e with ⟨k0, rfl, rfl⟩ | ⟨k0, b, rfl, rfl, hb⟩
  · rcases h with ⟨kvs, e1, rfl, rfl⟩ | ⟨kvs, e1, rfl, rfl⟩
    · exact ⟨_, .inl (.inl ⟨kvs, k0, e1, rfl, rfl⟩), key Sum.inl (fun _ _ z => Sum.inl.inj z) kvs k0 hall⟩
    · cases kvs with
      | nil => exact ⟨none, .inr (.inl ⟨e1, ⟨k0, rfl⟩, rfl⟩), by cases ds <;> rfl⟩
      | cons p r => simp [kin] at hk
  · rcases h with ⟨kvs, e1, rfl, rfl⟩ | ⟨kvs, e1, rfl, rfl⟩
    · cases kvs with
      | nil => exact ⟨none, .inr (.inr ⟨e1, ⟨b, k0, rfl, hb⟩, rfl⟩), by cases ds <;> rfl⟩
      | cons p r => simp [kin] at hk
    · exact ⟨_, .inl (.inr ⟨kvs, k0, b, e1, rfl, hb, rfl⟩), key Sum.inr (fun _ _ z => Sum.inr.inj z) kvs k0 hall⟩
theorem pd_get2 {o k x : Expr} {fa fk fx : En -> Res R} {apos cpos : Pos} (hu : X.A.units + 64 < cLine) (ho : PD X E o fa) (hk : PD X E k fk) (hx : PD X E x fx) (m : M2 X o "get" apos k x cpos) : PD X E (.Call (.Attribute o "get" apos) [k, x] [] cpos) (vGet2 fa fk fx) := by
  obtain ⟨ta, p1, s1⟩ := ho
  obtain ⟨tk, p2, s2⟩ := hk
  obtain ⟨tx, p3, s3⟩ := hx
  refine ⟨_, pe_dget2X (by omega) p1 p2 p3 m, fun g M ρ env σ H Q rep p => s1.oneE rep p fun ra v M1 H1 e1 rep1 i1 q1 => ?_⟩
  unfold kG1 at q1
  cases qa:ra.d with
  | dic ks ds =>
    rw [qa] at q1 i1
    dsimp only at q1
    obtain ⟨a, vs, rfl, ⟨dat, ma⟩, hall⟩ := i1
    refine ⟨a, rfl, dat.isD, s2.oneE rep1 q1 fun rk y M2 H2 e2 rep2 i2 q2 => ?_⟩
    refine s3.oneE rep2 q2 fun rz z M3 H3 e3 rep3 i3 q3 => ?_
    unfold kG3 at q3
    cases qk:keyX rk.d with
    | none => rw [qk] at q3; exact q3.elim
    | some kx =>
      rw [qk] at q3
      dsimp only at q3
      by_cases hc:ks.all (kin kx) = true
      · rw [if_pos hc] at q3
        have dat3:DAt H3 a ks vs := dat.keep fun o e => e3.h _ _ (e2.h _ _ e)
        have hall3:IsAll H3 (vmsk g M3 ra.fr ρ ra.al) ds vs := (hall.ext e2).ext e3
        obtain ⟨ov, g1, g2⟩ := dget_val dat3 hall3 (i2.ext e3) qk hc
        refine ⟨ov, g1, ?_⟩
        cases qd:getD ks ds kx with
        | some d =>
          rw [qd] at q3 g2
          obtain ⟨v, rfl, iv⟩ := g2
          exact q3.val rep3 iv
        | none =>
          rw [qd] at q3 g2
          have g2:ov = none := g2
          subst g2
          exact q3.val rep3 i3
      · rw [if_neg hc] at q3; exact q3.elim
  | _ => rw [qa] at q1; exact q1.elim
end
end L3
namespace L3
open PySem PySem.Spec PyProof.Rows L2
def intsD:List D -> Option (List Int)
  | [] => some []
  | .int i :: r => (intsD r).map (i :: ·)
  | _ :: _ => none
def tupI:D -> Option (List Int)
  | .tup ds => intsD ds
  | _ => none
def tupsI:List D -> Option (List (List Int))
  | [] => some []
  | d :: r => match tupI d, tupsI r with
    | some k, some ks => some (k :: ks)
    | _, _ => none
def tupD (k:List Int) : D := .tup (k.map .int)
def insK (k:List Int) : List (List Int) -> List (List Int)
  | [] => [k]
  | h :: t => if k = h then h :: t else if lexB k h then k :: h :: t else h :: insK k t
def sortK:List (List Int) -> List (List Int)
  | [] => []
  | k :: ks => insK k (sortK ks)
def kSS (r:R) : Res R := match r.d with
  | .lst ds => match tupsI ds with
    | some ks => if decide (ds.length <= 63) && ks.all (fun k => !k.isEmpty) then .ok (.new ((sortK ks).map tupD) true) else .stuck
    | none => .stuck
  | _ => .stuck
def vSS (f:En -> Res R) : En -> Res R := fun env => (f env).bind kSS
theorem ins_mem (k x:List Int) : ∀ l, x ∈ insK k l ↔ x = k \/ x ∈ l
  | [] => by simp [insK]
  | h :: t => by
    unfold insK
    split
    · rename_i e; subst e; simp
    · split
      · simp
      · rw [List.mem_cons, ins_mem k x t, List.mem_cons]
        constructor
        · rintro (z | z | z)
          · exact .inr (.inl z)
          · exact .inl z
          · exact .inr (.inr z)
        · rintro (z | z | z)
          · exact .inr (.inl z)
          · exact .inl z
          · exact .inr (.inr z)
theorem ins_pw (k:List Int) : ∀ l, l.Pairwise (fun x y => lexB x y = true) -> (insK k l).Pairwise (fun x y => lexB x y = true)
  | [], _ => List.pairwise_singleton _ _
  | h :: t, p => by
    obtain ⟨p1, p2⟩ := List.pairwise_cons.mp p
    unfold insK
    split
    · exact p
    · rename_i hne
      split
      · rename_i hlt
        refine List.pairwise_cons.mpr ⟨fun y hy => ?_, p⟩
        rcases List.mem_cons.mp hy with rfl | hy
        · exact hlt
        · exact lex_tr _ _ _ hlt (p1 y hy)
      · rename_i hlt
        refine List.pairwise_cons.mpr ⟨fun y hy => ?_, ins_pw k t p2⟩
        rcases (ins_mem k y t).mp hy with rfl | hy
        · exact (lex_tot _ _ hne).resolve_left hlt
        · exact p1 y hy
theorem sort_mem (x:List Int) : ∀ ks, x ∈ sortK ks ↔ x ∈ ks
  | [] => by simp [sortK]
  | k :: ks => by unfold sortK; rw [ins_mem, sort_mem x ks, List.mem_cons]
theorem sort_pw:∀ ks, (sortK ks).Pairwise (fun x y => lexB x y = true)
  | [] => List.Pairwise.nil
  | k :: ks => by unfold sortK; exact ins_pw k _ (sort_pw ks)
theorem lex_asym {a b:List Int} (h:lexB a b = true) : lexB b a = false := by
  cases q:lexB b a with
  | false => rfl
  | true => have := lex_tr _ _ _ h q; rw [lex_irr] at this; cases this
theorem sorted_ext:∀ (a b:List (List Int)), a.Pairwise (fun x y => lexB x y = true) -> b.Pairwise (fun x y => lexB x y = true) -> (∀ x, x ∈ a ↔ x ∈ b) -> a = b
  | [], [], _, _, _ => rfl
  | [], y :: b, _, _, h => by have := (h y).mpr List.mem_cons_self; simp at this
  | x :: a, [], _, _, h => by have := (h x).mp List.mem_cons_self; simp at this
  | x :: a, y :: b, pa, pb, h => by
    obtain ⟨a1, a2⟩ := List.pairwise_cons.mp pa
    obtain ⟨b1, b2⟩ := List.pairwise_cons.mp pb
    have hxy:x = y := by
      rcases List.mem_cons.mp ((h x).mp List.mem_cons_self) with e | e
      · exact e
      · rcases List.mem_cons.mp ((h y).mpr List.mem_cons_self) with e' | e'
        · exact e'.symm
        · have := lex_asym (a1 y e'); rw [b1 x e] at this; cases this
    subst hxy
    rw [sorted_ext a b a2 b2 fun z => ?_]
    constructor
    · intro hz
      rcases List.mem_cons.mp ((h z).mp (List.mem_cons_of_mem _ hz)) with e | e
      · have := a1 z hz; rw [e, lex_irr] at this; cases this
      · exact e
    · intro hz
      rcases List.mem_cons.mp ((h z).mpr (List.mem_cons_of_mem _ hz)) with e | e
      · have := b1 z hz; rw [e, lex_irr] at this; cases this
      · exact e
section
variable {H:Hp} {m:Addr -> Prop}
theorem IsAll.ints:∀ {ds:List D} {vs:List V} {k:List Int}, IsAll H m ds vs -> intsD ds = some k -> vs = (iK k).map kV
  | [], _, _, h, e => by cases h; cases e; rfl
  | d :: ds, _, k, h, e => by
    obtain ⟨v, r, rfl, h1, h2⟩ := h
    cases d with
    | int i =>
      unfold intsD at e
      obtain ⟨k', e1, rfl⟩ := Option.map_eq_some_iff.mp e
      rw [IsAll.ints h2 e1, show v = V.int i from h1]; rfl
    | _ => cases e
theorem isAll_intK:∀ (k:List Int), IsAll H m (k.map .int) ((iK k).map kV)
  | [] => rfl
  | i :: k => ⟨.int i, _, rfl, rfl, isAll_intK k⟩
theorem IsAll.tupsI:∀ {ds:List D} {vs:List V} {ks:List (List Int)}, IsAll H m ds vs -> L3.tupsI ds = some ks -> ∃ its:List TItem, TupsIn H vs its /\ its.map (·.1) = ks
  | [], _, _, h, e => by cases h; cases e; exact ⟨[], .nil, rfl⟩
  | d :: ds, _, ks, h, e => by
    obtain ⟨v, r, rfl, h1, h2⟩ := h
    unfold L3.tupsI at e
    cases q:tupI d with
    | none => rw [q] at e; cases e
    | some k =>
      cases q2:L3.tupsI ds with
      | none => rw [q, q2] at e; cases e
      | some ks' =>
        rw [q, q2] at e; cases e
        obtain ⟨its, t1, t2⟩ := IsAll.tupsI h2 q2
        cases d with
        | tup es =>
          obtain ⟨a, ws, rfl, g1, g2⟩ := h1
          have q:intsD es = some k := q
          rw [IsAll.ints g2 q] at g1
          exact ⟨(k, a) :: its, .cons ⟨rfl, g1⟩ t1, by rw [List.map_cons, t2]⟩
        | _ => cases q
end
theorem paired_len {H:Hp} : ∀ {vs:List V} {its:List TItem}, TupsIn H vs its -> vs.length = its.length
  | _, _, .nil => rfl
  | _, _, .cons _ t => by simp [paired_len t]
theorem tupsIn_at {H:Hp} : ∀ {vs:List V} {its:List TItem}, TupsIn H vs its -> ∀ x ∈ its, H x.2 = some (.tup ((iK x.1).map kV))
  | _, _, .nil, x, hx => nomatch hx
  | _, _, .cons q t, x, hx => by
    rcases List.mem_cons.mp hx with rfl | hx
    · exact q.2
    · exact tupsIn_at t x hx
theorem isAll_items {H:Hp} {m:Addr -> Prop} : ∀ {ys:List TItem}, (∀ y ∈ ys, H y.2 = some (.tup ((iK y.1).map kV))) -> IsAll H m (ys.map (tupD ∘ fun y => y.1)) (ys.map fun y => .ref y.2)
  | [], _ => rfl
  | y :: ys, h => ⟨.ref y.2, _, rfl, ⟨y.2, _, rfl, h y List.mem_cons_self, isAll_intK y.1⟩, isAll_items fun z hz => h z (List.mem_cons_of_mem _ hz)⟩
section
variable {X:Cx} {E:XK}
theorem pd_sortedSet {e:Expr} {f:En -> Res R} {x1 x2:Str} {p1 p2 pos1 pos2:Pos} (hc:X.calm = true) (hu:X.A.units + 64 < cLine) (h:PD X E e f)
    (hg1 : Gl X x1) (hm1 : X.mg x1 = none) (hv1 : bootBuiltins x1 = some (.builtin "sorted")) (hg2 : Gl X x2) (hm2 : X.mg x2 = none) (hv2 : bootBuiltins x2 = some (.type "set"))
    (hn1 : x1 ≠ "__name__" := by decide) (hdb1 : (x1 == ("__debug__" : Str)) = false := by decide) (hn2 : x2 ≠ "__name__" := by decide) (hdb2 : (x2 == ("__debug__" : Str)) = false := by decide)
    (he2:starEach [e] X.env = (false, eval e X.env) :: starEach [] X.env := by rfl) (hpl2:(backTo pos2 (starEach [] X.env)).any (·.1) = false := by rfl)
    (he1:starEach [.Call (.Name x2 p2) [e] [] pos2] X.env = (false, eval (.Call (.Name x2 p2) [e] [] pos2) X.env) :: starEach [] X.env := by rfl) (hpl1:(backTo pos1 (starEach [] X.env)).any (·.1) = false := by rfl) :
    PD X E (.Call (.Name x1 p1) [.Call (.Name x2 p2) [e] [] pos2] [] pos1) (vSS f) := by
  obtain ⟨t, p1, s1⟩ := h
  refine ⟨_, pe_callB (call_sortedR hc) hg1 hm1 hv1 (pa_cons (pe_callTy (call_setR hc hu) hg2 hm2 hv2 (pa_cons p1 pa_nil he2) hn2 hdb2 he2 hpl2) pa_nil he1) hn1 hdb1 he1 hpl1, fun g M ρ env σ H Q rep p => ?_⟩
  refine s1.oneE rep p fun r v M1 H1 e1 rep1 i1 q1 => ?_
  unfold kSS at q1
  cases qd:r.d with
  | lst ds =>
    rw [qd] at q1 i1
    dsimp only at q1
    cases qt:tupsI ds with
    | none => rw [qt] at q1; exact q1.elim
    | some ks =>
      rw [qt] at q1
      dsimp only at q1
      by_cases hcond:(decide (ds.length <= 63) && ks.all (fun k => !k.isEmpty)) = true
      · rw [if_pos hcond] at q1
        simp only [Bool.and_eq_true, decide_eq_true_eq, List.all_eq_true] at hcond
        obtain ⟨hl, hne⟩ := hcond
        obtain ⟨a, vs, rfl, h1, h2⟩ := i1.rd
        obtain ⟨its, t1, t2⟩ := h2.tupsI qt
        have hvl:vs.length <= 63 := by rw [h2.length]; exact hl
        have tat := tupsIn_at t1
        refine ⟨a, vs, its, rfl, h1, t1, hvl, fun b es hb v => ?_⟩
        refine ⟨b, es, its, rfl, upd_same, v, fun x hx => ?_, fun x hx z => ?_, by rw [<- paired_len t1]; exact hvl, fun l ys hl so => ?_⟩
        · rw [upd_ne (ne_of_none (tat x hx) hb)]; exact tat x hx
        · have:x.1 ∈ ks := by rw [<- t2]; exact List.mem_map.mpr ⟨x, hx, rfl⟩
          have := hne _ this
          rw [z] at this; simp at this
        · have hlb:l ≠ b := fun z => by rw [z, upd_same] at hl; cases hl
          have hl1:H1 l = none := by rw [upd_ne hlb] at hl; exact hl
          have sm1:Same H1 (upd H1 b (.ext fun h => SetAt X.w h b es)) := same_upd hb
          have sm2:Same (upd H1 b (.ext fun h => SetAt X.w h b es)) (upd (upd H1 b (.ext fun h => SetAt X.w h b es)) l (.lst (ys.map fun y => .ref y.2))) := same_upd hl
          have sm := sm1.trans sm2
          obtain ⟨z0, zm, zo⟩ := rep1.free hl1
          refine q1 _ M1 _ ⟨fun _ z => z, sm, fun _ z => .inl z⟩ (rep1.grow sm) ⟨l, _, rfl, upd_same, zm, hl1, zo, ?_⟩
          have ek:ys.map (·.1) = sortK ks := by
            refine sorted_ext _ _ ?_ (sort_pw ks) fun k => ?_
            · rw [List.pairwise_map]; exact so.pw
            · rw [sort_mem, <- t2]
              constructor
              · intro hk
                obtain ⟨y, hy, rfl⟩ := List.mem_map.mp hk
                exact List.mem_map.mpr ⟨y, so.sub y hy, rfl⟩
              · intro hk
                obtain ⟨x, hx, rfl⟩ := List.mem_map.mp hk
                obtain ⟨y, y1, y2⟩ := so.all x hx
                exact List.mem_map.mpr ⟨y, y1, y2⟩
          rw [<- ek, List.map_map]
          exact isAll_items (fun x hx => sm _ _ (tat x (so.sub x hx)))
      · rw [if_neg hcond] at q1; exact q1.elim
  | _ => rw [qd] at q1; exact q1.elim
end
end L3
namespace L3
open PySem PySem.Spec PyProof.Rows L2
section
variable {H H':Hp} {m m':Addr -> Prop}
mutual
theorem Is.view (hl:∀ a vs, H a = some (.lst vs) -> H' a = some (.lst vs)) (hf:∀ a o vs, H a = some (.frz o (.lst vs)) -> H' a = some (.frz o (.lst vs))) (ht:∀ a vs, H a = some (.tup vs) -> H' a = some (.tup vs)) (hd:∀ a u, dicO u -> Rd H a u -> Rd H' a u) (mm:∀ a, m a -> m' a) : ∀ {d:D} {v:V}, Is H m d v -> Is H' m' d v
  | .non, _, h => h
  | .bl _, _, h => h
  | .int _, _, h => h
  | .str _, _, h => h
  | .tup ds, _, h => by
    obtain ⟨a, vs, e, h1, h2⟩ := h
    exact ⟨a, vs, e, ht a _ h1, IsAll.view hl hf ht hd mm h2⟩
  | .lst ds, _, h => by
    obtain ⟨a, vs, e, h1, h2⟩ := h
    refine ⟨a, vs, e, ?_, IsAll.view hl hf ht hd mm h2⟩
    rcases h1 with ⟨h1, h3⟩ | ⟨o, h1, h3⟩
    · exact .inl ⟨hl a _ h1, mm a h3⟩
    · exact .inr ⟨o, hf a o _ h1, mm a h3⟩
  | .dic ks ds, _, h => by
    obtain ⟨a, vs, e, h1, h2⟩ := h
    refine ⟨a, vs, e, ⟨?_, mm a h1.2⟩, IsAll.view hl hf ht hd mm h2⟩
    exact h1.1.imp (fun ⟨kvs, e, r⟩ => ⟨kvs, hd a _ True.intro e, r⟩) fun ⟨kvs, e, r⟩ => ⟨kvs, hd a _ True.intro e, r⟩
theorem IsAll.view (hl:∀ a vs, H a = some (.lst vs) -> H' a = some (.lst vs)) (hf:∀ a o vs, H a = some (.frz o (.lst vs)) -> H' a = some (.frz o (.lst vs))) (ht:∀ a vs, H a = some (.tup vs) -> H' a = some (.tup vs)) (hd:∀ a u, dicO u -> Rd H a u -> Rd H' a u) (mm:∀ a, m a -> m' a) : ∀ {ds:List D} {vs:List V}, IsAll H m ds vs -> IsAll H' m' ds vs
  | [], _, h => h
  | d :: ds, _, h => by
    obtain ⟨v, r, e, h1, h2⟩ := h
    exact ⟨v, r, e, Is.view hl hf ht hd mm h1, IsAll.view hl hf ht hd mm h2⟩
end
mutual
theorem IsSh.view (hl:∀ a vs, H a = some (.lst vs) -> H' a = some (.lst vs)) (ht:∀ a vs, H a = some (.tup vs) -> H' a = some (.tup vs)) : ∀ {d:D} {v:V}, IsSh H m d v -> IsSh H' m d v
  | .non, _, h => h
  | .bl _, _, h => h
  | .int _, _, h => h
  | .str _, _, h => h
  | .tup ds, _, h => by
    obtain ⟨a, vs, e, h1, h2⟩ := h
    exact ⟨a, vs, e, ht a _ h1, IsShs.view hl ht h2⟩
  | .lst ds, _, h => by
    obtain ⟨a, vs, e, h1, h2⟩ := h
    exact ⟨a, vs, e, hl a _ h1, h2⟩
  | .dic _ _, _, h => h
theorem IsShs.view (hl:∀ a vs, H a = some (.lst vs) -> H' a = some (.lst vs)) (ht:∀ a vs, H a = some (.tup vs) -> H' a = some (.tup vs)) : ∀ {ds:List D} {vs:List V}, IsShs H m ds vs -> IsShs H' m ds vs
  | [], _, h => h
  | d :: ds, _, h => by
    obtain ⟨v, r, e, h1, h2⟩ := h
    exact ⟨v, r, e, IsSh.view hl ht h1, IsShs.view hl ht h2⟩
end
end
section
variable {g:Gd} {M:Addr -> Prop} {ρ:Pr} {env:En} {σ:St} {H:Hp} {d:Addr} {o:Obj} {u:HO}
open Classical in
noncomputable def stillG (g:Gd) (d:Addr) (o:Obj) (u:HO) : Gd := ⟨if g.H₀ d = none then g.H₀ else upd g.H₀ d (.frz o u), g.Ma, fun a => g.Z a \/ a = d⟩
theorem still_ne {b:Addr} (hb:b ≠ d) : (stillG g d o u).H₀ b = g.H₀ b := by
  unfold stillG
  dsimp only
  split
  · rfl
  · exact upd_ne hb
theorem still_none (b:Addr) : (stillG g d o u).H₀ b = none ↔ g.H₀ b = none := by
  by_cases hb:b = d
  · subst hb
    unfold stillG
    dsimp only
    split
    · exact Iff.rfl
    · rename_i h
      rw [upd_same]
      exact ⟨fun z => (by cases z), fun z => (h z).elim⟩
  · rw [still_ne hb]
theorem still_d (h:g.H₀ d ≠ none) : (stillG g d o u).H₀ d = some (.frz o u) := by
  unfold stillG
  dsimp only
  rw [if_neg h, upd_same]
theorem dic_kinds (hu:dicO u) (hd:H d = some u) : (∀ a vs, H a = some (.lst vs) -> a ≠ d) /\ (∀ a o vs, H a = some (.frz o (.lst vs)) -> a ≠ d) /\ ∀ a vs, H a = some (.tup vs) -> a ≠ d := by
  refine ⟨fun a vs e z => ?_, fun a o vs e z => ?_, fun a vs e z => ?_⟩ <;> (subst z; rw [hd] at e; cases e; exact hu)
theorem msk_still {fr:Bool} {a:Addr} : msk (stillG g d o u) M fr a ↔ msk g M fr a := by
  unfold msk
  rw [still_none]
theorem Rep.still (rep:Rep g M ρ env σ H) (hd:H d = some u) (hu:dicO u) (hm:M d) : Rep (stillG g d o u) M ρ env σ (upd H d (.frz o u)) := by
  obtain ⟨k1, k2, k3⟩ := dic_kinds hu hd
  have vl:∀ a vs, H a = some (.lst vs) -> upd H d (.frz o u) a = some (.lst vs) := fun a vs e => by rw [upd_ne (k1 a vs e)]; exact e
  have vf:∀ a o' vs, H a = some (.frz o' (.lst vs)) -> upd H d (.frz o u) a = some (.frz o' (.lst vs)) := fun a o' vs e => by rw [upd_ne (k2 a o' vs e)]; exact e
  have vt:∀ a vs, H a = some (.tup vs) -> upd H d (.frz o u) a = some (.tup vs) := fun a vs e => by rw [upd_ne (k3 a vs e)]; exact e
  have vd:∀ a u', dicO u' -> Rd H a u' -> Rd (upd H d (.frz o u)) a u' := fun a u' hu' e => by
    by_cases ha:a = d
    · subst ha
      rcases e with e | ⟨o', e⟩
      · rw [hd] at e; cases e; exact .inr ⟨o, upd_same⟩
      · rw [hd] at e; cases e; exact hu.elim
    · exact rdKeep e fun o' q => by rw [upd_ne ha]; exact q
  have pn:∀ i a, ρ i a -> a ≠ d := fun i a h z => (rep.priv i a h).1 (z ▸ hm)
  refine ⟨fun b x e => ?_, fun a ha => ?_, fun a ha => (rep.inn a ha).imp (still_none a).mpr id, fun a ha h0 => ?_, fun i sl e => ?_, fun i a h => ?_, rep.apart, rep.ow, rep.len, fun a z => ?_⟩
  · by_cases hb : b = d
    · subst hb
      have hn:g.H₀ b ≠ none := fun z => by rw [(still_none b).mpr z] at e; cases e
      rw [still_d hn] at e; cases e; exact upd_same
    · rw [still_ne hb] at e
      rw [upd_ne hb]; exact rep.same b x e
  · by_cases hb:a = d
    · rw [hb, upd_same]; simp
    · rw [upd_ne hb]; exact rep.froz a ha
  · by_cases hb : a = d
    · rw [hb]; exact .inr ⟨.inr rfl, o, u, upd_same⟩
    · rcases rep.fl a ha ((still_none a).mp h0) with q | ⟨q, o', u', e⟩
      · exact .inl (q.same fun o' e => by rw [upd_ne hb]; exact e)
      · exact .inr ⟨.inl q, o', u', by rw [upd_ne hb]; exact e⟩
  · obtain ⟨v, ev, k⟩ := rep.slot i sl e
    refine ⟨v, ev, ?_⟩
    cases sl with
    | val d' fr => exact Is.view vl vf vt vd (fun a z => msk_still.mpr z) k
    | own ds fr =>
      obtain ⟨a, vs, rfl, h1, h2, h3⟩ := k
      exact ⟨a, vs, rfl, vl _ _ h1, h2, IsAll.view vl vf vt vd (fun a z => msk_still.mpr z) h3⟩
    | tre d' => exact Is.view vl vf vt vd (fun a z => z) k
    | mes d' => exact IsSh.view vl vt k
  · obtain ⟨q1, q2, q3⟩ := rep.priv i a h
    exact ⟨q1, (still_none a).mpr q2, q3.same fun o' e => by rw [upd_ne (pn i a h)]; exact e⟩
  · by_cases hb:a = d
    · rw [hb, upd_same]; simp
    · rw [upd_ne hb]; exact rep.zz a (z.resolve_right hb)
theorem Rep.unstill (rep:Rep (stillG g d o u) M ρ env σ H) (hd:H d = some (.frz o u)) (hu:dicO u) (hm:M d) (hx:∀ x, g.H₀ d = some x -> x = u) : Rep g M ρ env σ (upd H d u) := by
  have n1:∀ a vs, H a = some (.lst vs) -> a ≠ d := fun a vs e z => by subst z; rw [hd] at e; cases e
  have n2:∀ a o' vs, H a = some (.frz o' (.lst vs)) -> a ≠ d := fun a o' vs e z => by subst z; rw [hd] at e; cases e; exact hu
  have n3:∀ a vs, H a = some (.tup vs) -> a ≠ d := fun a vs e z => by subst z; rw [hd] at e; cases e
  have vl:∀ a vs, H a = some (.lst vs) -> upd H d u a = some (.lst vs) := fun a vs e => by rw [upd_ne (n1 a vs e)]; exact e
  have vf:∀ a o' vs, H a = some (.frz o' (.lst vs)) -> upd H d u a = some (.frz o' (.lst vs)) := fun a o' vs e => by rw [upd_ne (n2 a o' vs e)]; exact e
  have vt:∀ a vs, H a = some (.tup vs) -> upd H d u a = some (.tup vs) := fun a vs e => by rw [upd_ne (n3 a vs e)]; exact e
  have vd:∀ a u', dicO u' -> Rd H a u' -> Rd (upd H d u) a u' := fun a u' hu' e => by
    by_cases ha:a = d
    · subst ha
      rcases e with e | ⟨o', e⟩
      · rw [hd] at e; cases e; exact hu'.elim
      · rw [hd] at e; cases e; exact .inl upd_same
    · exact rdKeep e fun o' q => by rw [upd_ne ha]; exact q
  have muu:Mu (upd H d u) d := ⟨u, upd_same, by cases u <;> first | exact True.intro | exact hu.elim⟩
  have pn:∀ i a, ρ i a -> a ≠ d := fun i a h z => (rep.priv i a h).1 (z ▸ hm)
  refine ⟨fun b x e => ?_, fun a ha => ?_, fun a ha => (rep.inn a ha).imp (still_none a).mp id, fun a ha h0 => ?_, fun i sl e => ?_, fun i a h => ?_, rep.apart, rep.ow, rep.len, fun a z => ?_⟩
  · by_cases hb : b = d
    · subst hb
      rw [hx x e, upd_same]
    · rw [upd_ne hb]
      exact rep.same b x (by rw [still_ne hb]; exact e)
  · by_cases hb:a = d
    · rw [hb]; exact muu.some
    · rw [upd_ne hb]; exact rep.froz a ha
  · by_cases hb : a = d
    · rw [hb]; exact .inl muu
    · rcases rep.fl a ha ((still_none a).mpr h0) with q | ⟨q, o', u', e⟩
      · exact .inl (q.same fun o' e => by rw [upd_ne hb]; exact e)
      · exact .inr ⟨q.resolve_right hb, o', u', by rw [upd_ne hb]; exact e⟩
  · obtain ⟨v, ev, k⟩ := rep.slot i sl e
    refine ⟨v, ev, ?_⟩
    cases sl with
    | val d' fr => exact Is.view vl vf vt vd (fun a z => msk_still.mp z) k
    | own ds fr =>
      obtain ⟨a, vs, rfl, h1, h2, h3⟩ := k
      exact ⟨a, vs, rfl, vl _ _ h1, h2, IsAll.view vl vf vt vd (fun a z => msk_still.mp z) h3⟩
    | tre d' => exact Is.view vl vf vt vd (fun a z => z) k
    | mes d' => exact IsSh.view vl vt k
  · obtain ⟨q1, q2, q3⟩ := rep.priv i a h
    exact ⟨q1, (still_none a).mp q2, q3.same fun o' e => by rw [upd_ne (pn i a h)]; exact e⟩
  · by_cases hb:a = d
    · rw [hb]; exact muu.some
    · rw [upd_ne hb]; exact rep.zz a (.inl z)
end
def kD:Key -> D
  | .inl i => .int i
  | .inr x => .str x
def keyL:List DK -> Option (List D)
  | [] => some []
  | .inl k :: r => (keyL r).map (kD k :: ·)
  | .inr _ :: _ => none
def forZ (asg:D -> Bool -> En -> Option En) (body:En -> Res Fl) : List D -> En -> Res Fl
  | [], env => .ok (.nx env)
  | x :: xs, env => match asg x true env with
    | none => .stuck
    | some env1 => match body env1 with
      | .ok (.nx env') => forZ asg body xs env'
      | .ok (.ct env') => forZ asg body xs env'
      | .ok (.bk env') => .ok (.nx env')
      | _ => .stuck
def kForZ (asg:D -> Bool -> En -> Option En) (body:En -> Res Fl) (env:En) (r:R) : Res Fl := match r.d with
  | .dic ks _ => match keyL ks with
    | some xs => forZ asg body xs (frz env r.al)
    | none => .stuck
  | _ => .stuck
def fForZ (f:En -> Res R) (asg:D -> Bool -> En -> Option En) (body:En -> Res Fl) : En -> Res Fl := fun env => (f env).bind (kForZ asg body env)
theorem keyL_map:∀ {kvs:List (Key × V)} {xs:List D}, keyL (kvs.map fun p => .inl p.1) = some xs -> xs = kvs.map fun p => kD p.1
  | [], _, e => by cases e; rfl
  | p :: r, _, e => by
    rw [List.map_cons] at e
    unfold keyL at e
    obtain ⟨y, e1, rfl⟩ := Option.map_eq_some_iff.mp e
    rw [keyL_map e1]; rfl
theorem is_kD {H:Hp} {m:Addr -> Prop} (k:Key) : Is H m (kD k) (kV k) := by cases k <;> exact rfl
section
variable {X:Cx} {E:XK} {tg:Expr}
theorem psd_forZ {ix:List Nat} {l:Expr} {body:List Stmt} {f:En -> Res R} {asg:D -> Bool -> En -> Option En} {fb:En -> Res Fl} {pos:Pos} (hp:PassesOwn (model X.prog X.w) X.A X.env X.xe) (hc:X.calm = true)
    (hl:PD X E l f) (hg:PGD X ix tg asg) (hb:PSsD X E body fb) (hs:∀ x, foldedSetIterable l X.env x = pure x := by intro _; rfl) : PSD X E (.For tg l body [] pos) (fForZ f asg fb) := by
  obtain ⟨tl, p1, s1⟩ := hl
  obtain ⟨u, p2, s2⟩ := hg
  obtain ⟨tb, p3, s3⟩ := hb
  refine ⟨_, ps_unD (ps_for hp hc (pi_dict p1) p2 p3 hs), fun g M ρ env σ H D rep p => ?_⟩
  refine s1.oneS rep p fun r v M0 H1 e1 rep0 ro p0 => ?_
  obtain ⟨M1, x1, x1m, rep1, is1⟩ := ro.is rep0 e1 rep.same
  obtain ⟨M2, ρ2, x2, rep2, o2, _, _⟩ := Rep.frz r.al rep1
  have is2:Is H1 (msk g M2 r.fr) r.d v := Is.frozen rep1 x2 o2 is1
  have p2' := PostS.frz (⟨fun a z => x2 a (x1m a z), fun _ _ q _ => q⟩ : Frz M0 H1 M2 H1) p0
  clear p0 p
  unfold kForZ at p2'
  cases qd:r.d with
  | dic ks ds =>
    rw [qd] at p2' is2
    dsimp only at p2'
    cases qk:keyL ks with
    | none => rw [qk] at p2'; exact p2'.elim
    | some xs =>
      rw [qk] at p2'
      dsimp only at p2'
      obtain ⟨d, vs, rfl, ⟨dat, md⟩, _⟩ := is2
      have md:M2 d := md.1
      have shape:∃ kvs u, (u = .dK kvs \/ (u = .dT [] /\ kvs = [])) /\ Rd H1 d u /\ xs = kvs.map fun p => kD p.1 := by
        rcases dat with ⟨kvs, e, rfl, _⟩ | ⟨kvs, e, rfl, _⟩
        · exact ⟨kvs, _, .inl rfl, e, keyL_map qk⟩
        · cases kvs with
          | nil => cases qk; exact ⟨[], _, .inr ⟨rfl, rfl⟩, e, rfl⟩
          | cons p r => cases qk
      obtain ⟨kvs, u', hu', hrd, rfl⟩ := shape
      have hdic:dicO u' := by rcases hu' with rfl | ⟨rfl, _⟩ <;> exact True.intro
      have loop:∀ (g':Gd) (o:Obj) (H2:Hp), Rep g' M2 ρ2 (frz env r.al) σ H2 -> H2 d = some (.frz o u') ->
          (∀ env', forZ asg fb (kvs.map fun p => kD p.1) (frz env r.al) = .ok (.nx env') -> ∀ σ' M' ρ' H', Frz M2 H2 M' H' -> Rep g' M' ρ' env' σ' H' -> (unD X D).nx σ' H') ->
          ∃ W:Nat -> Nat -> St -> Hp -> Prop, (∃ m, W 0 m σ H2) /\ ∀ i m σ H, W i m σ H -> ((Itd d o u' kvs).stop i H /\ (unD X D).nx σ H) \/ ((Itd d o u' kvs).go i H /\ ∃ N:St -> Hp -> Prop, (∀ σ' H', N σ' H' -> ∃ m', m' < m /\ W (i + 1) m' σ' H') /\ ∀ x H', (Itd d o u' kvs).yld i H x H' -> u x σ H' fun σ2 H2 => tb { unD X D with nx := N, ct := N, bk := (unD X D).nx } σ2 H2) := by
        intro g' o H2 repL hz fin
        have nst:forZ asg fb (kvs.map fun p => kD p.1) (frz env r.al) ≠ .stuck := fun z => by rw [z] at p2'; exact p2'
        have shp:∀ (ys:List L3.D) (en:En), forZ asg fb ys en = .stuck \/ ∃ en', forZ asg fb ys en = .ok (.nx en') := by
          intro ys
          induction ys with
          | nil => intro en; exact .inr ⟨en, rfl⟩
          | cons y ys ih =>
            intro en
            unfold forZ
            cases asg y true en with
            | none => exact .inl rfl
            | some e1 =>
              dsimp only
              cases fb e1 with
              | stuck => exact .inl rfl
              | exc c => exact .inl rfl
              | ok fl =>
                cases fl with
                | nx e2 => exact ih e2
                | ct e2 => exact ih e2
                | bk e2 => exact .inr ⟨e2, rfl⟩
                | rt r => exact .inl rfl
        obtain ⟨envE, hE⟩ := (shp (kvs.map fun p => kD p.1) (frz env r.al)).resolve_left nst
        refine ⟨fun i m σ' H' => m = kvs.length - i /\ i <= kvs.length /\ ∃ M' ρ' env', Rep g' M' ρ' env' σ' H' /\ Frz M2 H2 M' H' /\ forZ asg fb ((kvs.drop i).map fun p => kD p.1) env' = .ok (.nx envE), ⟨_, rfl, Nat.zero_le _, M2, ρ2, _, repL, Frz.refl _ _, hE⟩, ?_⟩
        rintro i m σ' H' ⟨rfl, hle, M', ρ', env', rep', f', q'⟩
        have hd':H' d = some (.frz o u') := f'.h d _ hz (.inl md)
        by_cases hlt:i < kvs.length
        · have edrop:kvs.drop i = kvs[i] :: kvs.drop (i + 1) := List.drop_eq_getElem_cons hlt
          rw [edrop, List.map_cons] at q'
          unfold forZ at q'
          cases qa:asg (kD kvs[i].1) true env' with
          | none => simp only [qa] at q'; cases q'
          | some env1 =>
            simp only [qa] at q'
            refine .inr ⟨⟨hd', hlt⟩, fun σ'' H'' => ∃ M'' ρ'' env'', Rep g' M'' ρ'' env'' σ'' H'' /\ Frz M2 H2 M'' H'' /\ forZ asg fb ((kvs.drop (i + 1)).map fun p => kD p.1) env'' = .ok (.nx envE), fun σ'' H'' z => ⟨kvs.length - (i + 1), by omega, rfl, hlt, z⟩, fun x H'' y => ?_⟩
            obtain ⟨rfl, k, v, ek, rfl⟩ := y
            have ek':kvs[i].1 = k := by
              have:kvs[i]? = some kvs[i] := by simp [hlt]
              exact congrArg Prod.fst (Option.some.inj (this.symm.trans ek))
            rw [ek'] at qa
            refine s2 g' M' ρ' env' env1 σ' _ _ true (kV k) _ rep' (is_kD k) qa fun σ1 ρ1 rep1' _ _ => ?_
            refine s3 g' M' ρ1 env1 σ1 _ _ rep1' ?_
            cases qb:fb env1 with
            | stuck => rw [qb] at q'; cases q'
            | exc c => rw [qb] at q'; cases q'
            | ok fl =>
              rw [qb] at q'
              cases fl with
              | nx e3 => exact fun σ3 M3 ρ3 H3 f3 rep3 => ⟨M3, ρ3, e3, rep3, f'.trans f3, q'⟩
              | ct e3 => exact fun σ3 M3 ρ3 H3 f3 rep3 => ⟨M3, ρ3, e3, rep3, f'.trans f3, q'⟩
              | bk e3 =>
                simp only [Res.ok.injEq, Fl.nx.injEq] at q'
                subst q'
                exact fun σ3 M3 ρ3 H3 f3 rep3 => fin _ hE σ3 M3 ρ3 H3 (f'.trans f3) rep3
              | rt r => cases q'
        · have e:i = kvs.length := by omega
          subst e
          rw [List.drop_length] at q'
          simp only [List.map_nil] at q'
          unfold forZ at q'
          simp only [Res.ok.injEq, Fl.nx.injEq] at q'
          subst q'
          exact .inl ⟨⟨hd', Nat.le_refl _⟩, fin _ hE σ' M' ρ' H' f' rep'⟩
      refine ⟨d, kvs, u', rfl, hu', ?_⟩
      rcases hrd with hrd | ⟨o, hrd⟩
      · right
        refine ⟨hrd, fun o hnf => loop (stillG g d o u') o _ (rep2.still hrd hdic md) upd_same fun env' hE σ' M' ρ' H' f' rep' => ?_⟩
        rw [hE] at p2'
        have hd':H' d = some (.frz o u') := f'.h d _ upd_same (.inl md)
        have hx:∀ x, g.H₀ d = some x -> x = u' := fun x e => by
          have := rep2.same d x e
          rw [hrd] at this; cases this; rfl
        have rep3 := rep'.unstill hd' hdic (f'.m d md) hx
        refine .inr ⟨d, o, u', hd', hdic, hnf, p2' σ' M' ρ' _ ⟨f'.m, fun a x e z => ?_⟩ rep3⟩
        by_cases ha:a = d
        · subst ha
          rw [hrd] at e; cases e; exact upd_same
        · rw [upd_ne ha]
          exact f'.h a x (by rw [upd_ne ha]; exact e) z
      · left
        refine ⟨o, hrd, loop g o H1 rep2 hrd fun env' hE σ' M' ρ' H' f' rep' => ?_⟩
        rw [hE] at p2'
        exact .inl (p2' σ' M' ρ' H' f' rep')
  | _ => rw [qd] at p2'; exact p2'.elim
end
end L3
namespace L3
open PySem PySem.Spec PyProof.Rows L2
def kRev:List R -> Res Src
  | [r] => match r.d with
    | .lst ds => .ok ⟨ds.reverse, r.fr, r.al⟩
    | _ => .stuck
  | _ => .stuck
def sRev (fs:En -> Res (List R)) : En -> Res Src := fun env => (fs env).bind kRev
section
variable {X:Cx} {E:XK} {tg:Expr}
theorem walk_rev {K:PySem.W.Frag} {a:Addr} {m:Addr -> Prop} {H:Hp} {ds:List D} {vs:List V} (h:(H a = some (.lst vs) /\ m a) \/ ∃ o, H a = some (.frz o (.lst vs)) /\ m a) (is:IsAll H m ds vs) : Walk (Itv K a vs.length) m H ds.reverse := by
  have st:∀ H', (∀ a o, H a = some o -> (m a \/ fixd o) -> H' a = some o) -> SqL K H' a vs := fun H' k => by
    rcases h with ⟨h, hm⟩ | ⟨o, h, _⟩
    · exact .inl (.inl (k a _ h (.inl hm)))
    · exact .inl (.inr ⟨o, k a _ h (.inr True.intro)⟩)
  have hl := is.length
  refine ⟨fun H' i d k e => ?_, fun H' k => by show vs.length <= ds.reverse.length; rw [List.length_reverse, hl]; exact Nat.le_refl _⟩
  have hi:i < ds.length := by have := (List.getElem?_eq_some_iff.mp e).1; simpa using this
  rw [List.getElem?_reverse hi] at e
  obtain ⟨v, ev, iv⟩ := (is.mono k fun _ _ _ z => z:IsAll H' m ds vs).get e
  refine ⟨⟨vs, st H' k, rfl, by omega⟩, fun x H'' y => ?_⟩
  obtain ⟨rfl, y⟩ := y
  have := y vs (st _ k)
  rw [hl, ev] at this; cases this
  exact ⟨Same.refl _, iv⟩
theorem pid_rev {l : Expr} {fs : En -> Res (List R)} {p pos : Pos} (hg : Gl X "reversed") (hm : X.mg "reversed" = none) (ha : PAD X E [l] fs) (hs : starEach [l] X.env = [(false, eval l X.env)] := by rfl) : PID X E tg (.Call (.Name "reversed" p) [l] [] pos) (sRev fs) := by
  obtain ⟨t, p1, s1⟩ := ha
  refine ⟨_, pi_rev hg hm p1 hs, fun g M ρ env σ H Rq rep p => s1.one rep (P := fun M H r => PostI X.mg E g M ρ env σ H Rq r) p (fun _ _ z => z) (fun _ _ _ z => z) (fun _ _ _ _ _ e p => p.ext e) fun rs vs M1 H1 e1 rep1 is q => ?_⟩
  match rs, is, q with
  | [r], is, q =>
    obtain ⟨v, w, rfl, i1, i2⟩ := is
    cases i2
    have i1:Is H1 (vmsk g M1 (rfrs [r]) ρ (rals [r])) r.d v := i1
    replace i1 := i1.weak fun _ z => one_msk z
    unfold kRev at q
    dsimp only at q
    cases z:r.d with
    | lst ds =>
      rw [z] at i1 q
      obtain ⟨a, ws, rfl, h1, h2⟩ := i1
      exact ⟨a, ws, rfl, .inl (h1.imp (·.1) fun ⟨o, z, _⟩ => ⟨o, z⟩), q _ M1 H1 (Ext.refl _ _) rep1 (walk_rev h1 h2)⟩
    | _ => rw [z] at q; exact q.elim
  | [], _, q => exact q.elim
  | _ :: _ :: _, _, q => exact q.elim
end
def pairK:D -> Option (Key × D)
  | .tup [k, v] => (keyD k).map fun k => (k, v)
  | _ => none
def pairsK:List D -> Option (List (Key × D))
  | [] => some []
  | d :: ds => match pairK d, pairsK ds with
    | some p, some ps => some (p :: ps)
    | _, _ => none
def putE (t:List (Key × D)) (k:Key) (d:D) : List (Key × D) := if (t.any fun x => decide (x.1 = k)) = true then t.map (fun x => if x.1 = k then (x.1, d) else x) else t ++ [(k, d)]
def putsE (t ps:List (Key × D)) : List (Key × D) := ps.foldl (fun t x => putE t x.1 x.2) t
def dicE (t:List (Key × D)) : D := .dic (t.map fun p => .inl p.1) (t.map Prod.snd)
def kDict2:List R -> Res R
  | [r] => match r.d with
    | .lst ds => match pairsK ds with
      | some ps => if D.flats ((putsE [] ps).map Prod.snd) then .ok (.fre (dicE (putsE [] ps))) else .stuck
      | none => kDict [r]
    | _ => .stuck
  | _ => .stuck
section
variable {H:Hp} {m:Addr -> Prop}
def REK (H:Hp) (m:Addr -> Prop) : List (Key × V) -> List (Key × D) -> Prop := Paired fun a b => a.1 = b.1 /\ Is H m b.2 a.2
theorem REK.fst {a:List (Key × V)} {b:List (Key × D)} (r:REK H m a b) : a.map Prod.fst = b.map Prod.fst := by
  induction r with
  | nil => rfl
  | cons h _ ih => rw [List.map_cons, List.map_cons, ih, h.1]
theorem REK.snd {a:List (Key × V)} {b:List (Key × D)} (r:REK H m a b) : IsAll H m (b.map Prod.snd) (a.map Prod.snd) := by
  induction r with
  | nil => rfl
  | cons h _ ih => exact ⟨_, _, rfl, h.2, ih⟩
theorem REK.of:∀ {a:List (Key × V)} {b:List (Key × D)}, a.map Prod.fst = b.map Prod.fst -> IsAll H m (b.map Prod.snd) (a.map Prod.snd) -> REK H m a b
  | [], [], _, _ => .nil
  | [], _ :: _, e, _ => by cases e
  | _ :: _, [], e, _ => by cases e
  | p :: a, q :: b, e, h => by
    obtain ⟨v, r, z, h1, h2⟩ := h
    cases z
    simp only [List.map_cons, List.cons.injEq] at e
    exact .cons ⟨e.1, h1⟩ (REK.of e.2 h2)
theorem REK.append {a c:List (Key × V)} {b d:List (Key × D)} (r:REK H m a b) (s:REK H m c d) : REK H m (a ++ c) (b ++ d) := by
  induction r with
  | nil => exact s
  | cons h _ ih => exact .cons h ih
theorem REK.any {a:List (Key × V)} {b:List (Key × D)} (r:REK H m a b) (k:Key) : (a.any fun x => decide (x.1 = k)) = (b.any fun x => decide (x.1 = k)) := by
  induction r with
  | nil => rfl
  | cons h _ ih => rw [List.any_cons, List.any_cons, ih, h.1]
theorem REK.repl {a:List (Key × V)} {b:List (Key × D)} {k:Key} {v:V} {d:D} (r:REK H m a b) (h:Is H m d v) : REK H m (a.map fun x => if x.1 = k then (x.1, v) else x) (b.map fun x => if x.1 = k then (x.1, d) else x) := by
  induction r with
  | nil => exact .nil
  | @cons p q ps qs hq t ih =>
    refine .cons ?_ ih
    dsimp only
    by_cases e:p.1 = k
    · rw [if_pos e, if_pos (hq.1 ▸ e)]; exact ⟨hq.1, h⟩
    · rw [if_neg e, if_neg (fun z => e (hq.1.trans z))]; exact hq
theorem REK.put {a:List (Key × V)} {b:List (Key × D)} {k:Key} {v:V} {d:D} (r:REK H m a b) (h:Is H m d v) : REK H m (putK a k v) (putE b k d) := by
  unfold putK putE
  rw [r.any k]
  split
  · exact r.repl h
  · exact r.append (.cons ⟨rfl, h⟩ .nil)
theorem REK.merge {a c:List (Key × V)} {b d:List (Key × D)} (r:REK H m a b) (s:REK H m c d) : REK H m (mergeK a c) (putsE b d) := by
  induction s generalizing a b with
  | nil => exact r
  | @cons p q ps qs hq t ih =>
    have := ih (r.put (k := p.1) hq.2)
    show REK H m (mergeK (putK a p.1 p.2) ps) (putsE (putE b q.1 q.2) qs)
    rw [<- hq.1]
    exact this
theorem pairsK_of:∀ {ds:List D} {vs:List V} {ps:List (Key × D)}, IsAll H m ds vs -> pairsK ds = some ps -> ∃ kvs, PairsK H vs kvs /\ REK H m kvs ps
  | [], _, _, h, e => by cases h; cases e; exact ⟨[], .nil, .nil⟩
  | d :: ds, _, ps, h, e => by
    obtain ⟨v, r, rfl, h1, h2⟩ := h
    unfold pairsK at e
    cases q:pairK d with
    | none => rw [q] at e; cases e
    | some p =>
      cases q2:pairsK ds with
      | none => rw [q, q2] at e; cases e
      | some ps' =>
        rw [q, q2] at e; cases e
        obtain ⟨kvs, k1, k2⟩ := pairsK_of h2 q2
        unfold pairK at q
        split at q
        · rename_i kd vd
          obtain ⟨a, vs2, rfl, g1, g2⟩ := h1
          obtain ⟨y1, r1, rfl, i1, y2, r2, rfl, i2, i3⟩ := g2
          cases i3
          cases q3:keyD kd with
          | none => rw [q3] at q; cases q
          | some kk =>
            rw [q3] at q; cases q
            have := i1.key q3
            subst this
            exact ⟨(kk, y2) :: kvs, .cons ⟨a, rfl, g1⟩ k1, .cons ⟨rfl, i2⟩ k2⟩
        · cases q
theorem dicE_is {b:Addr} {u:HO} {kvs:List (Key × V)} {t:List (Key × D)} (e:H b = some (.dK kvs)) (r:REK H m kvs t) (hb:m b) : Is H m (dicE t) (.ref b) := by
  refine ⟨b, _, rfl, ⟨.inl ⟨kvs, .inl e, ?_, rfl⟩, hb⟩, r.snd⟩
  have := congrArg (List.map fun k:Key => (Sum.inl k:DK)) r.fst
  rw [List.map_map, List.map_map] at this
  exact this.symm
theorem REK.flat {m':Addr -> Prop} {a:List (Key × V)} {b:List (Key × D)} (hf:D.flats (b.map Prod.snd) = true) (r:REK H m a b) : REK H m' a b := REK.of r.fst (IsAll.flat hf r.snd)
theorem REK.same {H':Hp} (s:Same H H') {a:List (Key × V)} {b:List (Key × D)} (r:REK H m a b) : REK H' m a b := REK.of r.fst (IsAll.same s r.snd)
end
section
variable {X:Cx} {E:XK}
theorem cd_dict2 (hc : X.calm = true) (hu : X.A.units + 64 < cLine) : CallD X E (.type "dict") kDict2 := by
  obtain ⟨r0, c0, s0⟩ := cd_dict (X := X) (E := E) hc hu
  refine ⟨fun xs H Q => (∃ l vs kvs, xs = [.ref l] /\ Rd H l (.lst vs) /\ PairsK H vs kvs /\ ∀ p, H p = none -> Q (.ref p) (upd H p (.dK (mergeK [] kvs)))) \/ r0 xs H Q, fun pins s σ H xs us Q I r h => h.elim (call_dictK hc pins s σ H xs us Q I r) (c0 pins s σ H xs us Q I r), fun g M ρ env σ H Q rs vs rep i p => ?_⟩
  match rs, i, p with
  | [r], i, p =>
    unfold kDict2 at p
    dsimp only at p
    cases q:r.d with
    | lst ds =>
      rw [q] at p
      dsimp only at p
      cases q2:pairsK ds with
      | none => rw [q2] at p; exact .inr (s0 g M ρ env σ H Q [r] vs rep i p)
      | some ps =>
        rw [q2] at p
        dsimp only at p
        left
        obtain ⟨v, w, rfl, i1, i2⟩ := i
        cases i2
        have i1:Is H (vmsk g M (rfrs [r]) ρ (rals [r])) r.d v := i1
        rw [q] at i1
        obtain ⟨a, ws, rfl, h1, h2⟩ := i1.rd
        obtain ⟨kvs, k1, k2⟩ := pairsK_of h2 q2
        refine ⟨a, ws, kvs, rfl, h1, k1, fun b hb => ?_⟩
        have rk:REK H _ (mergeK [] kvs) (putsE [] ps) := REK.merge .nil k2
        have s:Same H (upd H b (.dK (mergeK [] kvs))) := same_upd hb
        by_cases hf:D.flats ((putsE [] ps).map Prod.snd) = true
        · rw [if_pos hf] at p
          exact p _ M _ ⟨fun _ z => z, s, fun _ z => .inl z⟩ (rep.grow s) (dic_fre rep hb (dicE_is (u := .dK []) upd_same ((rk.flat hf).same s) rfl) ⟨_, upd_same, True.intro⟩)
        · rw [if_neg hf] at p; exact p.elim
    | _ => rw [q] at p; exact p.elim
  | [], _, p => exact p.elim
  | _ :: _ :: _, _, p => exact p.elim
theorem Rep.writeU {g:Gd} {M:Addr -> Prop} {ρ:Pr} {env:En} {σ:St} {H:Hp} {b:Addr} {u u':HO} (rep:Rep g M ρ env σ H) (hb:H b = some u) (hu:¬ fixd u) (nm:¬ M b) (no:∀ i, ¬ ρ i b) (h0:g.H₀ b = none) : Rep g M ρ env σ (upd H b u') := by
  have kp:∀ a o, H a = some o -> (M a \/ fixd o) -> upd H b u' a = some o := fun a o e z => by
    rw [upd_ne]
    · exact e
    · rintro rfl
      rcases z with z | z
      · exact nm z
      · rw [hb] at e; cases e; exact hu z
  have kr:∀ i a o, H a = some o -> (ρ i a \/ fixd o) -> upd H b u' a = some o := fun i a o e z => by
    rw [upd_ne]
    · exact e
    · rintro rfl
      rcases z with z | z
      · exact no i z
      · rw [hb] at e; cases e; exact hu z
  have ne:∀ a, M a -> a ≠ b := fun a z e => nm (e ▸ z)
  have ner:∀ i a, ρ i a -> a ≠ b := fun i a z e => no i (e ▸ z)
  refine ⟨fun a o e => ?_, fun a z => by rw [upd_ne (ne a z)]; exact rep.froz a z, rep.inn, fun a z q => (rep.fl a z q).same fun o e => by rw [upd_ne (ne a z)]; exact e, fun i sl e => ?_, fun i a z => ?_, rep.apart, rep.ow, rep.len, fun a z e => ?_⟩
  · rw [upd_ne (fun z => by rw [z, h0] at e; cases e)]; exact rep.same a o e
  · obtain ⟨v, ev, k⟩ := rep.slot i sl e
    refine ⟨v, ev, ?_⟩
    cases sl with
    | val d fr => exact Is.mono (fun a o e z => kp a o e (z.imp (·.1) id)) (fun _ _ _ z => z) k
    | own ds fr =>
      obtain ⟨a, vs, rfl, h1, h2, h3⟩ := k
      exact ⟨a, vs, rfl, by rw [upd_ne (ner i a ((h2 a).mpr rfl))]; exact h1, h2, IsAll.mono (fun a o e z => kp a o e (z.imp (·.1) id)) (fun _ _ _ z => z) h3⟩
    | tre d => exact Is.mono (fun a o e z => kr i a o e z) (fun _ _ _ z => z) k
    | mes d => exact IsSh.mono (fun a o e z => kp a o e (.inr z)) (fun a vs z e => ⟨vs, by rw [upd_ne (ner i a z)]; exact e⟩) (fun _ z => z) k
  · obtain ⟨a1, a2, a3⟩ := rep.priv i a z
    exact ⟨a1, a2, a3.same fun o e => by rw [upd_ne (ner i a z)]; exact e⟩
  · by_cases ha:a = b
    · subst ha; rw [upd_same] at e; cases e
    · rw [upd_ne ha] at e; exact rep.zz a z e
def kDisp (rk rv:R) : Res R := match keyD rk.d with
  | some k => if rv.d.flat then .ok (.fre (dicE [(k, rv.d)])) else .stuck
  | none => .stuck
theorem pd_disp1 {k v:Expr} {fk fv:En -> Res R} {pos:Pos} (hk:PD X E k fk) (hv:PD X E v fv) : PD X E (.Dict [some k] [v] pos) (v2 kDisp fk fv) := by
  obtain ⟨tk, p1, s1⟩ := hk
  obtain ⟨tv, p2, s2⟩ := hv
  refine ⟨_, pe_disp (pps_cons p1 p2 pps_nil) rfl rfl (by simp) (by simp), fun g M ρ env σ H Q rep p b hb => ?_⟩
  have sm:Same H (upd H b (.dK [])) := same_upd hb
  obtain ⟨z0, zm, zo⟩ := rep.free hb
  have p:PostE X.mg E g M ρ env σ H Q ((fk env).bind fun rk => (fv env).bind fun rv => kDisp rk rv) := p
  refine s1 g M ρ env σ _ _ (rep.grow sm) ?_
  cases qk:fk env with
  | stuck => rw [qk] at p; exact p
  | exc c => rw [qk] at p; exact p
  | ok rk =>
    rw [qk] at p
    have p:PostE X.mg E g M ρ env σ H Q ((fv env).bind fun rv => kDisp rk rv) := p
    intro x M1 H1 e1 rep1 ro1
    obtain ⟨M1', x1, x1m, rep1', is1⟩ := ro1.is rep1 e1 (rep.grow sm).same
    refine s2 g M1' ρ env σ H1 _ rep1' ?_
    cases qv:fv env with
    | stuck => rw [qv] at p; exact p
    | exc c => rw [qv] at p; exact p
    | ok rv =>
      rw [qv] at p
      have p:PostE X.mg E g M ρ env σ H Q (kDisp rk rv) := p
      intro y M2 H2 e2 rep2 ro2
      obtain ⟨M2', x2, x2m, rep2', is2⟩ := ro2.is rep2 e2 rep1'.same
      have hb2:H2 b = some (.dK []) := x2.h _ _ (x1.h _ _ upd_same)
      have nb:¬ M2' b := fun z => by
        rcases x2.n b z with z | z
        · rcases x1.n b z with z | z
          · exact zm z
          · rw [upd_same] at z; cases z
        · rw [x1.h _ _ upd_same] at z; cases z
      unfold kDisp at p
      cases qq:keyD rk.d with
      | none => rw [qq] at p; exact p.elim
      | some k =>
        rw [qq] at p
        dsimp only at p
        by_cases hf:rv.d.flat = true
        · rw [if_pos hf] at p
          have hx:x = kV k := is1.key qq
          refine ⟨hb2, [(k, y)], by rw [hx]; rfl, by simp, ?_⟩
          have hs:Same H (upd H2 b (.dK (mergeK [] [(k, y)]))) := fun a o e => by
            rw [upd_ne (ne_of_none e hb)]
            exact x2.h _ _ (x1.h _ _ (sm a o e))
          refine p (.ref b) M2' _ ⟨fun a z => x2.m a (x1.m a z), hs, fun a z => ?_⟩ (rep2'.writeU hb2 (fun z => z) nb zo z0) ⟨fun a => a = b, fun a e => (by subst e; exact ⟨nb, hb, ⟨_, upd_same, True.intro⟩, zo⟩), dicE_is (u := .dK []) upd_same ?_ rfl⟩
          · rcases x2.n a z with z | z
            · exact (x1.n a z).imp id fun w => sm.free w
            · exact .inr (sm.free (x1.h.free z))
          · refine .cons ⟨rfl, Is.flat hf (Is.mono (fun a o e z => ?_) (fun _ _ _ z => z) (Is.flat (m' := fun _ => False) hf is2))⟩ .nil
            rw [upd_ne]
            · exact e
            · rintro rfl; rw [hb2] at e; cases e; exact z.elim id id
        · rw [if_neg hf] at p; exact p.elim
end
end L3
namespace L3
open PySem PySem.Spec PyProof.Rows L2
def toE:List DK -> List D -> Option (List (Key × D))
  | [], [] => some []
  | .inl k :: ks, d :: ds => (toE ks ds).map ((k, d) :: ·)
  | _, _ => none
theorem toE_rel {H:Hp} {m:Addr -> Prop} : ∀ {kvs:List (Key × V)} {ds:List D} {t:List (Key × D)}, IsAll H m ds (kvs.map Prod.snd) -> toE (kvs.map fun p => .inl p.1) ds = some t -> REK H m kvs t
  | [], [], _, _, e => by cases e; exact .nil
  | [], _ :: _, _, _, e => by cases e
  | p :: r, [], _, _, e => by cases e
  | p :: r, d :: ds, _, h, e => by
    obtain ⟨v, r', z, h1, h2⟩ := h
    cases z
    rw [List.map_cons] at e
    unfold toE at e
    obtain ⟨t', e1, rfl⟩ := Option.map_eq_some_iff.mp e
    exact .cons ⟨rfl, h1⟩ (toE_rel h2 e1)
theorem toE_at {H:Hp} {m:Addr -> Prop} {a:Addr} {ks:List DK} {vs:List V} {ds:List D} {t:List (Key × D)} (h:DAt H a ks vs) (is:IsAll H m ds vs) (e:toE ks ds = some t) : ∃ kvs, (Rd H a (.dK kvs) \/ (Rd H a (.dT []) /\ kvs = [])) /\ REK H m kvs t := by
  rcases h with ⟨kvs, e1, rfl, rfl⟩ | ⟨kvs, e1, rfl, rfl⟩
  · exact ⟨kvs, .inl e1, toE_rel is e⟩
  · cases kvs with
    | nil =>
      cases ds with
      | nil => cases e; exact ⟨[], .inr ⟨e1, rfl⟩, .nil⟩
      | cons d ds => cases e
    | cons p r => cases ds <;> cases e
theorem REK.length {H:Hp} {m:Addr -> Prop} {a:List (Key × V)} {b:List (Key × D)} (r:REK H m a b) : a.length = b.length := Paired.length r
def kUpd (i:Nat) (env:En) (ks:List DK) (ds:List D) (r:R) : Res Fl := match r.d with
  | .dic ks2 ds2 => match toE ks ds, toE ks2 ds2 with
    | some t, some t2 => if ¬ i ∈ r.al /\ D.flats ds2 = true /\ t.length + t2.length <= lim then .ok (.nx (env.set i (some (.tre (dicE (putsE t t2)))))) else .stuck
    | _, _ => .stuck
  | _ => .stuck
def fUpd (i:Nat) (f:En -> Res R) : En -> Res Fl := fun env => match env[i]? with
  | some (some (.tre (.dic ks ds))) => (f env).bind (kUpd i env ks ds)
  | _ => .stuck
theorem toE_snd:∀ {ks:List DK} {ds:List D} {t:List (Key × D)}, toE ks ds = some t -> t.map Prod.snd = ds
  | [], [], _, e => by cases e; rfl
  | [], _ :: _, _, e => by cases e
  | .inl _ :: _, [], _, e => by cases e
  | .inr _ :: _, [], _, e => by cases e
  | k :: ks, d :: ds, t, e => by
    cases k with
    | inl k =>
      unfold toE at e
      obtain ⟨t', e1, rfl⟩ := Option.map_eq_some_iff.mp e
      rw [List.map_cons, toE_snd e1]
    | inr k => cases e
section
variable {X:Cx} {E:XK}
theorem psd_upd {i:Nat} {a e:Expr} {f:En -> Res R} {apos cpos pos:Pos} (ha:PE X a (tVar i)) (h:PD X E e f)
    (hbase : attributeBase a "update" X.env (eval a X.env) = eval a X.env := by rfl)
    (hfew:((backTo cpos (starEach [e] X.env)).all (fun x => !x.1) && (backToKw cpos (keywordEach [] X.env)).all (fun x => x.1.isSome)
      && decide (([e] : List Expr).length + ([] : List Keyword).length + (if ([] : List Keyword).isEmpty then 0 else 1) < 30)) = true := by rfl)
    (hline:(apos.endLine == cpos.line) = true := by rfl) (hs:starEach [e] X.env = (false, eval e X.env) :: starEach [] X.env := by rfl) (hplain:(backTo cpos (starEach [] X.env)).any (·.1) = false := by rfl)
    (hsw : swapsWith (.Call (.Attribute a "update" apos) [e] [] cpos) none pos.line X.env = pure false := by rfl) :
    PSD X E (.Expr (.Call (.Attribute a "update" apos) [e] [] cpos) pos) (fUpd i f) := by
  obtain ⟨t, p1, s1⟩ := h
  refine ⟨_, ps_expr (pe_bm PySem.F.plainAttrs_dict PySem.F.slot_dict_update PySem.F.type_dict_update mt_update ha (pa_cons p1 pa_nil hs) hbase hfew hline hs hplain) hsw, fun g M ρ env σ H D rep p => ?_⟩
  unfold fUpd at p
  split at p
  · rename_i ks ds hq
    have hi:i < env.length := (List.getElem?_eq_some_iff.mp hq).1
    obtain ⟨va, ev, ka⟩ := rep.slot i _ hq
    have ka:Is H (ρ i) (.dic ks ds) va := ka
    obtain ⟨a, vs, rfl, ⟨dat, pa⟩, hall⟩ := ka
    have nofz:∀ {H':Hp} {M':Addr -> Prop}, Rep g M' ρ env σ H' -> ∀ o u, H' a ≠ some (.frz o u) := fun rep' o u z => by
      obtain ⟨_, _, uo, q, qm⟩ := rep'.priv i a pa
      rw [z] at q; cases q; exact qm
    have ty : tyV X.K "dict" (.ref a) H := by
      refine .inr (.inr (.inl ⟨rfl, ?_⟩))
      rcases dat with ⟨kvs, e1 | ⟨o, e1⟩, _⟩ | ⟨kvs, e1 | ⟨o, e1⟩, _⟩
      · exact .inl ⟨kvs, e1⟩
      · exact (nofz rep _ _ e1).elim
      · exact .inr ⟨kvs, e1⟩
      · exact (nofz rep _ _ e1).elim
    refine ⟨.ref a, ev, ty, s1.oneS rep p fun r v M1 H1 e1 rep1 ro p1 => ?_⟩
    obtain ⟨M1', x1, x1m, rep1', is1⟩ := ro.is rep1 e1 rep.same
    unfold kUpd at p1
    cases qd:r.d with
    | dic ks2 ds2 =>
      rw [qd] at p1 is1
      dsimp only at p1
      cases qt:toE ks ds with
      | none => rw [qt] at p1; exact p1.elim
      | some t =>
        cases qt2:toE ks2 ds2 with
        | none => rw [qt, qt2] at p1; exact p1.elim
        | some t2 =>
          rw [qt, qt2] at p1
          dsimp only at p1
          by_cases hc:¬ i ∈ r.al /\ L3.D.flats ds2 = true /\ t.length + t2.length <= lim
          · rw [if_pos hc] at p1
            obtain ⟨hal, hfl, hlen⟩ := hc
            obtain ⟨b, ws, rfl, ⟨datb, mb⟩, hallb⟩ := is1
            have dat1:DAt H1 a ks vs := dat.keep fun o e => e1.h _ _ e
            have hall1:IsAll H1 (ρ i) ds vs := hall.same e1.h
            have kd:Is H1 (ρ i) (.dic ks ds) (.ref a) := ⟨a, vs, rfl, ⟨dat1, pa⟩, hall1⟩
            have inner:IsAll H1 (fun b => ρ i b /\ b ≠ a) ds vs := IsAll.avoid kd (by simp only [L3.D.sz]; omega) hall1
            obtain ⟨kvs, ea, ra⟩ := toE_at dat1 inner qt
            obtain ⟨more, eb, rb⟩ := toE_at datb hallb qt2
            have rdn:∀ u, Rd H1 a u -> H1 a = some u := fun u z => z.elim id fun ⟨o, z⟩ => (nofz rep1 _ _ z).elim
            have hab:a ≠ b := fun z => by
              subst z
              rcases mb with z | ⟨j, hj, z⟩
              · exact (rep1'.priv i a pa).1 z.1
              · exact hal (by rw [rep1'.apart i j a pa z]; exact hj)
            have rb':REK H1 (fun b => ρ i b /\ b ≠ a) more t2 := rb.flat (by rw [toE_snd qt2]; exact hfl)
            have rm := ra.merge rb'
            refine ⟨a, b, kvs, more, rfl, rfl, hab, ea.imp (rdn _) fun ⟨z, w⟩ => ⟨rdn _ z, w⟩, eb, by rw [ra.length, rb.length]; exact lim_le hlen, ?_⟩
            have nfx:∀ u, H1 a = some u -> ¬ fixd u := fun u e z => by
              obtain ⟨uo, huo, hmo⟩ := dat1.mu (nofz rep1)
              have e' := Option.some.inj (huo.symm.trans e)
              rw [<- e'] at z
              cases uo <;> first | exact z | exact hmo
            have is3:Is (upd H1 a (.dK (mergeK kvs more))) (ρ i) (dicE (putsE t t2)) (.ref a) := by
              refine dicE_is (u := .dK []) upd_same (REK.of rm.fst (rm.snd.mono (fun b u q z => ?_) fun _ _ _ z => z.1)) pa
              rw [upd_ne]
              · exact q
              · rintro rfl
                rcases z with z | z
                · exact z.2 rfl
                · exact nfx u q z
            obtain ⟨f1, rep3⟩ := rep1'.writeO (u' := .dK (mergeK kvs more)) True.intro pa hi ev (sl := .tre (dicE (putsE t t2))) is3
            exact p1 σ M1' ρ _ (Frz.trans ⟨x1m, fun _ _ q _ => q⟩ f1) rep3
          · rw [if_neg hc] at p1; exact p1.elim
    | _ => rw [qd] at p1; exact p1.elim
  · exact p.elim
end
end L3
namespace L3
open PySem PySem.Spec PyProof.Rows L2
abbrev Tri := Int × Int × Int
def dd (l:List Int) (x:Int) : List Int := if x ∈ l then l else l ++ [x]
def ddup (xs:List Int) : List Int := xs.foldl dd []
def g1 (ts:List Tri) : List Int := ddup (ts.map (·.1))
def g2 (ts:List Tri) (x:Int) : List Int := ddup ((ts.filter fun t => decide (t.1 = x)).map (·.2.1))
def g3 (ts:List Tri) (x y:Int) : List Int := (ts.filter fun t => decide (t.1 = x) && decide (t.2.1 = y)).map (·.2.2)
def ik (i:Int) : DK := .inl (.inl i)
def grpI (ts:List Tri) (x:Int) : D := .dic ((g2 ts x).map ik) ((g2 ts x).map fun y => .lst ((g3 ts x y).map .int))
def grpD (ts:List Tri) : D := .dic ((g1 ts).map ik) ((g1 ts).map (grpI ts))
theorem ddup_snoc (xs:List Int) (x:Int) : ddup (xs ++ [x]) = dd (ddup xs) x := by unfold ddup; rw [List.foldl_append]; rfl
theorem dd_mem (l:List Int) (x y:Int) : y ∈ dd l x ↔ y ∈ l \/ y = x := by
  unfold dd
  split
  · rename_i h
    exact ⟨.inl, fun z => z.elim id fun e => e ▸ h⟩
  · simp
theorem g1_snoc (ts:List Tri) (x y z:Int) : g1 (ts ++ [(x, y, z)]) = dd (g1 ts) x := by
  unfold g1; rw [List.map_append]; exact ddup_snoc _ _
theorem g2_snoc (ts:List Tri) (x y z u:Int) : g2 (ts ++ [(x, y, z)]) u = if x = u then dd (g2 ts u) y else g2 ts u := by
  unfold g2
  rw [List.filter_append, List.map_append]
  by_cases h:x = u
  · rw [if_pos h]
    have:([(x, y, z)] : List Tri).filter (fun t => decide (t.1 = u)) = [(x, y, z)] := by simp [h]
    rw [this]; exact ddup_snoc _ _
  · rw [if_neg h]
    have:([(x, y, z)] : List Tri).filter (fun t => decide (t.1 = u)) = [] := by simp [h]
    rw [this]; simp
theorem g3_snoc (ts:List Tri) (x y z u v:Int) : g3 (ts ++ [(x, y, z)]) u v = if x = u /\ y = v then g3 ts u v ++ [z] else g3 ts u v := by
  unfold g3
  rw [List.filter_append, List.map_append]
  by_cases h:x = u /\ y = v
  · rw [if_pos h]
    have:([(x, y, z)] : List Tri).filter (fun t => decide (t.1 = u) && decide (t.2.1 = v)) = [(x, y, z)] := by simp [h.1, h.2]
    rw [this]; rfl
  · rw [if_neg h]
    have:([(x, y, z)] : List Tri).filter (fun t => decide (t.1 = u) && decide (t.2.1 = v)) = [] := by
      rw [List.filter_cons, if_neg, List.filter_nil]
      simpa using h
    rw [this]; simp
theorem ddup_mem (y:Int) : ∀ (xs:List Int) (l:List Int), y ∈ xs.foldl dd l ↔ y ∈ l \/ y ∈ xs
  | [], l => by simp
  | x :: xs, l => by
    rw [List.foldl_cons, ddup_mem y xs, dd_mem, List.mem_cons, or_assoc]
theorem g1_mem (ts:List Tri) (x:Int) : x ∈ g1 ts ↔ ∃ t ∈ ts, t.1 = x := by
  unfold g1 ddup; rw [ddup_mem]; simp
theorem g2_mem (ts:List Tri) (x y:Int) : y ∈ g2 ts x ↔ ∃ t ∈ ts, t.1 = x /\ t.2.1 = y := by
  unfold g2 ddup; rw [ddup_mem, List.mem_map]
  constructor
  · rintro (h | ⟨t, h1, h2⟩)
    · simp at h
    · rw [List.mem_filter] at h1
      exact ⟨t, h1.1, by simpa using h1.2, h2⟩
  · rintro ⟨t, h1, h2, h3⟩
    exact .inr ⟨t, List.mem_filter.mpr ⟨h1, by simpa using h2⟩, h3⟩
theorem g2_none {ts:List Tri} {x:Int} (h:x ∉ g1 ts) : g2 ts x = [] := by
  rw [List.eq_nil_iff_forall_not_mem]
  intro y hy
  obtain ⟨t, h1, h2, _⟩ := (g2_mem ts x y).mp hy
  exact h ((g1_mem ts x).mpr ⟨t, h1, h2⟩)
theorem g3_none {ts:List Tri} {x y:Int} (h:y ∉ g2 ts x) : g3 ts x y = [] := by
  unfold g3
  rw [List.map_eq_nil_iff, List.filter_eq_nil_iff]
  intro t ht z
  simp only [Bool.and_eq_true, decide_eq_true_eq] at z
  exact h ((g2_mem ts x y).mpr ⟨t, ht, z.1, z.2⟩)
theorem dd_len (l:List Int) (x:Int) : (dd l x).length <= l.length + 1 := by unfold dd; split <;> simp
theorem ddup_len:∀ (xs l:List Int), (xs.foldl dd l).length <= l.length + xs.length
  | [], l => by simp
  | x :: xs, l => by
    rw [List.foldl_cons]
    have := ddup_len xs (dd l x)
    have h2 := dd_len l x
    simp only [List.length_cons]; omega
theorem g1_len (ts:List Tri) : (g1 ts).length <= ts.length := by unfold g1 ddup; have := ddup_len (ts.map (·.1)) []; simpa using this
theorem g2_len (ts:List Tri) (x:Int) : (g2 ts x).length <= ts.length := by
  unfold g2 ddup
  have := ddup_len ((ts.filter fun t => decide (t.1 = x)).map (·.2.1)) []
  have h2 := List.length_filter_le (fun t:Tri => decide (t.1 = x)) ts
  simp at this ⊢; omega
theorem g3_len (ts:List Tri) (x y:Int) : (g3 ts x y).length <= ts.length := by
  unfold g3; rw [List.length_map]; exact List.length_filter_le _ _
def kvI (l:List Int) (A:Int -> Addr) : List (Key × V) := l.map fun x => (.inl x, .ref (A x))
theorem kvI_val (l:List Int) (A:Int -> Addr) (x:Int) : valV (kvI l A) (.inl x) = if x ∈ l then some (.ref (A x)) else none := by
  induction l with
  | nil => rfl
  | cons y l ih =>
    unfold kvI at ih ⊢
    rw [List.map_cons]
    by_cases h:y = x
    · rw [valV_pos (by rw [h]), if_pos (by rw [h]; exact List.mem_cons_self), h]
    · rw [valV_neg (by intro z; exact h (Sum.inl.inj z)), ih]
      by_cases hx:x ∈ l
      · rw [if_pos hx, if_pos (List.mem_cons_of_mem _ hx)]
      · rw [if_neg hx, if_neg]
        intro z
        rcases List.mem_cons.mp z with z | z
        · exact h z.symm
        · exact hx z
theorem kvI_put {l:List Int} {A:Int -> Addr} {x:Int} {b:Addr} (h:x ∉ l) : putK (kvI l A) (.inl x) (.ref b) = kvI (l ++ [x]) (fun u => if u = x then b else A u) := by
  have e:kvI l (fun u => if u = x then b else A u) = kvI l A := by
    unfold kvI
    refine List.map_congr_left fun u hu => ?_
    show (_:Key × V) = _
    dsimp only
    rw [if_neg (show ¬ u = x from fun z => h (by rw [<- z]; exact hu))]
  unfold putK
  rw [if_neg]
  · show _ = kvI (l ++ [x]) _
    unfold kvI at e ⊢
    rw [List.map_append, e]
    simp
  · intro z
    obtain ⟨p, hp, hq⟩ := List.any_eq_true.mp z
    obtain ⟨u, hu, rfl⟩ := List.mem_map.mp hp
    have:(Sum.inl u:Key) = .inl x := of_decide_eq_true hq
    exact h (Sum.inl.inj this ▸ hu)
structure Gr (H:Hp) (a:Addr) (ts:List Tri) (A:Int -> Addr) (B:Int -> Int -> Addr) : Prop where
  root:H a = some (.dK (kvI (g1 ts) A)) \/ (g1 ts = [] /\ H a = some (.dT []))
  inn:∀ x ∈ g1 ts, H (A x) = some (.dK (kvI (g2 ts x) (B x)))
  leaf:∀ x y, y ∈ g2 ts x -> H (B x y) = some (.lst ((g3 ts x y).map .int))
  d1:∀ x ∈ g1 ts, A x ≠ a
  d2:∀ x ∈ g1 ts, ∀ x' ∈ g1 ts, A x = A x' -> x = x'
  d3:∀ x y, y ∈ g2 ts x -> ∀ x' y', y' ∈ g2 ts x' -> B x y = B x' y' -> x = x' /\ y = y'
def InT (a:Addr) (ts:List Tri) (A:Int -> Addr) (B:Int -> Int -> Addr) (b:Addr) : Prop := b = a \/ (∃ x ∈ g1 ts, b = A x) \/ ∃ x y, y ∈ g2 ts x /\ b = B x y
theorem g1_of {ts:List Tri} {x y:Int} (h:y ∈ g2 ts x) : x ∈ g1 ts := by
  obtain ⟨t, h1, h2, _⟩ := (g2_mem ts x y).mp h
  exact (g1_mem ts x).mpr ⟨t, h1, h2⟩
section
variable {H:Hp} {a:Addr} {ts:List Tri} {A:Int -> Addr} {B:Int -> Int -> Addr} {x y z:Int}
theorem Gr.both (G:Gr H a ts A B) (hx:x ∈ g1 ts) (hy:y ∈ g2 ts x) {H':Hp} (hm:H' (B x y) = some (.lst ((g3 ts x y ++ [z]).map .int))) (kp:∀ c u, H c = some u -> c ≠ B x y -> H' c = some u) : Gr H' a (ts ++ [(x, y, z)]) A B := by
  have e1:g1 (ts ++ [(x, y, z)]) = g1 ts := by rw [g1_snoc]; unfold dd; rw [if_pos hx]
  have e2:∀ u, g2 (ts ++ [(x, y, z)]) u = g2 ts u := fun u => by
    rw [g2_snoc]
    split
    · rename_i h; subst h; unfold dd; rw [if_pos hy]
    · rfl
  have hl := G.leaf x y hy
  have na:a ≠ B x y := fun e => by
    rcases G.root with q | ⟨q, _⟩
    · rw [e, hl] at q; cases q
    · rw [q] at hx; simp at hx
  refine ⟨?_, fun u hu => ?_, fun u v hv => ?_, by rw [e1]; exact G.d1, by rw [e1]; exact G.d2, fun u v hv u' v' hv' => by rw [e2] at hv hv'; exact G.d3 u v hv u' v' hv'⟩
  · rw [e1]
    rcases G.root with q | ⟨q, _⟩
    · exact .inl (kp a _ q na)
    · rw [q] at hx; simp at hx
  · rw [e1] at hu
    rw [e2]
    refine kp _ _ (G.inn u hu) fun e => ?_
    have := G.inn u hu
    rw [e, hl] at this; cases this
  · rw [e2] at hv
    rw [g3_snoc]
    by_cases h:x = u /\ y = v
    · obtain ⟨rfl, rfl⟩ := h
      rw [if_pos ⟨rfl, rfl⟩]; exact hm
    · rw [if_neg h]
      exact kp _ _ (G.leaf u v hv) fun e => h ((G.d3 u v hv x y hy e).imp Eq.symm Eq.symm)
theorem Gr.second (G:Gr H a ts A B) (hx:x ∈ g1 ts) (hy:y ∉ g2 ts x) {l:Addr} (hl:H l = none) {H':Hp} (hm:H' l = some (.lst [.int z])) (hc:H' (A x) = some (.dK (kvI (g2 ts x ++ [y]) fun v => if v = y then l else B x v)))
    (kp:∀ c u, H c = some u -> c ≠ A x -> H' c = some u) : Gr H' a (ts ++ [(x, y, z)]) A (fun u v => if u = x /\ v = y then l else B u v) := by
  have e1:g1 (ts ++ [(x, y, z)]) = g1 ts := by rw [g1_snoc]; unfold dd; rw [if_pos hx]
  have ex:g2 (ts ++ [(x, y, z)]) x = g2 ts x ++ [y] := by rw [g2_snoc, if_pos rfl]; unfold dd; rw [if_neg hy]
  have e2:∀ u, u ≠ x -> g2 (ts ++ [(x, y, z)]) u = g2 ts u := fun u hu => by rw [g2_snoc, if_neg (Ne.symm hu)]
  have old:∀ u v, v ∈ g2 (ts ++ [(x, y, z)]) u -> ¬ (u = x /\ v = y) -> v ∈ g2 ts u := fun u v hv hn => by
    by_cases h:u = x
    · subst h
      rw [ex] at hv
      rcases List.mem_append.mp hv with q | q
      · exact q
      · exact (hn ⟨rfl, by simpa using q⟩).elim
    · rw [e2 u h] at hv; exact hv
  refine ⟨?_, fun u hu => ?_, fun u v hv => ?_, by rw [e1]; exact G.d1, by rw [e1]; exact G.d2, fun u v hv u' v' hv' e => ?_⟩
  · rw [e1]
    rcases G.root with q | ⟨q, _⟩
    · exact .inl (kp a _ q (Ne.symm (G.d1 x hx)))
    · rw [q] at hx; simp at hx
  · rw [e1] at hu
    by_cases h:u = x
    · subst h
      rw [ex, hc]
      have:(fun v => if u = u /\ v = y then l else B u v) = fun v => if v = y then l else B u v := by funext v; simp
      rw [this]
    · rw [e2 u h]
      have:(fun v => if u = x /\ v = y then l else B u v) = B u := by funext v; rw [if_neg (fun z => h z.1)]
      rw [this]
      exact kp _ _ (G.inn u hu) fun e => h (G.d2 u hu x hx e)
  · rw [g3_snoc]
    by_cases h:u = x /\ v = y
    · obtain ⟨rfl, rfl⟩ := h
      rw [if_pos ⟨rfl, rfl⟩, if_pos ⟨rfl, rfl⟩, g3_none hy]; exact hm
    · rw [if_neg h, if_neg (fun q => h ⟨q.1.symm, q.2.symm⟩)]
      have hv' := old u v hv h
      refine kp _ _ (G.leaf u v hv') fun e => ?_
      have := G.leaf u v hv'
      rw [e, G.inn x hx] at this; cases this
  · have nl:∀ u v, v ∈ g2 (ts ++ [(x, y, z)]) u -> ¬ (u = x /\ v = y) -> B u v ≠ l := fun u v hv hn e => by
      have := G.leaf u v (old u v hv hn)
      rw [e, hl] at this; cases this
    try dsimp only at e
    by_cases h:u = x /\ v = y <;> by_cases h':u' = x /\ v' = y
    · exact ⟨h.1.trans h'.1.symm, h.2.trans h'.2.symm⟩
    · rw [if_pos h, if_neg h'] at e; exact (nl u' v' hv' h' e.symm).elim
    · rw [if_neg h, if_pos h'] at e; exact (nl u v hv h e).elim
    · rw [if_neg h, if_neg h'] at e; exact G.d3 u v (old u v hv h) u' v' (old u' v' hv' h') e
theorem Gr.first (G:Gr H a ts A B) (hx:x ∉ g1 ts) {b l:Addr} (hb:H b = none) (hl:H l = none) (hbl:b ≠ l) {H':Hp} (hm:H' l = some (.lst [.int z])) (hi:H' b = some (.dK [(.inl y, .ref l)])) (ha:H' a = some (.dK (kvI (g1 ts ++ [x]) fun u => if u = x then b else A u)))
    (kp:∀ c u, H c = some u -> c ≠ a -> H' c = some u) (han:H a ≠ none) : Gr H' a (ts ++ [(x, y, z)]) (fun u => if u = x then b else A u) (fun u v => if u = x /\ v = y then l else B u v) := by
  have e1:g1 (ts ++ [(x, y, z)]) = g1 ts ++ [x] := by rw [g1_snoc]; unfold dd; rw [if_neg hx]
  have ex:g2 (ts ++ [(x, y, z)]) x = [y] := by rw [g2_snoc, if_pos rfl, g2_none hx]; rfl
  have e2:∀ u, u ≠ x -> g2 (ts ++ [(x, y, z)]) u = g2 ts u := fun u hu => by rw [g2_snoc, if_neg (Ne.symm hu)]
  have o1:∀ u, u ∈ g1 (ts ++ [(x, y, z)]) -> u ≠ x -> u ∈ g1 ts := fun u hu hn => by
    rw [e1] at hu
    rcases List.mem_append.mp hu with q | q
    · exact q
    · exact (hn (by simpa using q)).elim
  have old:∀ u v, v ∈ g2 (ts ++ [(x, y, z)]) u -> ¬ (u = x /\ v = y) -> u ≠ x /\ v ∈ g2 ts u := fun u v hv hn => by
    by_cases h:u = x
    · subst h
      rw [ex] at hv
      exact (hn ⟨rfl, by simpa using hv⟩).elim
    · rw [e2 u h] at hv; exact ⟨h, hv⟩
  have nA:∀ u ∈ g1 ts, A u ≠ b := fun u hu e => by have := G.inn u hu; rw [e, hb] at this; cases this
  refine ⟨.inl (by rw [e1]; exact ha), fun u hu => ?_, fun u v hv => ?_, fun u hu => ?_, fun u hu u' hu' e => ?_, fun u v hv u' v' hv' e => ?_⟩
  · by_cases h : u = x
    · subst h
      rw [if_pos rfl, ex, hi]
      simp [kvI]
    · rw [if_neg h, e2 u h]
      have:(fun v => if u = x /\ v = y then l else B u v) = B u := by funext v; rw [if_neg (fun z => h z.1)]
      rw [this]
      exact kp _ _ (G.inn u (o1 u hu h)) (G.d1 u (o1 u hu h))
  · rw [g3_snoc]
    by_cases h:u = x /\ v = y
    · obtain ⟨rfl, rfl⟩ := h
      rw [if_pos ⟨rfl, rfl⟩, if_pos ⟨rfl, rfl⟩, g3_none (by rw [g2_none hx]; simp)]; exact hm
    · rw [if_neg h, if_neg (fun q => h ⟨q.1.symm, q.2.symm⟩)]
      obtain ⟨hu, hv'⟩ := old u v hv h
      refine kp _ _ (G.leaf u v hv') fun e => ?_
      have := G.leaf u v hv'
      rcases G.root with q | ⟨_, q⟩ <;> (rw [e, q] at this; cases this)
  · by_cases h:u = x
    · rw [if_pos h]; exact fun e => han (by rw [<- e]; exact hb)
    · rw [if_neg h]; exact G.d1 u (o1 u hu h)
  · try dsimp only at e
    by_cases h:u = x <;> by_cases h':u' = x
    · exact h.trans h'.symm
    · rw [if_pos h, if_neg h'] at e; exact (nA u' (o1 u' hu' h') e.symm).elim
    · rw [if_neg h, if_pos h'] at e; exact (nA u (o1 u hu h) e).elim
    · rw [if_neg h, if_neg h'] at e; exact G.d2 u (o1 u hu h) u' (o1 u' hu' h') e
  · have nl:∀ u v, v ∈ g2 (ts ++ [(x, y, z)]) u -> ¬ (u = x /\ v = y) -> B u v ≠ l := fun u v hv hn e => by
      have := G.leaf u v (old u v hv hn).2
      rw [e, hl] at this; cases this
    try dsimp only at e
    by_cases h:u = x /\ v = y <;> by_cases h':u' = x /\ v' = y
    · exact ⟨h.1.trans h'.1.symm, h.2.trans h'.2.symm⟩
    · rw [if_pos h, if_neg h'] at e; exact (nl u' v' hv' h' e.symm).elim
    · rw [if_neg h, if_pos h'] at e; exact (nl u v hv h e).elim
    · rw [if_neg h, if_neg h'] at e; exact G.d3 u v (old u v hv h).2 u' v' (old u' v' hv' h').2 e
end
theorem isAll_map {H:Hp} {m:Addr -> Prop} {F:Int -> D} {G:Int -> V} : ∀ {l:List Int}, (∀ x ∈ l, Is H m (F x) (G x)) -> IsAll H m (l.map F) (l.map G)
  | [], _ => rfl
  | x :: l, h => ⟨_, _, rfl, h x List.mem_cons_self, isAll_map fun y hy => h y (List.mem_cons_of_mem _ hy)⟩
theorem isAll_intV {H:Hp} {m:Addr -> Prop} : ∀ (k:List Int), IsAll H m (k.map .int) (k.map .int)
  | [] => rfl
  | i :: k => ⟨.int i, _, rfl, rfl, isAll_intV k⟩
theorem Gr.is {H:Hp} {a:Addr} {ts:List Tri} {A:Int -> Addr} {B:Int -> Int -> Addr} (G:Gr H a ts A B) : Is H (InT a ts A B) (grpD ts) (.ref a) := by
  have keys:∀ (l:List Int) (C:Int -> Addr), l.map ik = (kvI l C).map (fun p => .inl p.1) := fun l C => by unfold kvI; rw [List.map_map]; rfl
  have vals:∀ (l:List Int) (C:Int -> Addr), (kvI l C).map Prod.snd = l.map fun x => .ref (C x) := fun l C => by unfold kvI; rw [List.map_map]; rfl
  have inner:∀ x ∈ g1 ts, Is H (InT a ts A B) (grpI ts x) (.ref (A x)) := fun x hx => by
    refine ⟨A x, (g2 ts x).map fun y => .ref (B x y), rfl, ⟨.inl ⟨_, .inl (G.inn x hx), keys _ _, (vals _ _).symm⟩, .inr (.inl ⟨x, hx, rfl⟩)⟩, isAll_map fun y hy => ?_⟩
    exact ⟨B x y, _, rfl, .inl ⟨G.leaf x y hy, .inr (.inr ⟨x, y, hy, rfl⟩)⟩, isAll_intV _⟩
  refine ⟨a, (g1 ts).map fun x => .ref (A x), rfl, ⟨?_, .inl rfl⟩, isAll_map inner⟩
  rcases G.root with q | ⟨q, e⟩
  · exact .inl ⟨_, .inl q, keys _ _, (vals _ _).symm⟩
  · rw [q]; exact .inr ⟨[], .inl e, rfl, rfl⟩
end L3
namespace L3
open PySem PySem.Spec PyProof.Rows L2
def triD:D -> Option Tri
  | .tup [.int x, .int y, .int z] => some (x, y, z)
  | _ => none
def trisD:List D -> Option (List Tri)
  | [] => some []
  | d :: r => match triD d, trisD r with
    | some t, some ts => some (t :: ts)
    | _, _ => none
def kGrp (i r1 r2 r3:Nat) (env:En) (r:R) : Res Fl := match r.d with
  | .lst ds => match trisD ds with
    | some ts => if ts.length <= 1000 /\ ¬ i ∈ r.al /\ i ≠ r1 /\ i ≠ r2 /\ i ≠ r3 /\ r1 ≠ r2 /\ r1 ≠ r3 /\ r2 ≠ r3 /\ r1 < env.length /\ r2 < env.length /\ r3 < env.length then
        .ok (.nx (((((frz env r.al).set r1 none).set r2 none).set r3 none).set i (some (.tre (grpD ts))))) else .stuck
    | none => .stuck
  | _ => .stuck
def fGrp (i r1 r2 r3:Nat) (f:En -> Res R) : En -> Res Fl := fun env => match env[i]? with
  | some (some (.tre (.dic [] []))) => (f env).bind (kGrp i r1 r2 r3 env)
  | _ => .stuck
def tGrp (K : PySem.W.Frag) (i r1 r2 r3 : Nat) : TE := tBM K "list" rAppend (tBM K "dict" rSetD (tBM K "dict" rSetD (tVar i) (tCons (tVar r1) (tCons tDNewK tNil))) (tCons (tVar r2) (tCons (tLst tNil) tNil))) (tCons (tVar r3) tNil)
theorem grp_body {K:PySem.W.Frag} {H:Hp} {a:Addr} {ts:List Tri} {A:Int -> Addr} {B:Int -> Int -> Addr} {x y z:Int} {i r1 r2 r3:Nat} {σ:St} {C:Hp -> Prop} (G:Gr H a ts A B) (hl:ts.length <= 1000)
    (hi:σ[i]? = some (some (.ref a))) (h1:σ[r1]? = some (some (.int x))) (h2:σ[r2]? = some (some (.int y))) (h3:σ[r3]? = some (some (.int z)))
    (k:∀ H' A' B', Gr H' a (ts ++ [(x, y, z)]) A' B' -> (∀ b u, H b = some u -> ¬ InT a ts A B b -> H' b = some u) -> (∀ b, InT a ts A B b -> InT a (ts ++ [(x, y, z)]) A' B' b) -> (∀ b, InT a (ts ++ [(x, y, z)]) A' B' b -> InT a ts A B b \/ H b = none) -> C H') :
    tGrp K i r1 r2 r3 σ H fun _ H' => C H' := by
  have sz:∀ n, n <= 1000 -> n < sizeLine := fun n h => lim_lt (by unfold lim; omega)
  have han:H a ≠ none := by rcases G.root with q | ⟨_, q⟩ <;> (rw [q]; simp)
  have tya : tyV K "dict" (.ref a) H := .inr (.inr (.inl ⟨rfl, G.root.imp (fun q => ⟨_, q⟩) fun ⟨_, q⟩ => ⟨_, q⟩⟩))
  refine ⟨.ref a, hi, tya, .int x, h1, fun b hb => ?_⟩
  have nba:a ≠ b := fun e => han (by rw [e]; exact hb)
  have kb:∀ c u, H c = some u -> upd H b (.dK []) c = some u := fun c u e => by rw [upd_ne (ne_of_none e hb)]; exact e
  have roots:(upd H b (.dK []) a = some (.dK (kvI (g1 ts) A)) \/ (upd H b (.dK []) a = some (.dT []) /\ kvI (g1 ts) A = [])) := by
    rcases G.root with q | ⟨e, q⟩
    · exact .inl (kb _ _ q)
    · exact .inr ⟨kb _ _ q, by rw [e]; rfl⟩
  refine ⟨a, .inl x, .ref b, kvI (g1 ts) A, rfl, rfl, roots, sz _ (by unfold kvI; rw [List.length_map]; exact Nat.le_trans (g1_len ts) hl), ?_⟩
  by_cases hx:x ∈ g1 ts
  · left
    refine ⟨.ref (A x), by rw [kvI_val, if_pos hx], .inr (.inr (.inl ⟨rfl, .inl ⟨_, kb _ _ (G.inn x hx)⟩⟩)), .int y, h2, Nat.zero_le _, fun l hl' => ?_⟩
    have hlH:H l = none := (same_upd hb).free hl'
    have kl:∀ c u, H c = some u -> upd (upd H b (.dK [])) l (.lst []) c = some u := fun c u e => by rw [upd_ne (ne_of_none e hlH)]; exact kb c u e
    refine ⟨A x, .inl y, .ref l, kvI (g2 ts x) (B x), rfl, rfl, .inl (kl _ _ (G.inn x hx)), sz _ (by unfold kvI; rw [List.length_map]; exact Nat.le_trans (g2_len ts x) hl), ?_⟩
    by_cases hy:y ∈ g2 ts x
    · left
      have hm := G.leaf x y hy
      refine ⟨.ref (B x y), by rw [kvI_val, if_pos hy], .inl ⟨rfl, _, SqL.of (kl _ _ hm)⟩, .int z, h3, B x y, _, .int z, rfl, rfl, kl _ _ hm, sz _ (by rw [List.length_map]; exact Nat.le_trans (g3_len ts x y) hl), ?_⟩
      have G' := G.both (z := z) hx hy (H' := upd (upd (upd H b (.dK [])) l (.lst [])) (B x y) (.lst ((g3 ts x y).map .int ++ [.int z]))) (by rw [upd_same, List.map_append]; rfl) (fun c u e hn => by rw [upd_ne hn]; exact kl c u e)
      refine k _ A B G' (fun c u e hn => ?_) (fun c hc => ?_) fun c hc => ?_
      · rw [upd_ne (fun q => hn (.inr (.inr ⟨x, y, hy, q⟩)))]; exact kl c u e
      · rcases hc with q | ⟨u, hu, q⟩ | ⟨u, v, hv, q⟩
        · exact .inl q
        · exact .inr (.inl ⟨u, by rw [g1_snoc, dd_mem]; exact .inl hu, q⟩)
        · refine .inr (.inr ⟨u, v, ?_, q⟩)
          rw [g2_snoc]; split
          · rw [dd_mem]; exact .inl hv
          · exact hv
      · left
        rcases hc with q | ⟨u, hu, q⟩ | ⟨u, v, hv, q⟩
        · exact .inl q
        · rw [g1_snoc, dd_mem] at hu
          exact .inr (.inl ⟨u, hu.elim id fun e => e ▸ hx, q⟩)
        · refine .inr (.inr ⟨u, v, ?_, q⟩)
          rw [g2_snoc] at hv
          split at hv
          · rename_i e; subst e
            rw [dd_mem] at hv
            exact hv.elim id fun e => e ▸ hy
          · exact hv
    · right
      refine ⟨by rw [kvI_val, if_neg hy], .inl ⟨rfl, [], SqL.of ?_⟩, .int z, h3, l, [], .int z, rfl, rfl, ?_, by simp [sizeLine_eq], ?_⟩
      · rw [upd_ne (ne_of_none (G.inn x hx) hlH).symm, upd_same]
      · rw [upd_ne (ne_of_none (G.inn x hx) hlH).symm, upd_same]
      · have nAl:A x ≠ l := ne_of_none (G.inn x hx) hlH
        have G' := G.second (z := z) hx hy hlH (H' := upd (upd (upd (upd H b (.dK [])) l (.lst [])) (A x) (.dK (putK (kvI (g2 ts x) (B x)) (.inl y) (.ref l)))) l (.lst ([] ++ [.int z]))) upd_same (by rw [upd_ne nAl, upd_same, kvI_put hy])
          (fun c u e hn => by rw [upd_ne (ne_of_none e hlH), upd_ne hn]; exact kl c u e)
        refine k _ A _ G' (fun c u e hn => ?_) (fun c hc => ?_) fun c hc => ?_
        · rw [upd_ne (ne_of_none e hlH), upd_ne (fun q => hn (.inr (.inl ⟨x, hx, q⟩)))]; exact kl c u e
        · rcases hc with q | ⟨u, hu, q⟩ | ⟨u, v, hv, q⟩
          · exact .inl q
          · exact .inr (.inl ⟨u, by rw [g1_snoc, dd_mem]; exact .inl hu, q⟩)
          · refine .inr (.inr ⟨u, v, ?_, ?_⟩)
            · rw [g2_snoc]; split
              · rw [dd_mem]; exact .inl hv
              · exact hv
            · show c = if u = x /\ v = y then l else B u v
              rw [if_neg]
              · exact q
              · rintro ⟨rfl, rfl⟩; exact hy hv
        · rcases hc with q | ⟨u, hu, q⟩ | ⟨u, v, hv, q⟩
          · exact .inl (.inl q)
          · rw [g1_snoc, dd_mem] at hu
            exact .inl (.inr (.inl ⟨u, hu.elim id fun e => e ▸ hx, q⟩))
          · by_cases h : u = x /\ v = y
            · dsimp only at q; rw [if_pos h] at q; exact .inr (by rw [q]; exact hlH)
            · dsimp only at q; rw [if_neg h] at q
              refine .inl (.inr (.inr ⟨u, v, ?_, q⟩))
              rw [g2_snoc] at hv
              split at hv
              · rename_i e; subst e
                rw [dd_mem] at hv
                exact hv.elim id fun e => (h ⟨rfl, e⟩).elim
              · exact hv
  · right
    have hroot:∀ c u, H c = some u -> c ≠ a -> upd (upd H b (.dK [])) a (.dK (putK (kvI (g1 ts) A) (.inl x) (.ref b))) c = some u := fun c u e hn => by rw [upd_ne hn]; exact kb c u e
    refine ⟨by rw [kvI_val, if_neg hx], .inr (.inr (.inl ⟨rfl, .inl ⟨[], by rw [upd_ne (Ne.symm nba), upd_same]⟩⟩)), .int y, h2, Nat.zero_le _, fun l hl' => ?_⟩
    have nla:l ≠ a := fun e => by rw [e, upd_same] at hl'; cases hl'
    have nlb:b ≠ l := fun e => by rw [<- e, upd_ne (Ne.symm nba), upd_same] at hl'; cases hl'
    have hlH:H l = none := by
      rw [upd_ne nla, upd_ne (Ne.symm nlb)] at hl'; exact hl'
    refine ⟨b, .inl y, .ref l, [], rfl, rfl, .inl (by rw [upd_ne nlb, upd_ne (Ne.symm nba), upd_same]), by simp [sizeLine_eq], .inr ⟨rfl, .inl ⟨rfl, [], SqL.of ?_⟩, .int z, h3, l, [], .int z, rfl, rfl, ?_, by simp [sizeLine_eq], ?_⟩⟩
    · rw [upd_ne (Ne.symm nlb), upd_same]
    · rw [upd_ne (Ne.symm nlb), upd_same]
    · have G' := G.first (z := z) (y := y) hx hb hlH nlb (H' := upd (upd (upd (upd (upd H b (.dK [])) a (.dK (putK (kvI (g1 ts) A) (.inl x) (.ref b)))) l (.lst [])) b (.dK (putK [] (.inl y) (.ref l)))) l (.lst ([] ++ [.int z]))) upd_same (by rw [upd_ne nlb, upd_same]; rfl)
        (by rw [upd_ne (Ne.symm nla), upd_ne nba, upd_ne (Ne.symm nla), upd_same, kvI_put hx]) (fun c u e hn => by rw [upd_ne (ne_of_none e hlH), upd_ne (ne_of_none e hb), upd_ne (ne_of_none e hlH)]; exact hroot c u e hn) han
      refine k _ _ _ G' (fun c u e hn => ?_) (fun c hc => ?_) fun c hc => ?_
      · rw [upd_ne (ne_of_none e hlH), upd_ne (ne_of_none e hb), upd_ne (ne_of_none e hlH)]
        exact hroot c u e fun q => hn (.inl q)
      · rcases hc with q | ⟨u, hu, q⟩ | ⟨u, v, hv, q⟩
        · exact .inl q
        · refine .inr (.inl ⟨u, by rw [g1_snoc, dd_mem]; exact .inl hu, ?_⟩)
          show c = if u = x then b else A u
          rw [if_neg (show ¬ u = x from fun e => hx (e ▸ hu))]; exact q
        · have hu := g1_of hv
          refine .inr (.inr ⟨u, v, ?_, ?_⟩)
          · rw [g2_snoc, if_neg (show ¬ x = u from fun e => hx (e ▸ hu))]; exact hv
          · show c = if u = x /\ v = y then l else B u v
            rw [if_neg (show ¬ (u = x /\ v = y) from fun e => hx (e.1 ▸ hu))]; exact q
      · rcases hc with q | ⟨u, hu, q⟩ | ⟨u, v, hv, q⟩
        · exact .inl (.inl q)
        · by_cases h : u = x
          · dsimp only at q; rw [if_pos h] at q; exact .inr (by rw [q]; exact hb)
          · dsimp only at q; rw [if_neg h] at q
            rw [g1_snoc, dd_mem] at hu
            exact .inl (.inr (.inl ⟨u, hu.resolve_right h, q⟩))
        · by_cases h : u = x /\ v = y
          · dsimp only at q; rw [if_pos h] at q; exact .inr (by rw [q]; exact hlH)
          · dsimp only at q; rw [if_neg h] at q
            refine .inl (.inr (.inr ⟨u, v, ?_, q⟩))
            rw [g2_snoc] at hv
            split at hv
            · rename_i e; subst e
              rw [g2_none hx, dd_mem] at hv
              rcases hv with z | z
              · simp at z
              · exact (h ⟨rfl, z⟩).elim
            · exact hv
end L3
namespace L3
open PySem PySem.Spec PyProof.Rows L2
theorem trisD_len:∀ {ds:List D} {ts:List Tri}, trisD ds = some ts -> ds.length = ts.length
  | [], _, e => by cases e; rfl
  | d :: ds, ts, e => by
    unfold trisD at e
    cases q:triD d with
    | none => rw [q] at e; cases e
    | some t =>
      cases q2:trisD ds with
      | none => rw [q, q2] at e; cases e
      | some ts' => rw [q, q2] at e; cases e; simp [trisD_len q2]
theorem trisD_at {H:Hp} {m:Addr -> Prop} : ∀ {ds:List D} {vs:List V} {ts:List Tri} {j:Nat} {v:V}, IsAll H m ds vs -> trisD ds = some ts -> vs[j]? = some v -> ∃ x y z p, ts[j]? = some (x, y, z) /\ v = .ref p /\ H p = some (.tup [.int x, .int y, .int z])
  | [], _, _, _, _, h, _, ev => by cases h; simp at ev
  | d :: ds, _, ts, j, v, h, e, ev => by
    obtain ⟨w, r, rfl, h1, h2⟩ := h
    unfold trisD at e
    cases q:triD d with
    | none => rw [q] at e; cases e
    | some t =>
      cases q2:trisD ds with
      | none => rw [q, q2] at e; cases e
      | some ts' =>
        rw [q, q2] at e; cases e
        cases j with
        | zero =>
          simp at ev; subst ev
          unfold triD at q
          split at q
          · rename_i x y z
            cases q
            obtain ⟨p, us, rfl, g1, w1, r1, rfl, i1, w2, r2, rfl, i2, w3, r3, rfl, i3, i4⟩ := h1
            cases i1; cases i2; cases i3; cases i4
            exact ⟨x, y, z, p, rfl, rfl, g1⟩
          · cases q
        | succ j => exact trisD_at (j := j) h2 q2 (by simpa using ev)
section
variable {X:Cx} {E:XK} {tg:Expr}
theorem psd_grp {i r1 r2 r3:Nat} {l:Expr} {body:List Stmt} {f:En -> Res R} {pos:Pos} (hp:PassesOwn (model X.prog X.w) X.A X.env X.xe) (hc:X.calm = true) (hl:PD X E l f)
    (hg:PG X tg (gTup X.K 3 (gCons (gName r1) (gCons (gName r2) (gCons (gName r3) gNil))))) (hb:PSs X body (tDrop (tGrp X.K i r1 r2 r3))) (hs:∀ x, foldedSetIterable l X.env x = pure x := by intro _; rfl) : PSD X E (.For tg l body [] pos) (fGrp i r1 r2 r3 f) := by
  obtain ⟨tl, p1, s1⟩ := hl
  refine ⟨_, ps_for hp hc (pi_seq p1) hg hb hs, fun g M ρ env σ H D rep p => ?_⟩
  unfold fGrp at p
  split at p
  · rename_i hq
    refine s1.oneS rep p fun r v M0 H1 e1 rep0 ro p0 => ?_
    obtain ⟨M1, x1, x1m, rep1, is1⟩ := ro.is rep0 e1 rep.same
    unfold kGrp at p0
    cases qd:r.d with
    | lst ds =>
      rw [qd] at p0
      dsimp only at p0
      cases qt:trisD ds with
      | none => rw [qt] at p0; exact p0.elim
      | some ts =>
        rw [qt] at p0
        dsimp only at p0
        by_cases hcond:ts.length <= 1000 /\ ¬ i ∈ r.al /\ i ≠ r1 /\ i ≠ r2 /\ i ≠ r3 /\ r1 ≠ r2 /\ r1 ≠ r3 /\ r2 ≠ r3 /\ r1 < env.length /\ r2 < env.length /\ r3 < env.length
        · rw [if_pos hcond] at p0
          obtain ⟨hlen, hal, ni1, ni2, ni3, n12, n13, n23, l1, l2, l3⟩ := hcond
          obtain ⟨M2, ρ2, x2, rep2, o2, _, _⟩ := Rep.frz r.al rep1
          have is2:Is H1 (msk g M2 r.fr) r.d v := Is.frozen rep1 x2 o2 is1
          have p2 := PostS.frz (⟨fun a z => x2 a (x1m a z), fun _ _ q _ => q⟩ : Frz M0 H1 M2 H1) p0
          clear p0
          rw [qd] at is2
          have hq2:(frz env r.al)[i]? = some (some (.tre (.dic [] []))) := by rw [frz_ne _ hal]; exact hq
          have hi:i < (frz env r.al).length := (List.getElem?_eq_some_iff.mp hq2).1
          obtain ⟨va, ev, ka⟩ := rep2.slot i _ hq2
          have ka:Is H1 (ρ2 i) (.dic [] []) va := ka
          obtain ⟨a, ws, rfl, ⟨dat, pa⟩, hw⟩ := ka
          obtain ⟨nMa, a0, muA⟩ := rep2.priv i a pa
          have nofz:∀ o u, H1 a ≠ some (.frz o u) := fun o u z => by
            obtain ⟨uo, q, qm⟩ := muA
            rw [z] at q; cases q; exact qm
          have rootA:H1 a = some (.dK []) \/ H1 a = some (.dT []) := by
            rcases dat with ⟨kvs, e | ⟨o, e⟩, h1, _⟩ | ⟨kvs, e | ⟨o, e⟩, h1, _⟩
            · left
              have:kvs = [] := by simpa using h1.symm
              rw [this] at e; exact e
            · exact (nofz _ _ e).elim
            · right
              have:kvs = [] := by simpa using h1.symm
              rw [this] at e; exact e
            · exact (nofz _ _ e).elim
          have notA:∀ c u, H1 c = some u -> (∀ k, u ≠ .dK k) -> (∀ k, u ≠ .dT k) -> c ≠ a := fun c u e n1 n2 z => by
            subst z
            rcases rootA with q | q <;> (rw [q] at e; cases e)
            · exact n1 _ rfl
            · exact n2 _ rfl
          obtain ⟨la, vs, rfl, hla, hall⟩ := is2
          have lists:Rd H1 la (.lst vs) := hla.imp (·.1) fun ⟨o, z, _⟩ => ⟨o, z⟩
          have nla:la ≠ a := by
            rcases hla with ⟨q, _⟩ | ⟨o, q, _⟩
            · exact notA la _ q (fun _ z => nomatch z) fun _ z => nomatch z
            · exact notA la _ q (fun _ z => nomatch z) fun _ z => nomatch z
          have hvl:vs.length = ts.length := by rw [hall.length]; exact trisD_len qt
          let Pv:Nat -> St -> Hp -> Prop := fun j σ' H' => σ'.length = σ.length /\ (∀ n, n ≠ r1 -> n ≠ r2 -> n ≠ r3 -> σ'[n]? = σ[n]?) /\ (∀ c u, H1 c = some u -> c ≠ a -> H' c = some u) /\ ∃ A B, Gr H' a (ts.take j) A B /\ ∀ c, InT a (ts.take j) A B c -> c = a \/ H1 c = none
          have P0:Pv 0 σ H1 := by
            refine ⟨rfl, fun _ _ _ _ => rfl, fun _ _ e _ => e, fun _ => 0, fun _ _ => 0, ?_, ?_⟩
            · rw [List.take_zero]
              exact ⟨rootA.imp (fun q => by exact q) fun q => ⟨rfl, q⟩, fun x hx => (by cases hx), fun x y hy => (by cases hy), fun x hx => (by cases hx), fun x hx => (by cases hx), fun x y hy => (by cases hy)⟩
            · rw [List.take_zero]
              rintro c (h | ⟨x, hx, _⟩ | ⟨x, y, hy, _⟩)
              · exact .inl h
              · cases hx
              · cases hy
          have sql:∀ σ' H' j, Pv j σ' H' -> SqL X.K H' la vs := fun σ' H' j z => .inl (rdKeep lists fun o e => z.2.2.1 la o e nla)
          refine ⟨la, rfl, .inl ⟨⟨vs, .inl lists⟩, for_list (K := X.K) (a := la) (xs := vs) Pv P0 (fun j σ' H' _ z => sql σ' H' j z) (fun j v σ' H' ex z => ?_) fun σ' H' z => ?_⟩⟩
          · obtain ⟨z1, z2, z3, A, B, G, tin⟩ := z
            obtain ⟨x, y, w, pj, et, rfl, hpj⟩ := trisD_at hall qt ex
            have hj:j < ts.length := (List.getElem?_eq_some_iff.mp et).1
            have npj:pj ≠ a := notA pj _ hpj (fun _ z => nomatch z) fun _ z => nomatch z
            have htk:ts.take (j + 1) = ts.take j ++ [(x, y, w)] := by
              have e2:ts[j] = (x, y, w) := by rw [List.getElem?_eq_getElem hj] at et; exact Option.some.inj et
              rw [<- e2, List.take_append_getElem]
            have hlσ:σ'.length = (frz env r.al).length := by rw [z1, rep2.len]
            have b1:r1 < σ'.length := by rw [hlσ, frz_len]; exact l1
            have b2:r2 < σ'.length := by rw [hlσ, frz_len]; exact l2
            have b3:r3 < σ'.length := by rw [hlσ, frz_len]; exact l3
            refine ⟨pj, _, rfl, SqT.of (z3 pj _ hpj npj), rfl, _, _, rfl, _, _, rfl, _, _, rfl, rfl, ?_⟩
            show tDrop (tGrp X.K i r1 r2 r3) _ (((σ'.set r1 (some (.int x))).set r2 (some (.int y))).set r3 (some (.int w))) H'
            have get:∀ n, n ≠ r1 -> n ≠ r2 -> n ≠ r3 -> (((σ'.set r1 (some (.int x))).set r2 (some (.int y))).set r3 (some (.int w)))[n]? = σ'[n]? := fun n a1 a2 a3 => by
              rw [List.getElem?_set_ne (Ne.symm a3), List.getElem?_set_ne (Ne.symm a2), List.getElem?_set_ne (Ne.symm a1)]
            refine grp_body G (Nat.le_trans (by rw [List.length_take]; omega) hlen) (x := x) (y := y) (z := w) ?_ ?_ ?_ ?_ fun H2 A' B' G' kp up dn => ?_
            · rw [get i ni1 ni2 ni3, z2 i ni1 ni2 ni3]; exact ev
            · rw [List.getElem?_set_ne (Ne.symm n13), List.getElem?_set_ne (Ne.symm n12), List.getElem?_set_self b1]
            · rw [List.getElem?_set_ne (Ne.symm n23), List.getElem?_set_self (by rw [List.length_set]; exact b2)]
            · rw [List.getElem?_set_self (by rw [List.length_set, List.length_set]; exact b3)]
            · refine ⟨by simp [z1], fun n a1 a2 a3 => (get n a1 a2 a3).trans (z2 n a1 a2 a3), fun c u e hn => ?_, A', B', by rw [htk]; exact G', fun c hc => ?_⟩
              · refine kp c u (z3 c u e hn) fun q => ?_
                rcases tin c q with q | q
                · exact hn q
                · rw [e] at q; cases q
              · rw [htk] at hc
                rcases dn c hc with q | q
                · exact tin c q
                · by_cases hca : c = a
                  · exact .inl hca
                  · right
                    cases e:H1 c with
                    | none => rfl
                    | some u => rw [z3 c u e hca] at q; cases q
          · obtain ⟨z1, z2, z3, A, B, G, tin⟩ := z
            rw [hvl, List.take_length] at G tin
            have kM:∀ c u, H1 c = some u -> (M2 c \/ fixd u) -> H' c = some u := fun c u e q => z3 c u e fun z => by
              subst z
              rcases q with q | q
              · exact nMa q
              · rcases rootA with w | w <;> (rw [w] at e; cases e; exact q)
            have kR:∀ j, j ≠ i -> ∀ c u, H1 c = some u -> (ρ2 j c \/ fixd u) -> H' c = some u := fun j hj c u e q => z3 c u e fun z => by
              subst z
              rcases q with q | q
              · exact hj (rep2.apart j i _ q pa)
              · rcases rootA with w | w <;> (rw [w] at e; cases e; exact q)
            have muT:∀ c, InT a ts A B c -> Mu H' c := fun c hc => by
              rcases hc with rfl | ⟨x, hx, rfl⟩ | ⟨x, y, hy, rfl⟩
              · rcases G.root with q | ⟨_, q⟩ <;> exact ⟨_, q, True.intro⟩
              · exact ⟨_, G.inn x hx, True.intro⟩
              · exact ⟨_, G.leaf x y hy, True.intro⟩
            refine p2 σ' M2 (fun j c => if j = i then InT a ts A B c else if j = r1 \/ j = r2 \/ j = r3 then False else ρ2 j c) H' ⟨fun _ z => z, kM⟩ ?_
            have rho:∀ j c, (if j = i then InT a ts A B c else if j = r1 \/ j = r2 \/ j = r3 then False else ρ2 j c) -> (j = i /\ InT a ts A B c) \/ (j ≠ i /\ ¬ (j = r1 \/ j = r2 \/ j = r3) /\ ρ2 j c) := fun j c h => by
              by_cases hj:j = i
              · rw [if_pos hj] at h; exact .inl ⟨hj, h⟩
              · rw [if_neg hj] at h
                by_cases hr:j = r1 \/ j = r2 \/ j = r3
                · rw [if_pos hr] at h; exact h.elim
                · rw [if_neg hr] at h; exact .inr ⟨hj, hr, h⟩
            have fresh:∀ c, InT a ts A B c -> ¬ M2 c /\ g.H₀ c = none /\ ∀ j, j ≠ i -> ¬ ρ2 j c := fun c hc => by
              rcases tin c hc with q | q
              · subst q; exact ⟨nMa, a0, fun j hj w => hj (rep2.apart j i _ w pa)⟩
              · exact ⟨fun w => rep2.froz c w q, rep2.same.free q, fun j _ w => (rep2.priv j c w).2.2.some q⟩
            have envs:∀ j, j ≠ i -> ∀ sl, (((((frz env r.al).set r1 none).set r2 none).set r3 none).set i (some (.tre (grpD ts))))[j]? = some (some sl) -> ¬ (j = r1 \/ j = r2 \/ j = r3) /\ (frz env r.al)[j]? = some (some sl) := fun j hj sl e => by
              rw [List.getElem?_set_ne (Ne.symm hj)] at e
              by_cases h3:j = r3
              · subst h3; rw [List.getElem?_set_self (by simp [frz_len]; exact l3)] at e; cases e
              · rw [List.getElem?_set_ne (Ne.symm h3)] at e
                by_cases h2:j = r2
                · subst h2; rw [List.getElem?_set_self (by simp [frz_len]; exact l2)] at e; cases e
                · rw [List.getElem?_set_ne (Ne.symm h2)] at e
                  by_cases h1:j = r1
                  · subst h1; rw [List.getElem?_set_self (by simp [frz_len]; exact l1)] at e; cases e
                  · rw [List.getElem?_set_ne (Ne.symm h1)] at e
                    exact ⟨fun z => z.elim h1 fun z => z.elim h2 h3, e⟩
            refine ⟨fun c u e => ?_, fun c hm e => ?_, rep2.inn, fun c hm h0 => ?_, fun j sl ej => ?_, fun j c w => ?_, fun j k c w1 w2 => ?_, fun j c w => ?_, by simp [z1, rep2.len], fun c zc e => ?_⟩
            · exact z3 c u (rep2.same c u e) fun z => by rw [z, a0] at e; cases e
            · cases q:H1 c with
              | none => exact rep2.froz c hm q
              | some u => rw [kM c u q (.inl hm)] at e; cases e
            · exact (rep2.fl c hm h0).same fun o e => kM c o e (.inl hm)
            · by_cases hj : j = i
              · subst hj
                rw [List.getElem?_set_self (by simpa using hi)] at ej
                cases ej
                refine ⟨.ref a, by rw [z2 j ni1 ni2 ni3]; exact ev, ?_⟩
                rw [show (fun c => if j = j then InT a ts A B c else if j = r1 \/ j = r2 \/ j = r3 then False else ρ2 j c) = InT a ts A B by funext c; rw [if_pos rfl]]
                exact G.is
              · obtain ⟨hr, ej'⟩ := envs j hj sl ej
                obtain ⟨v', ev', k2⟩ := rep2.slot j sl ej'
                refine ⟨v', by rw [z2 j (fun z => hr (.inl z)) (fun z => hr (.inr (.inl z))) (fun z => hr (.inr (.inr z)))]; exact ev', ?_⟩
                rw [show (fun c => if j = i then InT a ts A B c else if j = r1 \/ j = r2 \/ j = r3 then False else ρ2 j c) = ρ2 j by funext c; rw [if_neg hj, if_neg hr]]
                cases sl with
                | val d f => exact Is.mono (fun c u e z => kM c u e (z.imp (·.1) id)) (fun _ _ _ z => z) k2
                | own ds' f =>
                  obtain ⟨c, us, rfl, q1, q2, q3⟩ := k2
                  exact ⟨c, us, rfl, kR j hj c _ q1 (.inl ((q2 c).mpr rfl)), q2, IsAll.mono (fun c u e z => kM c u e (z.imp (·.1) id)) (fun _ _ _ z => z) q3⟩
                | tre d => exact Is.mono (fun c u e z => kR j hj c u e z) (fun _ _ _ z => z) k2
                | mes d => exact IsSh.mono (fun c u e z => kM c u e (.inr z)) (fun c us z e => ⟨us, kR j hj c _ e (.inl z)⟩) (fun _ z => z) k2
            · rcases rho j c w with ⟨rfl, q⟩ | ⟨hj, hr, q⟩
              · exact ⟨(fresh c q).1, (fresh c q).2.1, muT c q⟩
              · obtain ⟨q1, q2, uo, q3, qm⟩ := rep2.priv j c q
                exact ⟨q1, q2, uo, kR j hj c _ q3 (.inl q), qm⟩
            · rcases rho j c w1 with ⟨rfl, q⟩ | ⟨hj, hr, q⟩ <;> rcases rho k c w2 with ⟨rfl, q'⟩ | ⟨hk, hr', q'⟩
              · rfl
              · exact ((fresh c q).2.2 k hk q').elim
              · exact ((fresh c q').2.2 j hj q).elim
              · exact rep2.apart j k c q q'
            · unfold isOwn
              rcases rho j c w with ⟨rfl, q⟩ | ⟨hj, hr, q⟩
              · rw [List.getElem?_set_self (by simpa using hi)]; rfl
              · have := rep2.ow j c q
                unfold isOwn at this
                rw [List.getElem?_set_ne (Ne.symm hj), List.getElem?_set_ne (fun z => hr (.inr (.inr z.symm))), List.getElem?_set_ne (fun z => hr (.inr (.inl z.symm))), List.getElem?_set_ne (fun z => hr (.inl z.symm))]
                exact this
            · cases q:H1 c with
              | none => exact rep2.zz c zc q
              | some u =>
                by_cases hca:c = a
                · subst hca
                  exact (muT c (.inl rfl)).some e
                · rw [z3 c u q hca] at e; cases e
        · rw [if_neg hcond] at p0; exact p0.elim
    | _ => rw [qd] at p0; exact p0.elim
  · exact p.elim
end
end L3
namespace L3
open PySem PySem.Spec PyProof.Rows L2
def isDicR:Res R -> Bool
  | .ok (.val (.dic _ _) _ _) => true
  | .ok (.fre (.dic _ _)) => true
  | _ => false
def fForX (f:En -> Res R) (asg:D -> Bool -> En -> Option En) (fb:En -> Res Fl) : En -> Res Fl := fun env => if isDicR (f env) then fForZ f asg fb env else fFor (sSeq f) asg fb env
theorem psd_forX {X:Cx} {E:XK} {st:Stmt} {f:En -> Res R} {asg:D -> Bool -> En -> Option En} {fb:En -> Res Fl} (h1:PSD X E st (fFor (sSeq f) asg fb)) (h2:PSD X E st (fForZ f asg fb)) : PSD X E st (fForX f asg fb) := by
  obtain ⟨t1, p1, s1⟩ := h1
  obtain ⟨t2, p2, s2⟩ := h2
  refine ⟨fun D σ H => t1 D σ H \/ t2 D σ H, fun pins s σ H D I h => h.elim (p1 pins s σ H D I) (p2 pins s σ H D I), fun g M ρ env σ H D rep p => ?_⟩
  unfold fForX at p
  split at p
  · exact .inr (s2 g M ρ env σ H D rep p)
  · exact .inl (s1 g M ρ env σ H D rep p)
end L3
set_option autoImplicit false
namespace L3
open PySem L2
section
variable {env env':En} {i j:Nat} {d:D} {ds es:List D} {f g:Bool} {al bl:List Nat} {x y:Int}
def kS (k:En -> Res Fl) : Fl -> Res Fl
  | .nx env' => k env'
  | r => .ok r
theorem e_seq (f k:En -> Res Fl) (env:En) : fSeq f k env = (f env).bind (kS k) := by
  rfl
theorem e_nx (k:En -> Res Fl) (e:En) : kS k (.nx e) = k e := (rfl)
theorem e_rt (k:En -> Res Fl) (r:R) : kS k (.rt r) = .ok (.rt r) := (rfl)
def kIf (a b:En -> Res Fl) (env:En) (k:Bool) : Res Fl := if k then a env else b env
theorem e_if (c:En -> Res Bool) (a b:En -> Res Fl) (env:En) : fIf c a b env = (c env).bind (kIf a b env) := (rfl)
theorem e_ifT (a b:En -> Res Fl) (env:En) : kIf a b env true = a env := (rfl)
theorem e_ifF (a b:En -> Res Fl) (env:En) : kIf a b env false = b env := (rfl)
theorem e_nil (env:En) : fNil env = .ok (.nx env) := (rfl)
def kRet (r:R) : Res Fl := .ok (.rt r)
theorem e_ret (a:En -> Res R) (env:En) : fRet a env = (a env).bind kRet := (rfl)
theorem e_kret (r:R) : kRet r = .ok (.rt r) := (rfl)
def kSet (i:Nat) (env:En) (r:R) : Res Fl := if i < env.length then .ok (.nx (put env i r)) else .stuck
theorem e_set (i:Nat) (a:En -> Res R) (env:En) : fSet i a env = (a env).bind (kSet i env) := (rfl)
theorem e_kset (r:R) (h:i < env.length) : kSet i env r = .ok (.nx (put env i r)) := if_pos h
theorem e_putV:put env i (.val d f []) = env.set i (some (.val d f)) := (rfl)
theorem e_putN:put env i (.new ds f) = env.set i (some (.own ds f)) := (rfl)
theorem e_putF:put env i (.fre d) = env.set i (some (.tre d)) := (rfl)
theorem e_putA:put env i (.val d f al) = (frz env al).set i (some (.val d f)) := (rfl)
def vAt (i:Nat) : Option (Option Sl) -> Res R
  | some (some (.val d fr)) => .ok (mkV d fr [])
  | some (some (.own ds fr)) => .ok (.val (.lst ds) fr [i])
  | some (some (.tre d)) => .ok (.val d true [i])
  | _ => .stuck
theorem e_var (i:Nat) (env:En) : vVar i env = vAt i env[i]? := by unfold vVar vAt; rfl
theorem e_atV:vAt i (some (some (.val d f))) = .ok (mkV d f []) := (rfl)
theorem e_atO:vAt i (some (some (.own ds f))) = .ok (.val (.lst ds) f [i]) := (rfl)
theorem e_atT:vAt i (some (some (.tre d))) = .ok (.val d true [i]) := (rfl)
theorem e_c (d:D) (env:En) : vC d env = .ok (.val d true []) := (rfl)
theorem e_mkVt (h:d.flat = true) : mkV d f al = .val d true [] := by unfold mkV; rw [if_pos h]
theorem e_mkVf (h:d.flat = false) : mkV d f al = .val d f al := by unfold mkV; rw [if_neg (by rw [h]; simp)]
theorem e_mkLt (h:D.flats ds = true) : mkL ds f al = .new ds true := by unfold mkL; rw [if_pos h]
theorem e_mkLt0:mkL ds true [] = .new ds true := by unfold mkL; split <;> rfl
def k2b (op:R -> R -> Res R) (fb:En -> Res R) (env:En) (ra:R) : Res R := (fb env).bind (op ra)
theorem e_v2 (op:R -> R -> Res R) (fa fb:En -> Res R) (env:En) : v2 op fa fb env = (fa env).bind (k2b op fb env) := (rfl)
theorem e_k2b (op:R -> R -> Res R) (fb:En -> Res R) (env:En) (ra:R) : k2b op fb env ra = (fb env).bind (op ra) := (rfl)
theorem e_add:oAdd (.val (.int x) f al) (.val (.int y) g bl) = .ok (.val (.int (x + y)) true []) := (rfl)
theorem e_sub:oSub (.val (.int x) f al) (.val (.int y) g bl) = .ok (.val (.int (x - y)) true []) := (rfl)
theorem e_mulR (h1:-18446744073709551616 < y) (h2:y < 18446744073709551616) : oMul (.val (.int x) f al) (.val (.int y) g bl) = .ok (.val (.int (x * y)) true []) := by
  have:cMul x y = true := by
    unfold cMul
    rw [Bool.or_eq_true, Bool.and_eq_true, Bool.and_eq_true]
    exact .inr ⟨decide_eq_true (by omega), decide_eq_true (by omega)⟩
  show (if cMul x y = true then _ else _) = _
  rw [if_pos this]
theorem e_mod (h:0 < y) : oMod (.val (.int x) f al) (.val (.int y) g bl) = .ok (.val (.int (x % y)) true []) := by
  show (if decide (0 < y) = true then _ else _) = _
  rw [if_pos (decide_eq_true h)]
theorem e_div (h:0 < y) (h2:y < 1073741824) : oDiv (.val (.int x) f al) (.val (.int y) g bl) = .ok (.val (.int (x / y)) true []) := by
  show (if (decide (0 < y) && decide (y < 1073741824)) = true then _ else _) = _
  rw [if_pos (by rw [decide_eq_true h, decide_eq_true h2]; rfl)]
theorem e_lt:oLt (.val (.int x) f al) (.val (.int y) g bl) = .ok (.val (.bl (decide (x < y))) true []) := (rfl)
theorem e_gt:oGt (.val (.int x) f al) (.val (.int y) g bl) = .ok (.val (.bl (decide (y < x))) true []) := (rfl)
theorem e_ge:oGe (.val (.int x) f al) (.val (.int y) g bl) = .ok (.val (.bl (decide (y <= x))) true []) := (rfl)
theorem e_eq {a b:R} (h:a.d.dep <= 50) (h2:b.d.dep <= 50) : oEq a b = .ok (.val (.bl (eqD a.d b.d)) true []) := by unfold oEq; rw [if_pos ⟨h, h2⟩]
theorem e_ne {a b:R} (h:a.d.dep <= 50) (h2:b.d.dep <= 50) : oNe a b = .ok (.val (.bl (!eqD a.d b.d)) true []) := by unfold oNe; rw [if_pos ⟨h, h2⟩]
theorem e_eqI:eqD (.int x) (.int y) = (x == y) := (rfl)
def addL (xs ys:List D) (f:Bool) (al:List Nat) : Res R := if xs.length + ys.length <= lim then .ok (mkL (xs ++ ys) f al) else .stuck
theorem e_catVV:oAdd (.val (.lst ds) f al) (.val (.lst es) g bl) = addL ds es (f && g) (al ++ bl) := (rfl)
theorem e_catVN:oAdd (.val (.lst ds) f al) (.new es g) = addL ds es (f && g) (al ++ []) := (rfl)
theorem e_catNV:oAdd (.new ds f) (.val (.lst es) g bl) = addL ds es (f && g) ([] ++ bl) := (rfl)
theorem e_catNN:oAdd (.new ds f) (.new es g) = addL ds es (f && g) [] := (rfl)
def kCons (fs:En -> Res (List R)) (env:En) (r:R) : Res (List R) := (fs env).bind (fun rs => .ok (r :: rs))
def kCons2 (r:R) (rs:List R) : Res (List R) := .ok (r :: rs)
theorem e_aNil (env:En) : aNil env = .ok [] := (rfl)
theorem e_aCons (a:En -> Res R) (fs:En -> Res (List R)) (env:En) : aCons a fs env = (a env).bind (kCons fs env) := (rfl)
theorem e_kCons (fs:En -> Res (List R)) (env:En) (r:R) : kCons fs env r = (fs env).bind (kCons2 r) := (rfl)
theorem e_kCons2 (r:R) (rs:List R) : kCons2 r rs = .ok (r :: rs) := (rfl)
def kTup (rs:List R) : Res R := if rs.length <= lim then .ok (mkV (.tup (rs.map R.d)) (rfrs rs) (rals rs)) else .stuck
theorem e_tup (fs:En -> Res (List R)) (env:En) : vTup fs env = (fs env).bind kTup := (rfl)
theorem e_kTup (rs:List R) (h:rs.length <= 1000000) : kTup rs = .ok (mkV (.tup (rs.map R.d)) (rfrs rs) (rals rs)) := if_pos h
def kLst (rs:List R) : Res R := if rs.length <= lim then .ok (mkL (rs.map R.d) (rfrs rs) (rals rs)) else .stuck
theorem e_lst (fs:En -> Res (List R)) (env:En) : vLst fs env = (fs env).bind kLst := (rfl)
theorem e_kLst (rs:List R) (h:rs.length <= 1000000) : kLst rs = .ok (mkL (rs.map R.d) (rfrs rs) (rals rs)) := if_pos h
theorem rfrs_nil:rfrs [] = true := (rfl)
theorem rfrs_cons (r:R) (rs:List R) : rfrs (r :: rs) = (r.fr && rfrs rs) := (rfl)
theorem rals_nil:rals [] = [] := (rfl)
theorem rals_cons (r:R) (rs:List R) : rals (r :: rs) = r.al ++ rals rs := (rfl)
def kCall (F:List D -> Res R) (rs:List R) : Res R := (F (rs.map R.d)).bind (fun r => .ok (callR rs r))
def kCall2 (rs:List R) (r:R) : Res R := .ok (callR rs r)
theorem e_call (F:List D -> Res R) (fs:En -> Res (List R)) (env:En) : vCall F fs env = (fs env).bind (kCall F) := (rfl)
theorem e_kCall (F:List D -> Res R) (rs:List R) : kCall F rs = (F (rs.map R.d)).bind (kCall2 rs) := (rfl)
theorem e_kCall2 (rs:List R) (r:R) : kCall2 rs r = .ok (callR rs r) := (rfl)
theorem e_callRt (rs:List R) (h:d.flat = true) : callR rs (.val d f al) = .val d true [] := if_pos h
theorem e_callRf (rs:List R) (h:d.flat = false) : callR rs (.val d true al) = .fre d := by
  show mkC d true rs = _
  unfold mkC; rw [if_neg (by rw [h]; simp), if_pos rfl]
theorem e_callRv (rs:List R) (h:d.flat = false) : callR rs (.val d false al) = .val d (rfrs rs) (rals rs) := by
  show mkC d false rs = _
  unfold mkC; rw [if_neg (by rw [h]; simp), if_neg (by simp)]
theorem e_callRn (rs:List R) (h:D.flats ds = true) : callR rs (.new ds f) = .new ds true := by
  show (if D.flats ds = true then _ else _) = _
  rw [if_pos h]
theorem e_callRnf (rs:List R) (h:D.flats ds = false) : callR rs (.new ds true) = .fre (.lst ds) := by
  show (if D.flats ds = true then _ else _) = _
  rw [if_neg (by rw [h]; simp), if_pos rfl]
theorem e_B1 (k:List R -> Res R) (fs:En -> Res (List R)) (env:En) : vB1 k fs env = (fs env).bind k := (rfl)
def lenD:D -> Res R
  | .lst ds => .ok (.val (.int ds.length) true [])
  | .tup ds => .ok (.val (.int ds.length) true [])
  | .str z => if z.length <= lim then .ok (.val (.int z.length) true []) else .stuck
  | _ => .stuck
theorem e_len (r:R) : kLen [r] = lenD r.d := by unfold kLen lenD; rfl
theorem e_lenL:lenD (.lst ds) = .ok (.val (.int ds.length) true []) := (rfl)
theorem e_lenT:lenD (.tup ds) = .ok (.val (.int ds.length) true []) := (rfl)
def listD (f:Bool) (al:List Nat) : D -> Res R
  | .lst ds => .ok (mkL ds f al)
  | .tup ds => .ok (mkL ds f al)
  | _ => .stuck
theorem e_list (r:R) : kList [r] = listD r.fr r.al r.d := by unfold kList listD; rfl
theorem e_listL:listD f al (.lst ds) = .ok (mkL ds f al) := (rfl)
theorem e_listT:listD f al (.tup ds) = .ok (mkL ds f al) := (rfl)
def kB (ra:R) : Res Bool := match ra.d with
  | .bl b => .ok b
  | _ => .stuck
theorem e_vB (a:En -> Res R) (env:En) : vB a env = (a env).bind kB := (rfl)
theorem e_kB (b:Bool) : kB (.val (.bl b) f al) = .ok b := (rfl)
def kTru (ra:R) : Res Bool := tru ra.d
theorem e_vTru (a:En -> Res R) (env:En) : vTru a env = (a env).bind kTru := (rfl)
theorem e_kTru (b:Bool) : kTru (.val (.bl b) f al) = .ok b := (rfl)
def kNotB (b:Bool) : Res Bool := .ok (!b)
theorem e_bNot (a:En -> Res Bool) (env:En) : bNot a env = (a env).bind kNotB := (rfl)
theorem e_kNotB (b:Bool) : kNotB b = .ok (!b) := (rfl)
def kAndB (b:En -> Res Bool) (env:En) (k:Bool) : Res Bool := if k then b env else .ok false
def kOrB (b:En -> Res Bool) (env:En) (k:Bool) : Res Bool := if k then .ok true else b env
theorem e_bAnd (a b:En -> Res Bool) (env:En) : bAnd a b env = (a env).bind (kAndB b env) := (rfl)
theorem e_bOr (a b:En -> Res Bool) (env:En) : bOr a b env = (a env).bind (kOrB b env) := (rfl)
theorem e_andT (b:En -> Res Bool) (env:En) : kAndB b env true = b env := (rfl)
theorem e_andF (b:En -> Res Bool) (env:En) : kAndB b env false = .ok false := (rfl)
theorem e_orT (b:En -> Res Bool) (env:En) : kOrB b env true = .ok true := (rfl)
theorem e_orF (b:En -> Res Bool) (env:En) : kOrB b env false = b env := (rfl)
def ixD (f:Bool) (al:List Nat) : Option D -> Res R
  | some d => .ok (mkV d f al)
  | none => .stuck
def ixDD (a b:D) (f:Bool) (al:List Nat) : Res R := match a, b with
  | .lst xs, .int i => ixD f al (atI xs i)
  | .tup xs, .int i => ixD f al (atI xs i)
  | .str z, .int i => if z.length <= lim then (match atI z.cps.toList i with
    | some c => .ok (.val (.str ⟨#[c]⟩) true [])
    | none => .stuck) else .stuck
  | _, _ => .stuck
theorem e_ix (a b:R) : oIx a b = ixDD a.d b.d a.fr a.al := by
  unfold oIx ixDD ixD; rfl
theorem e_ixL {k:Int} : ixDD (.lst ds) (.int k) f al = ixD f al (atI ds k) := (rfl)
theorem e_ixT {k:Int} : ixDD (.tup ds) (.int k) f al = ixD f al (atI ds k) := (rfl)
theorem e_ixD:ixD f al (some d) = .ok (mkV d f al) := (rfl)
def kIxO (ds:List D) (fr:Bool) (rb:R) : Res R := match rb.d with
  | .int k => match atI ds k with
    | some d => .ok (mkV d fr [])
    | none => .stuck
  | _ => .stuck
def ixAt (i:Nat) (fb:En -> Res R) (env:En) : Option (Option Sl) -> Res R
  | some (some (.own ds fr)) => (fb env).bind (kIxO ds fr)
  | _ => v2 oIx (vVar i) fb env
theorem e_ixV (i:Nat) (fb:En -> Res R) (env:En) : vIxV i fb env = ixAt i fb env env[i]? := by unfold vIxV ixAt; rfl
theorem e_ixAO (fb:En -> Res R) : ixAt i fb env (some (some (.own ds f))) = (fb env).bind (kIxO ds f) := (rfl)
theorem e_ixAV (fb:En -> Res R) : ixAt i fb env (some (some (.val d f))) = v2 oIx (vVar i) fb env := (rfl)
theorem e_ixAT (fb:En -> Res R) : ixAt i fb env (some (some (.tre d))) = v2 oIx (vVar i) fb env := (rfl)
theorem e_kIxO {k:Int} : kIxO ds f (.val (.int k) g al) = ixD f [] (atI ds k) := by unfold kIxO ixD; rfl
theorem at0 {α:Type} (a:α) (l:List α) : atI (a :: l) 0 = some a := by
  unfold atI ixN; rw [if_pos (by omega), if_pos (by simp)]; rfl
theorem at1 {α:Type} (a b:α) (l:List α) : atI (a :: b :: l) 1 = some b := by
  unfold atI ixN; rw [if_pos (by omega), if_pos (by simp; omega)]; rfl
theorem at2 {α:Type} (a b c:α) (l:List α) : atI (a :: b :: c :: l) 2 = some c := by
  unfold atI ixN; rw [if_pos (by omega), if_pos (by simp; omega)]; rfl
theorem at3 {α:Type} (a b c d:α) (l:List α) : atI (a :: b :: c :: d :: l) 3 = some d := by
  unfold atI ixN; rw [if_pos (by omega), if_pos (by simp; omega)]; rfl
def kSl1 (fl fh:En -> Res (Option Int)) (env:En) (r:R) : Res R := (fl env).bind fun lo => (fh env).bind fun hi => oCut r lo hi
def kSl2 (fh:En -> Res (Option Int)) (env:En) (r:R) (lo:Option Int) : Res R := (fh env).bind fun hi => oCut r lo hi
theorem e_slice (fa:En -> Res R) (fl fh:En -> Res (Option Int)) (env:En) : vSlice fa fl fh env = (fa env).bind (kSl1 fl fh env) := (rfl)
theorem e_kSl1 (fl fh:En -> Res (Option Int)) (env:En) (r:R) : kSl1 fl fh env r = (fl env).bind (kSl2 fh env r) := (rfl)
theorem e_kSl2 (fh:En -> Res (Option Int)) (env:En) (r:R) (lo:Option Int) : kSl2 fh env r lo = (fh env).bind (oCut r lo) := (rfl)
def kO (r:R) : Res (Option Int) := match r.d with
  | .int i => .ok (some i)
  | _ => .stuck
theorem e_oSome (a:En -> Res R) (env:En) : oSome a env = (a env).bind kO := (rfl)
theorem e_kO:kO (.val (.int x) f al) = .ok (some x) := (rfl)
def cutD (f:Bool) (al:List Nat) (lo hi:Option Int) : D -> Res R
  | .lst xs => .ok (mkL (cutA xs lo hi) f al)
  | .tup xs => .ok (mkV (.tup (cutA xs lo hi)) f al)
  | _ => .stuck
theorem e_cut (r:R) (lo hi:Option Int) : oCut r lo hi = cutD r.fr r.al lo hi r.d := by unfold oCut cutD; rfl
theorem e_cutL (lo hi:Option Int) : cutD f al lo hi (.lst ds) = .ok (mkL (cutA ds lo hi) f al) := (rfl)
theorem e_cutT (lo hi:Option Int) : cutD f al lo hi (.tup ds) = .ok (mkV (.tup (cutA ds lo hi)) f al) := (rfl)
def kIsi (T:String) (r:R) : Res R := .ok (.val (.bl (isT T r.d)) true [])
theorem e_isi (T:String) (a:En -> Res R) (env:En) : vIsi T a env = (a env).bind (kIsi T) := (rfl)
theorem e_kIsi (T:String) (r:R) : kIsi T r = .ok (.val (.bl (isT T r.d)) true []) := (rfl)
theorem isT_ii : isT "int" (.int x) = true := (rfl)
theorem isT_bi : isT "bool" (.int x) = false := (rfl)
theorem isT_ll : isT "list" (.lst ds) = true := (rfl)
theorem isT_tt : isT "tuple" (.tup ds) = true := (rfl)
def kFor (asg:D -> Bool -> En -> Option En) (body:En -> Res Fl) (env:En) (s:Src) : Res Fl := forD asg s.fr body s.xs (frz env s.al)
theorem e_for (src:En -> Res Src) (asg:D -> Bool -> En -> Option En) (body:En -> Res Fl) (env:En) : fFor src asg body env = (src env).bind (kFor asg body env) := (rfl)
theorem e_kFor (asg:D -> Bool -> En -> Option En) (body:En -> Res Fl) (env:En) (xs:List D) : kFor asg body env ⟨xs, f, al⟩ = forD asg f body xs (frz env al) := (rfl)
def kSeq (r:R) : Res Src := match r.d with
  | .lst ds => .ok ⟨ds, r.fr, r.al⟩
  | .tup ds => .ok ⟨ds, r.fr, r.al⟩
  | _ => .stuck
theorem e_sSeq (a:En -> Res R) (env:En) : sSeq a env = (a env).bind kSeq := (rfl)
theorem e_kSeqVL:kSeq (.val (.lst ds) f al) = .ok ⟨ds, f, al⟩ := (rfl)
theorem e_kSeqVT:kSeq (.val (.tup ds) f al) = .ok ⟨ds, f, al⟩ := (rfl)
theorem e_kSeqN:kSeq (.new ds f) = .ok ⟨ds, f, []⟩ := (rfl)
theorem e_kSeqFL:kSeq (.fre (.lst ds)) = .ok ⟨ds, true, []⟩ := (rfl)
theorem e_kSeqFT:kSeq (.fre (.tup ds)) = .ok ⟨ds, true, []⟩ := (rfl)
def kR1 (rs:List R) : Res Src := match rs.map R.d with
  | [.int j] => if cR j then .ok ⟨numsD 0 j.toNat, true, []⟩ else .stuck
  | _ => .stuck
theorem e_sR1 (fs:En -> Res (List R)) (env:En) : sR1 fs env = (fs env).bind kR1 := (rfl)
theorem cR_of (h1:-4611686018427387904 <= x) (h2:x < 4611686018427387904) : cR x = true := by
  unfold cR; rw [Bool.and_eq_true]; exact ⟨decide_eq_true (by omega), decide_eq_true (by omega)⟩
theorem e_kR1 (h1:-4611686018427387904 <= x) (h2:x < 4611686018427387904) : kR1 [.val (.int x) f al] = .ok ⟨numsD 0 x.toNat, true, []⟩ := if_pos (cR_of h1 h2)
theorem e_frz0:frz env [] = env := (rfl)
theorem e_gN (h:i < env.length) : gN i d f env = some (env.set i (some (.val d f))) := if_pos h
def kComp (n:Nat) (caps:List Nat) (asg:D -> Bool -> En -> Option En) (test:En -> Res Bool) (elt:En -> Res R) (env:En) (s:Src) : Res R := if s.xs.length <= lim then
  (compD (fun d => asg d s.fr (envB env n caps)) test elt s.xs).noX.bind fun rs => .ok (mkL (rs.map R.d) (rfrs rs) (s.al ++ caps.filter (isOwn env))) else .stuck
theorem e_comp (n:Nat) (caps:List Nat) (src:En -> Res Src) (asg:D -> Bool -> En -> Option En) (test:En -> Res Bool) (elt:En -> Res R) (env:En) :
    vComp n caps src asg test elt env = (src env).bind (kComp n caps asg test elt env) := (rfl)
theorem e_kComp {n:Nat} {caps:List Nat} {asg:D -> Bool -> En -> Option En} {test:En -> Res Bool} {elt:En -> Res R} {xs:List D} {rs:List R} (hl:xs.length <= 1000000)
    (h:compD (fun d => asg d f (envB env n caps)) test elt xs = .ok rs) : kComp n caps asg test elt env ⟨xs, f, al⟩ = .ok (mkL (rs.map R.d) (rfrs rs) (al ++ caps.filter (isOwn env))) := by
  unfold kComp; dsimp only; rw [if_pos (show xs.length <= lim from hl), h]; rfl
theorem compD_map {α:Type} {mk:D -> Option En} {test:En -> Res Bool} {elt:En -> Res R} (g:α -> D) (k:α -> R) : ∀ (xs:List α), (∀ a ∈ xs, ∃ e, mk (g a) = some e /\ test e = .ok true /\ elt e = .ok (k a)) -> compD mk test elt (xs.map g) = .ok (xs.map k)
  | [], _ => rfl
  | a :: r, h => by
    obtain ⟨e, h1, h2, h3⟩ := h a (by simp)
    rw [List.map_cons, List.map_cons]
    unfold compD
    rw [h1]; dsimp only
    rw [h2]; dsimp only [Res.bind]
    rw [if_pos rfl, h3, compD_map g k r fun b hb => h b (by simp [hb])]
theorem compD_filter {α:Type} {mk:D -> Option En} {test:En -> Res Bool} {elt:En -> Res R} (g:α -> D) (p:α -> Bool) (k:α -> R) : ∀ (xs:List α), (∀ a ∈ xs, ∃ e, mk (g a) = some e /\ test e = .ok (p a) /\ (p a = true -> elt e = .ok (k a))) -> compD mk test elt (xs.map g) = .ok ((xs.filter p).map k)
  | [], _ => rfl
  | a :: r, h => by
    obtain ⟨e, h1, h2, h3⟩ := h a (by simp)
    rw [List.map_cons]
    unfold compD
    rw [h1]; dsimp only
    rw [h2]; dsimp only [Res.bind]
    have ih := compD_filter g p k r fun b hb => h b (by simp [hb])
    cases hp:p a with
    | true =>
      rw [if_pos rfl, h3 hp, List.filter_cons, if_pos hp, ih]; rfl
    | false =>
      rw [if_neg (by simp), List.filter_cons, if_neg (by rw [hp]; simp), ih]
def kApp (i:Nat) (env:En) (ds:List D) (fr:Bool) (r:R) : Res Fl := if ds.length < lim /\ ¬ i ∈ r.al then .ok (.nx ((frz env r.al).set i (some (.own (ds ++ [r.d]) (fr && r.fr))))) else .stuck
def appAt (i:Nat) (a:En -> Res R) (env:En) : Option (Option Sl) -> Res Fl
  | some (some (.own ds fr)) => (a env).bind (kApp i env ds fr)
  | some (some (.tre (.lst ds))) => (a env).bind (kApp i env ds true)
  | _ => .stuck
theorem e_app (a:En -> Res R) (env:En) : fApp i a env = appAt i a env env[i]? := by
  unfold fApp ownOf appAt
  cases env[i]? with
  | none => rfl
  | some o => cases o with
    | none => rfl
    | some s => cases s with
      | tre d => cases d <;> rfl
      | _ => rfl
theorem e_appO (a:En -> Res R) : appAt i a env (some (some (.own ds f))) = (a env).bind (kApp i env ds f) := (rfl)
theorem e_appT (a:En -> Res R) : appAt i a env (some (some (.tre (.lst ds)))) = (a env).bind (kApp i env ds true) := (rfl)
theorem e_kApp {r:R} (h:ds.length < 1000000) (hr:r.al = []) : kApp i env ds f r = .ok (.nx (env.set i (some (.own (ds ++ [r.d]) (f && r.fr))))) := by
  unfold kApp; rw [hr]; rw [if_pos ⟨h, by simp⟩]; rfl
end
theorem flat_int (x:Int) : (D.int x).flat = true := (rfl)
theorem flat_bl (x:Bool) : (D.bl x).flat = true := (rfl)
theorem flat_str (x:Str) : (D.str x).flat = true := (rfl)
theorem flat_non:D.non.flat = true := (rfl)
theorem flat_tup (ds:List D) : (D.tup ds).flat = D.flats ds := (rfl)
theorem flat_lst (ds:List D) : (D.lst ds).flat = false := (rfl)
theorem flats_nil:D.flats [] = true := (rfl)
theorem flats_cons (d:D) (ds:List D) : D.flats (d :: ds) = (d.flat && D.flats ds) := (rfl)
theorem dep_int (x:Int) : (D.int x).dep = 0 := (rfl)
theorem dep_bl (x:Bool) : (D.bl x).dep = 0 := (rfl)
theorem dep_str (x:Str) : (D.str x).dep = 0 := (rfl)
theorem dep_non:D.non.dep = 0 := (rfl)
theorem dep_tup (ds:List D) : (D.tup ds).dep = D.deps ds + 1 := (rfl)
theorem dep_lst (ds:List D) : (D.lst ds).dep = D.deps ds + 1 := (rfl)
theorem deps_nil:D.deps [] = 0 := (rfl)
theorem deps_cons (d:D) (ds:List D) : D.deps (d :: ds) = max d.dep (D.deps ds) := (rfl)
theorem ret_rt (r:R) : retOf (.ok (.rt r)) = .ok r := (rfl)
theorem ret_nx (e:En) : retOf (.ok (.nx e)) = .ok (.val .non true []) := (rfl)
theorem r_d_val (d:D) (f:Bool) (al:List Nat) : (R.val d f al).d = d := (rfl)
theorem r_d_new (ds:List D) (f:Bool) : (R.new ds f).d = .lst ds := (rfl)
theorem r_d_fre (d:D) : (R.fre d).d = d := (rfl)
theorem r_fr_val (d:D) (f:Bool) (al:List Nat) : (R.val d f al).fr = f := (rfl)
theorem r_fr_new (ds:List D) (f:Bool) : (R.new ds f).fr = f := (rfl)
theorem r_fr_fre (d:D) : (R.fre d).fr = true := (rfl)
theorem r_al_val (d:D) (f:Bool) (al:List Nat) : (R.val d f al).al = al := (rfl)
theorem r_al_new (ds:List D) (f:Bool) : (R.new ds f).al = [] := (rfl)
theorem r_al_fre (d:D) : (R.fre d).al = [] := (rfl)
theorem b_ok {α β:Type} (a:α) (k:α -> Res β) : (Res.ok a).bind k = k a := (rfl)
def kForT (asg:D -> Bool -> En -> Option En) (fr:Bool) (body:En -> Res Fl) (xs:List D) : Fl -> Res Fl
  | .nx e => forD asg fr body xs e
  | .ct e => forD asg fr body xs e
  | .bk e => .ok (.nx e)
  | .rt r => .ok (.rt r)
theorem e_forC {asg:D -> Bool -> En -> Option En} {fr:Bool} {body:En -> Res Fl} {x:D} {xs:List D} {env env1:En} (h:asg x fr env = some env1) : forD asg fr body (x :: xs) env = (body env1).bind (kForT asg fr body xs) := by
  unfold forD; rw [h]; rfl
theorem e_forNx (asg:D -> Bool -> En -> Option En) (fr:Bool) (body:En -> Res Fl) (xs:List D) (e:En) : kForT asg fr body xs (.nx e) = forD asg fr body xs e := (rfl)
theorem e_forRt (asg:D -> Bool -> En -> Option En) (fr:Bool) (body:En -> Res Fl) (xs:List D) (r:R) : kForT asg fr body xs (.rt r) = .ok (.rt r) := (rfl)
def allD:D -> Res R
  | .lst ds => match bools ds with
    | some bs => .ok (.val (.bl (bs.all id)) true [])
    | none => .stuck
  | _ => .stuck
theorem e_all (r:R) : kAll [r] = allD r.d := by
  rcases r with ⟨d, f, al⟩ | ⟨ds, f⟩ | ⟨d⟩ <;> first | rfl | (cases d <;> rfl)
def kSetI1 (i:Nat) (env:En) (ds:List D) (fr:Bool) (fk:En -> Res R) (r:R) : Res Fl := (fk env).bind fun k => match k.d with
    | .int z => match ixN ds.length z with
      | some j => if ¬ i ∈ r.al then .ok (.nx ((frz env r.al).set i (some (.own (ds.set j r.d) (fr && r.fr))))) else .stuck
      | none => .stuck
    | _ => .stuck
def kSetI2 (i:Nat) (env:En) (ds:List D) (fr:Bool) (r k:R) : Res Fl := match k.d with
    | .int z => match ixN ds.length z with
      | some j => if ¬ i ∈ r.al then .ok (.nx ((frz env r.al).set i (some (.own (ds.set j r.d) (fr && r.fr))))) else .stuck
      | none => .stuck
    | _ => .stuck
def setIAt (i:Nat) (fk fv:En -> Res R) (env:En) : Option (Option Sl) -> Res Fl
  | some (some (.own ds fr)) => (fv env).bind (kSetI1 i env ds fr fk)
  | some (some (.tre (.lst ds))) => (fv env).bind (kSetI1 i env ds true fk)
  | _ => .stuck
theorem e_setI (i:Nat) (fk fv:En -> Res R) (env:En) : fSetI i fk fv env = setIAt i fk fv env env[i]? := by
  unfold fSetI ownOf setIAt
  cases env[i]? with
  | none => rfl
  | some o => cases o with
    | none => rfl
    | some s => cases s with
      | tre d => cases d <;> rfl
      | _ => rfl
theorem e_setIO {i:Nat} {fk fv:En -> Res R} {env:En} {ds:List D} {f:Bool} : setIAt i fk fv env (some (some (.own ds f))) = (fv env).bind (kSetI1 i env ds f fk) := (rfl)
theorem e_setIT {i:Nat} {fk fv:En -> Res R} {env:En} {ds:List D} : setIAt i fk fv env (some (some (.tre (.lst ds)))) = (fv env).bind (kSetI1 i env ds true fk) := (rfl)
theorem e_kSetI1 (i:Nat) (env:En) (ds:List D) (fr:Bool) (fk:En -> Res R) (r:R) : kSetI1 i env ds fr fk r = (fk env).bind (kSetI2 i env ds fr r) := (rfl)
theorem c_0:((0:Nat) : Int) = 0 := (rfl)
theorem c_1:((1:Nat) : Int) = 1 := (rfl)
theorem c_2:((2:Nat) : Int) = 2 := (rfl)
theorem c_3:((3:Nat) : Int) = 3 := (rfl)
theorem c_4:((4:Nat) : Int) = 4 := (rfl)
theorem b_exc {α β:Type} (c:Str) (k:α -> Res β) : (Res.exc c:Res α).bind k = .exc c := (rfl)
theorem ret_exc (c:Str) : retOf (.exc c) = .exc c := (rfl)
theorem quiet_ok {α:Type} (a:α) : (Res.ok a).quiet = .ok a := (rfl)
theorem non_non:D.non.isNon = true := (rfl)
theorem non_int (x:Int) : (D.int x).isNon = false := (rfl)
theorem non_tup (x:List D) : (D.tup x).isNon = false := (rfl)
theorem non_lst (x:List D) : (D.lst x).isNon = false := (rfl)
theorem Res.noX_ok {α:Type} (a:α) : (Res.ok a).noX = .ok a := (rfl)
def inDD (neg:Bool) (a b:D) : Res R := match b with
  | .dic ks _ => inDic neg a ks
  | .lst ds => inD neg a ds
  | .tup ds => inD neg a ds
  | _ => .stuck
theorem e_inG (neg:Bool) (a b:R) : oInH neg a b = inDD neg a.d b.d := by
  unfold oInH oInG inDD
  cases b.d <;> rfl
theorem e_in (a b:R) : oInX a b = inDD false a.d b.d := e_inG false a b
theorem e_inK {neg:Bool} {a:D} {ks:List DK} {ds:List D} {k:DK} (h:keyX a = some k) (hk:ks.all (kin k) = true) : inDD neg a (.dic ks ds) = .ok (.val (.bl (if neg then !hasK ks k else hasK ks k)) true []) := by
  show inDic neg a ks = _
  unfold inDic; rw [h]; exact if_pos hk
theorem flat_dic (ks:List DK) (ds:List D) : (D.dic ks ds).flat = false := (rfl)
def putAt (i:Nat) (fk fv:En -> Res R) (env:En) : Option (Option Sl) -> Res Fl
  | some (some (.tre (.dic ks ds))) => (fv env).bind (kPut1 i fk env ks ds)
  | _ => .stuck
theorem e_putD (i:Nat) (fk fv:En -> Res R) (env:En) : fPutD i fk fv env = putAt i fk fv env env[i]? := by unfold fPutD putAt; rfl
theorem e_putAt {i:Nat} {fk fv:En -> Res R} {env:En} {ks:List DK} {ds:List D} : putAt i fk fv env (some (some (.tre (.dic ks ds)))) = (fv env).bind (kPut1 i fk env ks ds) := (rfl)
theorem e_kPut1 {i:Nat} {fk:En -> Res R} {env:En} {ks:List DK} {ds:List D} {r:R} (h:r.d.flat = true) : kPut1 i fk env ks ds r = (fk env).bind (kPut2 i env ks ds r.d) := if_pos h
theorem e_kPut2 {i:Nat} {env:En} {ks:List DK} {ds:List D} {d:D} {k:R} {x:DK} (h:keyX k.d = some x) (h2:ks.all (kin x) = true) (h3:ks.length < 1000000) : kPut2 i env ks ds d k = .ok (.nx (env.set i (some (.tre (dicPut ks ds x d))))) := by
  unfold kPut2; rw [h]; exact if_pos ⟨h2, h3⟩
def addT (xs ys:List D) (f:Bool) (al:List Nat) : Res R := if xs.length + ys.length <= lim /\ xs ≠ [] then .ok (mkV (.tup (xs ++ ys)) f al) else .stuck
theorem e_addT {xs ys:List D} {f g:Bool} {al bl:List Nat} : oAdd (.val (.tup xs) f al) (.val (.tup ys) g bl) = addT xs ys (f && g) (al ++ bl) := (rfl)
def frzAt (env:En) (i:Nat) : Option (Option Sl) -> En
  | some (some (.own ds fr)) => env.set i (some (.val (.lst ds) fr))
  | some (some (.tre d)) => env.set i (some (.val d true))
  | some (some (.mes _)) => env.set i none
  | _ => env
theorem e_frzC (env:En) (i:Nat) (al:List Nat) : frz env (i :: al) = frz (frz1 env i) al := (rfl)
theorem e_frz1 (env:En) (i:Nat) : frz1 env i = frzAt env i env[i]? := by unfold frz1 frzAt; rfl
theorem e_frzT {env:En} {i:Nat} {d:D} : frzAt env i (some (some (.tre d))) = env.set i (some (.val d true)) := (rfl)
theorem e_callFre {rs:List R} {d:D} (h:d.flat = false) : callR rs (.fre d) = .fre d := by
  show mkC d true rs = _
  unfold mkC; rw [if_neg (by rw [h]; simp), if_pos rfl]
theorem e_setX (i:Nat) (fk fv:En -> Res R) (env:En) : fSetX i fk fv env = setAtX i fk fv env env[i]? := (rfl)
theorem e_setXO {i:Nat} {fk fv:En -> Res R} {env:En} {ds:List D} {f:Bool} : setAtX i fk fv env (some (some (.own ds f))) = fSetI i fk fv env := (rfl)
theorem e_setXL {i:Nat} {fk fv:En -> Res R} {env:En} {ds:List D} : setAtX i fk fv env (some (some (.tre (.lst ds)))) = fSetI i fk fv env := (rfl)
theorem e_setXD {i:Nat} {fk fv:En -> Res R} {env:En} {ks:List DK} {ds:List D} : setAtX i fk fv env (some (some (.tre (.dic ks ds)))) = fPutD i fk fv env := (rfl)
theorem e_ixX (i:Nat) (fb:En -> Res R) (env:En) : vIxX i fb env = ixAtX i fb env env[i]? := (rfl)
theorem e_get2 (fa fk fx:En -> Res R) (env:En) : vGet2 fa fk fx env = (fa env).bind (kG1 fk fx env) := (rfl)
theorem e_kG1 {fk fx:En -> Res R} {env:En} {ra:R} {ks:List DK} {ds:List D} (h:ra.d = .dic ks ds) : kG1 fk fx env ra = (fk env).bind (kG2 fx env ra ks ds) := by unfold kG1; rw [h]
theorem e_kG2 (fx:En -> Res R) (env:En) (ra:R) (ks:List DK) (ds:List D) (rk:R) : kG2 fx env ra ks ds rk = (fx env).bind (kG3 ra ks ds rk) := (rfl)
theorem e_ixXO {i:Nat} {fb:En -> Res R} {env:En} {ds:List D} {f:Bool} : ixAtX i fb env (some (some (.own ds f))) = vIxV i fb env := (rfl)
theorem e_ixXT {i:Nat} {fb:En -> Res R} {env:En} {ds:List D} : ixAtX i fb env (some (some (.tre (.tup ds)))) = vIxV i fb env := (rfl)
theorem e_ixXL {i:Nat} {fb:En -> Res R} {env:En} {ds:List D} : ixAtX i fb env (some (some (.tre (.lst ds)))) = vIxV i fb env := (rfl)
theorem e_ixXVT {i:Nat} {fb:En -> Res R} {env:En} {ds:List D} {f:Bool} : ixAtX i fb env (some (some (.val (.tup ds) f))) = vIxV i fb env := (rfl)
theorem e_ixXVL {i:Nat} {fb:En -> Res R} {env:En} {ds:List D} {f:Bool} : ixAtX i fb env (some (some (.val (.lst ds) f))) = vIxV i fb env := (rfl)
def anyD:D -> Res R
  | .lst ds => match bools ds with
    | some bs => .ok (.val (.bl (bs.any id)) true [])
    | none => .stuck
  | _ => .stuck
theorem e_any (r:R) : kAny [r] = anyD r.d := by
  rcases r with ⟨d, f, al⟩ | ⟨ds, f⟩ | ⟨d⟩ <;> first | rfl | (cases d <;> rfl)
theorem bools_map {α:Type} (p:α -> Bool) : ∀ xs:List α, bools (xs.map fun a => D.bl (p a)) = some (xs.map p)
  | [] => rfl
  | a :: r => by rw [List.map_cons]; unfold bools; rw [bools_map p r]; rfl
theorem anyD_map {α:Type} (p:α -> Bool) (xs:List α) : anyD (.lst (xs.map fun a => D.bl (p a))) = .ok (.val (.bl (xs.any p)) true []) := by
  show (match bools (xs.map fun a => D.bl (p a)) with | some bs => Res.ok (R.val (D.bl (bs.any id)) true []) | none => Res.stuck) = _
  rw [bools_map]; dsimp only; rw [List.any_map]; rfl
theorem allD_map {α:Type} (p:α -> Bool) (xs:List α) : allD (.lst (xs.map fun a => D.bl (p a))) = .ok (.val (.bl (xs.all p)) true []) := by
  show (match bools (xs.map fun a => D.bl (p a)) with | some bs => Res.ok (R.val (D.bl (bs.all id)) true []) | none => Res.stuck) = _
  rw [bools_map]; dsimp only; rw [List.all_map]; rfl
theorem e_shr {x y:Int} {f g:Bool} {al bl:List Nat} (h:0 <= y) : oShr (.val (.int x) f al) (.val (.int y) g bl) = .ok (.val (.int (x / 2 ^ y.toNat)) true []) := by
  show (if decide (0 <= y) = true then _ else _) = _
  rw [if_pos (decide_eq_true h)]
theorem e_band {x y:Int} {f g:Bool} {al bl:List Nat} : oBand (.val (.int x) f al) (.val (.int y) g bl) = .ok (.val (.int (Builtin.bitAnd x y)) true []) := (rfl)
theorem e_SS (f:En -> Res R) (env:En) : vSS f env = (f env).bind kSS := (rfl)
theorem intsD_map:∀ k:List Int, intsD (k.map .int) = some k
  | [] => rfl
  | a :: r => by rw [List.map_cons]; unfold intsD; rw [intsD_map r]; rfl
theorem tupsI_map:∀ ks:List (List Int), tupsI (ks.map tupD) = some ks
  | [] => rfl
  | k :: r => by rw [List.map_cons]; unfold tupsI; rw [tupsI_map r, show tupI (tupD k) = some k from intsD_map k]
theorem e_kSSd {r:R} {ks:List (List Int)} (hr:r.d = .lst (ks.map tupD)) (h:ks.length <= 63) (hn:ks.all (fun k => !k.isEmpty) = true) : kSS r = .ok (.new ((sortK ks).map tupD) true) := by
  unfold kSS; rw [hr]; dsimp only; rw [tupsI_map]; dsimp only
  rw [if_pos (by rw [List.length_map, decide_eq_true h, hn]; rfl)]
theorem e_sRev (fs:En -> Res (List R)) (env:En) : sRev fs env = (fs env).bind kRev := (rfl)
theorem e_kRevV {ds:List D} {f:Bool} {al:List Nat} : kRev [.val (.lst ds) f al] = .ok ⟨ds.reverse, f, al⟩ := (rfl)
theorem e_disp {k:Int} {b f g:Bool} {al bl:List Nat} : kDisp (.val (.int k) f al) (.val (.bl b) g bl) = .ok (.fre (.dic [ik k] [.bl b])) := (rfl)
def updAt (i:Nat) (f:En -> Res R) (env:En) : Option (Option Sl) -> Res Fl
  | some (some (.tre (.dic ks ds))) => (f env).bind (kUpd i env ks ds)
  | _ => .stuck
theorem e_upd (i:Nat) (f:En -> Res R) (env:En) : fUpd i f env = updAt i f env env[i]? := by unfold fUpd updAt; rfl
theorem e_updT {i:Nat} {f:En -> Res R} {env:En} {ks:List DK} {ds:List D} : updAt i f env (some (some (.tre (.dic ks ds)))) = (f env).bind (kUpd i env ks ds) := (rfl)
def grpAt (i r1 r2 r3:Nat) (f:En -> Res R) (env:En) : Option (Option Sl) -> Res Fl
  | some (some (.tre (.dic [] []))) => (f env).bind (kGrp i r1 r2 r3 env)
  | _ => .stuck
theorem e_grp (i r1 r2 r3:Nat) (f:En -> Res R) (env:En) : fGrp i r1 r2 r3 f env = grpAt i r1 r2 r3 f env env[i]? := by unfold fGrp grpAt; rfl
theorem e_grpT {i r1 r2 r3:Nat} {f:En -> Res R} {env:En} : grpAt i r1 r2 r3 f env (some (some (.tre (.dic [] [])))) = (f env).bind (kGrp i r1 r2 r3 env) := (rfl)
theorem e_forXD {f:En -> Res R} {asg:D -> Bool -> En -> Option En} {fb:En -> Res Fl} {env:En} {ks:List DK} {ds:List D} {fr:Bool} {al:List Nat} (h:f env = .ok (.val (.dic ks ds) fr al)) : fForX f asg fb env = kForZ asg fb env (.val (.dic ks ds) fr al) := by
  unfold fForX; rw [h]; show fForZ f asg fb env = _; unfold fForZ; rw [h]; rfl
theorem keyL_ik:∀ ks:List Int, keyL (ks.map ik) = some (ks.map .int)
  | [] => rfl
  | k :: r => by rw [List.map_cons]; show (keyL (r.map ik)).map _ = _; rw [keyL_ik r]; rfl
def bD (ks:List Int) : D := .dic (ks.map ik) (ks.map fun _ => .bl true)
def bE (ks:List Int) : List (Key × D) := ks.map fun k => (.inl k, .bl true)
theorem dicE_bE (ks:List Int) : dicE (bE ks) = bD ks := by
  unfold dicE bE bD; rw [List.map_map, List.map_map]; rfl
theorem putE_bE (ks:List Int) (x:Int) : putE (bE ks) (.inl x) (.bl true) = bE (dd ks x) := by
  unfold putE dd
  have ha:((bE ks).any fun p => decide (p.1 = (.inl x:Key))) = decide (x ∈ ks) := by
    unfold bE; rw [List.any_map, Bool.eq_iff_iff, List.any_eq_true, decide_eq_true_iff]
    constructor
    · rintro ⟨k, hk, e⟩
      have:k = x := by have := of_decide_eq_true e; exact Sum.inl.inj this
      exact this ▸ hk
    · intro h; exact ⟨x, h, by simp⟩
  rw [ha]
  by_cases h:x ∈ ks
  · rw [if_pos (decide_eq_true h), if_pos h]
    unfold bE
    rw [List.map_map]
    refine List.map_congr_left fun k _ => ?_
    show (if (Sum.inl k:Key) = .inl x then _ else _) = _
    split <;> rfl
  · rw [if_neg (by rw [decide_eq_false h]; simp), if_neg h]
    unfold bE; rw [List.map_append]; rfl
theorem putsE_bE:∀ (xs ks:List Int), putsE (bE ks) (bE xs) = bE (xs.foldl dd ks)
  | [], ks => rfl
  | x :: r, ks => by
    show putsE (putE (bE ks) (.inl x) (.bl true)) (bE r) = _
    rw [putE_bE, putsE_bE r]; rfl
theorem toE_b:∀ ks:List Int, toE (ks.map ik) (ks.map fun _ => D.bl true) = some (bE ks)
  | [] => rfl
  | k :: r => by rw [List.map_cons, List.map_cons]; show (toE (r.map ik) _).map _ = _; rw [toE_b r]; rfl
theorem pairsK_b:∀ xs:List Int, pairsK (xs.map fun x => D.tup [.int x, .bl true]) = some (bE xs)
  | [] => rfl
  | k :: r => by rw [List.map_cons]; unfold pairsK; rw [pairsK_b r]; rfl
theorem flats_bE (ks:List Int) : D.flats ((bE ks).map Prod.snd) = true := by
  unfold bE; rw [List.map_map]
  induction ks with
  | nil => rfl
  | cons a r ih => rw [List.map_cons]; exact ih
theorem e_dict2b {r:R} {xs:List Int} (h:r.d = .lst (xs.map fun x => D.tup [.int x, .bl true])) : kDict2 [r] = .ok (.fre (bD (ddup xs))) := by
  unfold kDict2; dsimp only; rw [h]; dsimp only; rw [pairsK_b]; dsimp only
  have:putsE [] (bE xs) = bE (ddup xs) := putsE_bE xs []
  rw [this, if_pos (flats_bE _), dicE_bE]
theorem all_kin (x:Int) (ks:List Int) : (ks.map ik).all (kin (.inl (.inl x))) = true := by
  rw [List.all_map, List.all_eq_true]; intro k _; rfl
theorem hasK_ik (ks:List Int) (x:Int) : hasK (ks.map ik) (.inl (.inl x)) = decide (x ∈ ks) := by
  unfold hasK; rw [List.any_map, Bool.eq_iff_iff, List.any_eq_true, decide_eq_true_iff]
  constructor
  · rintro ⟨k, hk, e⟩
    have:k = x := by have := of_decide_eq_true e; exact Sum.inl.inj (Sum.inl.inj this)
    exact this ▸ hk
  · intro h; exact ⟨x, h, by simp [ik]⟩
theorem e_inB (x:Int) (ks:List Int) (neg:Bool) : inDD neg (.int x) (bD ks) = .ok (.val (.bl (if neg then !decide (x ∈ ks) else decide (x ∈ ks))) true []) := by
  unfold bD; rw [e_inK (k := .inl (.inl x)) rfl (all_kin x ks), hasK_ik]
theorem getD_ik (g:Int -> D) (x:Int) : ∀ ks:List Int, getD (ks.map ik) (ks.map g) (.inl (.inl x)) = if x ∈ ks then some (g x) else none
  | [] => rfl
  | k :: r => by
    rw [List.map_cons, List.map_cons]; unfold getD; rw [getD_ik g x r]
    by_cases h:k = x
    · rw [if_pos (by rw [h]; rfl), if_pos (by simp [h]), h]
    · rw [if_neg (show ¬ ik k = Sum.inl (Sum.inl x) from fun e => h (Sum.inl.inj (Sum.inl.inj e)))]
      by_cases h2:x ∈ r
      · rw [if_pos h2, if_pos (by simp [h2])]
      · rw [if_neg h2, if_neg (by simp [h2]; exact fun e => h e.symm)]
theorem dicPut_b (ks:List Int) (x:Int) : dicPut (ks.map ik) (ks.map fun _ => D.bl true) (.inl (.inl x)) (.bl true) = bD (dd ks x) := by
  unfold dicPut; rw [hasK_ik]
  have hr:∀ ks:List Int, replD (ks.map ik) (ks.map fun _ => D.bl true) (.inl (.inl x)) (.bl true) = ks.map fun _ => D.bl true := by
    intro ks
    induction ks with
    | nil => rfl
    | cons a r ih => rw [List.map_cons, List.map_cons]; unfold replD; rw [ih]; split <;> rfl
  unfold dd
  by_cases h:x ∈ ks
  · rw [if_pos (decide_eq_true h), if_pos h, hr]; rfl
  · rw [if_neg (by rw [decide_eq_false h]; simp), if_neg h]; unfold bD; rw [List.map_append, List.map_append]; rfl
theorem trisD_map:∀ ts:List Tri, trisD (ts.map fun t => D.tup [.int t.1, .int t.2.1, .int t.2.2]) = some ts
  | [] => rfl
  | t :: r => by rw [List.map_cons]; unfold trisD; rw [trisD_map r]; rfl
theorem ddl_len:∀ (xs l:List Int), (xs.foldl dd l).length <= l.length + xs.length
  | [], l => by simp
  | x :: r, l => by have h1 := ddl_len r (dd l x); have h2 := dd_len l x; simp only [List.foldl_cons, List.length_cons]; omega
theorem isT_bb {b : Bool} : isT "bool" (.bl b) = true := (rfl)
end L3
local macro_rules | `(tactic| simp_arith [$as,*] $[$l:location]?) => `(tactic| simp only [L3.runF, L3.startE, decide_true, decide_false, List.map_cons, List.map_nil, List.length_cons, List.length_nil, List.replicate, List.cons_append, List.nil_append, List.append_nil, Nat.reduceAdd, Nat.max_self, Nat.zero_max, Nat.max_zero, Nat.zero_add, Nat.reduceSub, L3.e_seq, L3.e_set, L3.e_v2, L3.e_k2b, L3.e_var, L3.e_atV, L3.e_atO, L3.e_atT, L3.e_mkVt, L3.e_mkVf, L3.flat_int, L3.flat_bl, L3.flat_str, L3.flat_non, L3.flat_tup, L3.flat_lst, L3.flats_nil, L3.flats_cons, L3.dep_int, L3.dep_bl, L3.dep_str, L3.dep_non, L3.dep_tup, L3.dep_lst, L3.deps_nil, L3.deps_cons, L3.e_c, L3.b_ok, List.getElem?_cons_zero, List.getElem?_cons_succ, L3.e_mod, L3.e_div, L3.e_add, L3.e_sub, L3.e_mulR, Int.reduceLT, Int.reduceLE, Int.reduceNeg, L3.e_kset, L3.e_putV, L3.e_putN, L3.e_putF, L3.e_nx, L3.e_rt, List.set_cons_zero, List.set_cons_succ, Nat.reduceLT, Nat.reduceLeDiff, L3.e_if, L3.e_ifT, L3.e_ifF, L3.e_nil, L3.e_ret, L3.e_kret, L3.e_lt, L3.e_gt, L3.e_ge, L3.e_eqI, L3.e_catVV, L3.e_catVN, L3.e_catNV, L3.e_catNN, L3.e_aNil, L3.e_aCons, L3.e_kCons, L3.e_kCons2, L3.e_tup, L3.e_kTup, L3.e_lst, L3.e_kLst, L3.rfrs_nil, L3.rfrs_cons, L3.rals_nil, L3.rals_cons, L3.e_call, L3.e_kCall, L3.e_kCall2, L3.e_callRt, L3.e_callRf, L3.e_callRv, L3.e_callRn, L3.e_callRnf, L3.e_B1, L3.e_len, L3.e_lenL, L3.e_lenT, L3.e_list, L3.e_listL, L3.e_listT, L3.e_vB, L3.e_kB, L3.e_vTru, L3.e_kTru, L3.e_bNot, L3.e_kNotB, L3.e_bAnd, L3.e_bOr, L3.e_andT, L3.e_andF, L3.e_orT, L3.e_orF, L3.e_ix, L3.e_ixL, L3.e_ixT, L3.e_ixD, L3.e_ixV, L3.e_ixAO, L3.e_ixAV, L3.e_ixAT, L3.e_kIxO, L3.at0, L3.at1, L3.at2, L3.at3, L3.e_slice, L3.e_kSl1, L3.e_kSl2, L3.e_oSome, L3.e_kO, L3.e_cut, L3.e_cutL, L3.e_cutT, L3.e_isi, L3.e_kIsi, L3.isT_ii, L3.isT_bi, L3.isT_ll, L3.isT_tt, L3.e_for, L3.e_kFor, L3.e_sSeq, L3.e_kSeqVL, L3.e_kSeqVT, L3.e_kSeqN, L3.e_kSeqFL, L3.e_kSeqFT, L3.e_sR1, L3.e_frz0, L3.non_non, L3.non_int, L3.non_tup, L3.non_lst, L3.b_exc, L3.ret_exc, L3.quiet_ok, L3.Res.noX_ok, L3.c_0, L3.c_1, L3.c_2, L3.c_3, L3.c_4, Int.reduceBEq, L3.e_all, L3.e_setI, L3.e_setIO, L3.e_setIT, L3.e_kSetI1, Bool.not_not, Nat.reduceEqDiff, L3.e_comp, L3.e_app, L3.e_appO, L3.e_appT, L3.r_d_val, L3.r_d_new, L3.r_d_fre, L3.r_fr_val, L3.r_fr_new, L3.r_fr_fre, L3.r_al_val, L3.r_al_new, L3.r_al_fre, L3.e_forNx, L3.e_forRt, Bool.and_true, Bool.true_and, Bool.and_false, Bool.false_and, Bool.and_self, Bool.not_true, Bool.not_false, L3.ret_rt, L3.ret_nx, L3.e_mkLt, L3.e_mkLt0, L3.e_in, L3.flat_dic, L3.e_addT, L3.e_setX, L3.e_setXO, L3.e_setXL, L3.e_setXD, L3.e_putD, L3.e_putAt, L3.e_ixX, L3.e_ixXO, L3.e_ixXT, L3.e_ixXL, L3.e_ixXVT, L3.e_ixXVL, L3.e_any, L3.e_shr, L3.e_band, L3.e_SS, L3.e_sRev, L3.e_kRevV, L3.e_disp, L3.e_upd, L3.e_updT, L3.e_grp, L3.e_grpT, L3.isT_bb, L3.e_get2, L3.e_kG2, L3.flat_dic, L3.e_callFre, $as,*] $[$l]?)
local macro_rules | `(tactic| simp_arith $[$l:location]?) => `(tactic| simp_arith [L3.b_ok] $[$l]?)
namespace L3
open PySem L2
theorem mkV_d (d:D) (f:Bool) (al:List Nat) : (mkV d f al).d = d := by unfold mkV; split <;> rfl
theorem cutA_map {α β:Type} (g:α -> β) (xs:List α) (lo hi:Option Int) : cutA (xs.map g) lo hi = (cutA xs lo hi).map g := by
  unfold cutA; rw [List.length_map, List.map_take, List.map_drop]
theorem flats_of {ds:List D} : (∀ d ∈ ds, d.flat = true) -> D.flats ds = true := by
  induction ds with
  | nil => intro _; rfl
  | cons d r ih => intro h; rw [flats_cons, h d (by simp), ih fun x hx => h x (by simp [hx])]; rfl
theorem flats_map {α:Type} (g:α -> D) (xs:List α) (h:∀ a, (g a).flat = true) : D.flats (xs.map g) = true :=
  flats_of fun d hd => by obtain ⟨a, _, rfl⟩ := List.mem_map.mp hd; exact h a
theorem flats_ints (xs:List Int) : D.flats (xs.map D.int) = true := flats_map _ _ flat_int
theorem deps_le {ds:List D} {n:Nat} : (∀ d ∈ ds, d.dep <= n) -> D.deps ds <= n := by
  induction ds with
  | nil => intro _; rw [deps_nil]; omega
  | cons d r ih =>
    intro h
    have h1 := h d (by simp)
    have h2 := ih fun x hx => h x (by simp [hx])
    rw [deps_cons]; omega
theorem deps_map {α:Type} {g:α -> D} {xs:List α} {n:Nat} (h:∀ a, (g a).dep <= n) : D.deps (xs.map g) <= n :=
  deps_le fun d hd => by obtain ⟨a, _, rfl⟩ := List.mem_map.mp hd; exact h a
theorem deps_ints (xs:List Int) : D.deps (xs.map D.int) <= 0 := deps_map fun _ => Nat.le_refl 0
theorem rfrs_val {α:Type} (g:α -> D) (xs:List α) : rfrs (xs.map fun a => .val (g a) true []) = true := by
  unfold rfrs; rw [List.all_eq_true]; intro r h; obtain ⟨a, _, rfl⟩ := List.mem_map.mp h; rfl
theorem map_d {α:Type} (g:α -> D) (fr:Bool) (al:List Nat) (xs:List α) : (xs.map fun a => R.val (g a) fr al).map R.d = xs.map g := by rw [List.map_map]; rfl
theorem numsD_0 (n:Nat) : numsD 0 n = (List.range n).map fun k => .int (k:Nat) := by
  unfold numsD; congr 1; funext k; simp
theorem forD_inv {α:Type} (g:α -> D) {asg:D -> Bool -> En -> Option En} {fr:Bool} {body:En -> Res Fl} (P:List α -> En -> Prop) : ∀ (xs pre:List α) (env:En), P pre env ->
    (∀ (pre post:List α) (a:α) (env:En), (∀ b ∈ pre, b ∈ pre) -> P pre env -> a ∈ xs -> ∃ env1 env2, asg (g a) fr env = some env1 /\ body env1 = .ok (.nx env2) /\ P (pre ++ [a]) env2) ->
    ∃ env', forD asg fr body (xs.map g) env = .ok (.nx env') /\ P (pre ++ xs) env'
  | [], pre, env, h, _ => ⟨env, rfl, by rw [List.append_nil]; exact h⟩
  | a :: r, pre, env, h, st => by
    obtain ⟨env1, env2, h1, h2, h3⟩ := st pre [] a env (fun _ z => z) h (by simp)
    obtain ⟨env', e1, e2⟩ := forD_inv g P r (pre ++ [a]) env2 h3 fun p q b e z hp hb => st p q b e z hp (by simp [hb])
    refine ⟨env', ?_, by rw [List.append_assoc] at e2; exact e2⟩
    rw [List.map_cons]
    unfold forD
    rw [h1]; dsimp only
    rw [h2]; exact e1
def cell (ns:List Int) (k:Int) : Int := if k < ns.length then ((atI ns k).getD 0 % 2147483647 + 11 + k * k) * 48271 % 2147483647 else 0
theorem cell_ge (ns:List Int) (k:Int) : 0 <= cell ns k := by unfold cell; split <;> omega
theorem atI_map {α β:Type} (g:α -> β) (xs:List α) (k:Int) : atI (xs.map g) k = (atI xs k).map g := by
  unfold atI; rw [List.length_map]
  cases ixN xs.length k with
  | none => rfl
  | some j => simp
theorem atI_in {α:Type} {xs:List α} {k:Int} (h0:0 <= k) (h:k < xs.length) : ∃ a, atI xs k = some a /\ xs[k.toNat]? = some a := by
  unfold atI ixN; rw [if_pos h0, if_pos h]
  have:k.toNat < xs.length := by omega
  exact ⟨xs[k.toNat], by simp [this], by simp [this]⟩
structure Rl where
  room:Int
  sign:Int
  to:Int
  put:List Int
def Rl.d (r:Rl) : D := .tup [.int r.room, .int r.sign, .int r.to, .tup (r.put.map .int)]
theorem Rl.flat (r:Rl) : r.d.flat = true := by unfold Rl.d; simp only [flat_tup, flats_cons, flat_int, flats_ints, flats_nil, Bool.and_self]
theorem Rl.dep (r:Rl) : r.d.dep <= 2 := by
  have := deps_ints r.put
  unfold Rl.d; simp only [dep_tup, deps_cons, dep_int, deps_nil]; omega
end L3
namespace W
open PySem PySem.Spec PyProof.Rows L2 L3
def top (i:Nat) : Stmt := PySem.Challenge.pw_callwalk_k11_takes.main.body.getD i (.Pass ⟨0, 0, 0, 0⟩)
abbrev s__law_cell_at:Stmt := top 8
abbrev N__law_cell_at : List Str := ["_law_script", "_law_k"]
abbrev P__law_cell_at : List Str := ["_law_script", "_law_k"]
theorem sc__law_cell_at:FnScope N__law_cell_at P__law_cell_at (defScope s__law_cell_at) := ⟨rfl, rfl, rfl, by decide +kernel, rfl, by decide +kernel, by decide +kernel⟩
def B__law_cell_at:En -> Res Fl :=
    (fSeq (fIf (vB (v2 oLt (vVar 1) (vB1 kLen (aCons (vVar 0) aNil)))) (fRet (v2 oMod (v2 oMul (v2 oAdd (v2 oAdd (v2 oMod (vIxX 0 (vVar 1)) (vC (.int 2147483647))) (vC (.int 11))) (v2 oMul (vVar 1) (vVar 1))) (vC (.int 48271))) (vC (.int 2147483647)))) fNil)
    (fRet (vC (.int 0))))
def F__law_cell_at:List D -> Res R := runF N__law_cell_at B__law_cell_at
abbrev s__law_arrow:Stmt := top 9
abbrev N__law_arrow : List Str := ["_law_cell", "_law_states", "_law_signs", "_law_low", "_law_state", "_law_sign"]
abbrev P__law_arrow : List Str := ["_law_cell", "_law_states", "_law_signs", "_law_low"]
theorem sc__law_arrow:FnScope N__law_arrow P__law_arrow (defScope s__law_arrow) := ⟨rfl, rfl, rfl, by decide +kernel, rfl, by decide +kernel, by decide +kernel⟩
def B__law_arrow:En -> Res Fl :=
    (fSeq (fSet 0 (v2 oMod (v2 oMul (v2 oAdd (v2 oMod (vVar 0) (vC (.int 2147483587))) (vC (.int 7))) (vC (.int 16807))) (vC (.int 2147483587))))
    (fSeq (fSet 4 (v2 oMod (vVar 0) (vVar 1)))
    (fSeq (fSet 0 (v2 oDiv (vVar 0) (vVar 1)))
    (fSeq (fSet 5 (v2 oMod (vVar 0) (vVar 2)))
    (fSeq (fSet 0 (v2 oDiv (vVar 0) (vVar 2)))
    (fRet (vTup (aCons (vVar 4) (aCons (vVar 5) (aCons (v2 oAdd (vVar 3) (v2 oMod (vVar 0) (v2 oSub (vVar 1) (vVar 3)))) aNil))))))))))
def F__law_arrow:List D -> Res R := runF N__law_arrow B__law_arrow
abbrev s__law_machine:Stmt := top 10
abbrev N__law_machine : List Str := ["_law_script", "_law_rooms", "_law_signs", "_law_size", "_law_own", "_law_low", "_law_arrows", "_law_bits", "_law_ends"]
abbrev P__law_machine : List Str := ["_law_script", "_law_rooms", "_law_signs"]
theorem sc__law_machine:FnScope N__law_machine P__law_machine (defScope s__law_machine) := ⟨rfl, rfl, rfl, by decide +kernel, rfl, by decide +kernel, by decide +kernel⟩
theorem ndc__law_machine_1 : ((["_law_cell"] : List Str) ++ (["_law_rooms", "_law_signs", "_law_own", "_law_low"] : List Str)).Nodup := by decide +kernel
theorem ndc__law_machine_2 : ((["_law_state"] : List Str) ++ (["_law_bits"] : List Str)).Nodup := by decide +kernel
def E__law_machine_1:En -> Res R := fun env =>
    (vCall F__law_arrow (aCons (vVar 0) (aCons (v2 oAdd (vVar 1) (vVar 3)) (aCons (vVar 2) (aCons (vVar 4) aNil))))) env
def T__law_machine_2:En -> Res Bool := fun env =>
    (vB (v2 oEq (v2 oBand (v2 oShr (vVar 1) (v2 oMod (vVar 0) (vC (.int 17)))) (vC (.int 1))) (vC (.int 1)))) env
def E__law_machine_2:En -> Res R := fun env =>
    (vVar 0) env
def B__law_machine:En -> Res Fl :=
    (fSeq (fSet 3 (vCall F__law_cell_at (aCons (vVar 0) (aCons (vC (.int 1)) aNil))))
    (fSeq (fSet 4 (v2 oMod (vVar 3) (vC (.int 5))))
    (fSeq (fIf (vB (v2 oEq (v2 oMod (v2 oDiv (vVar 3) (vC (.int 5))) (vC (.int 8))) (vC (.int 3)))) (fSet 4 (v2 oMod (v2 oDiv (vVar 3) (vC (.int 40))) (vC (.int 41)))) fNil)
    (fSeq (fSet 5 (vC (.int 0)))
    (fSeq (fIf (bAnd (vB (v2 oEq (v2 oMod (v2 oDiv (vVar 3) (vC (.int 5))) (vC (.int 2))) (vC (.int 0)))) (vB (v2 oGt (vVar 4) (vC (.int 0))))) (fSet 5 (vVar 1)) fNil)
    (fSeq (fSet 6 (vComp 1 [1, 2, 4, 5] (sSeq (vSlice (vVar 0) (oSome (vC (.int 5))) (oSome (vC (.int 65))))) (gN 0) (fun _ => .ok true) E__law_machine_1))
    (fSeq (fSet 7 (vCall F__law_cell_at (aCons (vVar 0) (aCons (vC (.int 2)) aNil))))
    (fSeq (fSet 8 (vComp 1 [7] (sR1 (aCons (v2 oAdd (vVar 1) (vVar 4)) aNil)) (gN 0) T__law_machine_2 E__law_machine_2))
    (fRet (vTup (aCons (v2 oAdd (vVar 1) (vVar 4)) (aCons (vSS (vVar 6)) (aCons (vVar 8) aNil)))))))))))))
def F__law_machine:List D -> Res R := runF N__law_machine B__law_machine
abbrev s_is_plain:Stmt := top 3
abbrev N_is_plain : List Str := ["house", "machine"]
abbrev P_is_plain : List Str := ["house", "machine"]
theorem sc_is_plain:FnScope N_is_plain P_is_plain (defScope s_is_plain) := ⟨rfl, rfl, rfl, by decide +kernel, rfl, by decide +kernel, by decide +kernel⟩
theorem ndc_is_plain_1 : ((["arrow"] : List Str) ++ (["house"] : List Str)).Nodup := by decide +kernel
def E_is_plain_1:En -> Res R := fun env =>
    (v2 oGe (vIxX 0 (vC (.int 2))) (vIxX 1 (vC (.int 0)))) env
def B_is_plain:En -> Res Fl :=
    (fRet (vB1 kAll (aCons (vComp 1 [0] (sSeq (vIxX 1 (vC (.int 1)))) (gN 0) (fun _ => .ok true) E_is_plain_1) aNil)))
def F_is_plain:List D -> Res R := runF N_is_plain B_is_plain
abbrev s__law_any:Stmt := top 12
abbrev N__law_any : List Str := ["_law_many", "_law_number", "_law_signs", "_law_stack", "_law_k"]
abbrev P__law_any : List Str := ["_law_many", "_law_number", "_law_signs"]
theorem sc__law_any:FnScope N__law_any P__law_any (defScope s__law_any) := ⟨rfl, rfl, rfl, by decide +kernel, rfl, by decide +kernel, by decide +kernel⟩
def L__law_any_1:En -> Res Fl := fun env =>
    (fSeq (fSet 1 (v2 oMod (v2 oAdd (v2 oAdd (v2 oMul (vVar 1) (vC (.int 69621))) (v2 oMul (vVar 4) (vVar 4))) (vC (.int 5))) (vC (.int 2147483629))))
    (fApp 3 (v2 oMod (v2 oDiv (vVar 1) (vC (.int 11))) (vVar 2)))) env
def B__law_any:En -> Res Fl :=
    (fSeq (fSet 3 (vLst aNil))
    (fSeq (fFor (sR1 (aCons (vVar 0) aNil)) (gN 4) L__law_any_1)
    (fRet (vVar 3))))
def F__law_any:List D -> Res R := runF N__law_any B__law_any
abbrev s__law_along:Stmt := top 11
abbrev N__law_along : List Str := ["_law_machine_here", "_law_room", "_law_many", "_law_number", "_law_state", "_law_stack", "_law_k", "_law_ways", "_law_arrow_here"]
abbrev P__law_along : List Str := ["_law_machine_here", "_law_room", "_law_many", "_law_number"]
theorem sc__law_along:FnScope N__law_along P__law_along (defScope s__law_along) := ⟨rfl, rfl, rfl, by decide +kernel, rfl, by decide +kernel, by decide +kernel⟩
theorem ndc__law_along_1 : ((["_law_arrow_here"] : List Str) ++ (["_law_state"] : List Str)).Nodup := by decide +kernel
def T__law_along_1:En -> Res Bool := fun env =>
    (vB (v2 oEq (vIxX 0 (vC (.int 0))) (vVar 1))) env
def E__law_along_1:En -> Res R := fun env =>
    (vVar 0) env
def L__law_along_1:En -> Res Fl := fun env =>
    (fSeq (fSet 3 (v2 oMod (v2 oAdd (v2 oAdd (v2 oMul (vVar 3) (vC (.int 48271))) (v2 oMul (vVar 6) (vVar 6))) (vC (.int 11))) (vC (.int 2147483647))))
    (fSeq (fSet 7 (vComp 1 [4] (sSeq (vIxX 0 (vC (.int 1)))) (gN 0) T__law_along_1 E__law_along_1))
    (fIf (vB (v2 oGt (vB1 kLen (aCons (vVar 7) aNil)) (vC (.int 0)))) (fSeq (fSet 8 (vIxX 7 (v2 oMod (v2 oDiv (vVar 3) (vC (.int 7))) (vB1 kLen (aCons (vVar 7) aNil)))))
    (fSeq (fApp 5 (vIxX 8 (vC (.int 1))))
    (fSet 4 (vIxX 8 (vC (.int 2)))))) fNil))) env
def B__law_along:En -> Res Fl :=
    (fSeq (fSet 4 (vVar 1))
    (fSeq (fSet 5 (vLst aNil))
    (fSeq (fFor (sR1 (aCons (vVar 2) aNil)) (gN 6) L__law_along_1)
    (fRet (vVar 5)))))
def F__law_along:List D -> Res R := runF N__law_along B__law_along
abbrev s_arrows_from:Stmt := top 4
abbrev N_arrows_from : List Str := ["machine", "leading", "start", "sign", "to"]
abbrev P_arrows_from : List Str := ["machine"]
theorem sc_arrows_from:FnScope N_arrows_from P_arrows_from (defScope s_arrows_from) := ⟨rfl, rfl, rfl, by decide +kernel, rfl, by decide +kernel, by decide +kernel⟩
def B_arrows_from:En -> Res Fl :=
    (fSeq (fSet 1 (fun _ => .ok (.fre (.dic [] []))))
    (fSeq (fGrp 1 2 3 4 (vIxX 0 (vC (.int 1))))
    (fRet (vVar 1))))
def F_arrows_from:List D -> Res R := runF N_arrows_from B_arrows_from
abbrev s_marked:Stmt := top 1
abbrev N_marked : List Str := ["things"]
abbrev P_marked : List Str := ["things"]
theorem sc_marked:FnScope N_marked P_marked (defScope s_marked) := ⟨rfl, rfl, rfl, by decide +kernel, rfl, by decide +kernel, by decide +kernel⟩
theorem ndc_marked_1 : ((["thing"] : List Str) ++ ([] : List Str)).Nodup := by decide +kernel
def E_marked_1:En -> Res R := fun env =>
    (vTup (aCons (vVar 0) (aCons (vC (.bl true)) aNil))) env
def B_marked:En -> Res Fl :=
    (fRet (vB1 kDict2 (aCons (vComp 1 [] (sSeq (vVar 0)) (gN 0) (fun _ => .ok true) E_marked_1) aNil)))
def F_marked:List D -> Res R := runF N_marked B_marked
abbrev s_along:Stmt := top 5
abbrev N_along : List Str := ["leading", "states", "sign", "there", "state"]
abbrev P_along : List Str := ["leading", "states", "sign"]
theorem sc_along:FnScope N_along P_along (defScope s_along) := ⟨rfl, rfl, rfl, by decide +kernel, rfl, by decide +kernel, by decide +kernel⟩
def L_along_1:En -> Res Fl := fun env =>
    (fUpd 3 (vCall F_marked (aCons (vGet2 (vGet2 (vVar 0) (vVar 4) (fun _ => .ok (.fre (.dic [] [])))) (vVar 2) (vLst aNil)) aNil))) env
def B_along:En -> Res Fl :=
    (fSeq (fSet 3 (fun _ => .ok (.fre (.dic [] []))))
    (fSeq (fForX (vVar 1) (gN 4) L_along_1)
    (fRet (vVar 3))))
def F_along:List D -> Res R := runF N_along B_along
abbrev s_takes:Stmt := top 6
abbrev N_takes : List Str := ["machine", "standing", "leading", "here", "sign"]
abbrev P_takes : List Str := ["machine", "standing"]
theorem sc_takes:FnScope N_takes P_takes (defScope s_takes) := ⟨rfl, rfl, rfl, by decide +kernel, rfl, by decide +kernel, by decide +kernel⟩
theorem ndc_takes_1 : ((["end"] : List Str) ++ (["here"] : List Str)).Nodup := by decide +kernel
def L_takes_1:En -> Res Fl := fun env =>
    (fSet 3 (vCall F_along (aCons (vVar 2) (aCons (vVar 3) (aCons (vVar 4) aNil))))) env
def E_takes_1:En -> Res R := fun env =>
    (v2 oInX (vVar 0) (vVar 1)) env
def B_takes:En -> Res Fl :=
    (fSeq (fSet 2 (vCall F_arrows_from (aCons (vVar 0) aNil)))
    (fSeq (fSet 3 (v2 kDisp (vIxX 1 (vC (.int 0))) (vC (.bl true))))
    (fSeq (fFor (sSeq (vIxX 1 (vC (.int 1)))) (gN 4) L_takes_1)
    (fRet (vB1 kAny (aCons (vComp 1 [3] (sSeq (vIxX 0 (vC (.int 2)))) (gN 0) (fun _ => .ok true) E_takes_1) aNil))))))
def F_takes:List D -> Res R := runF N_takes B_takes
abbrev s__law_due:Stmt := top 13
abbrev N__law_due : List Str := ["_law_machine_here", "_law_room", "_law_stack", "_law_good", "_law_state", "_law_sign", "_law_more", "_law_arrow_here"]
abbrev P__law_due : List Str := ["_law_machine_here", "_law_room", "_law_stack"]
theorem sc__law_due:FnScope N__law_due P__law_due (defScope s__law_due) := ⟨rfl, rfl, rfl, by decide +kernel, rfl, by decide +kernel, by decide +kernel⟩
def L__law_due_1:En -> Res Fl := fun env =>
    (fSetX 3 (vVar 4) (vC (.bl true))) env
def L__law_due_2:En -> Res Fl := fun env =>
    (fIf (bAnd (vB (v2 oEq (vIxX 7 (vC (.int 1))) (vVar 5))) (vB (v2 oInX (vIxX 7 (vC (.int 2))) (vVar 3)))) (fSetX 6 (vIxX 7 (vC (.int 0))) (vC (.bl true))) fNil) env
def L__law_due_3:En -> Res Fl := fun env =>
    (fSeq (fSet 6 (fun _ => .ok (.fre (.dic [] []))))
    (fSeq (fFor (sSeq (vIxX 0 (vC (.int 1)))) (gN 7) L__law_due_2)
    (fSet 3 (vVar 6)))) env
def B__law_due:En -> Res Fl :=
    (fSeq (fSet 3 (fun _ => .ok (.fre (.dic [] []))))
    (fSeq (fFor (sSeq (vIxX 0 (vC (.int 2)))) (gN 4) L__law_due_1)
    (fSeq (fFor (sRev (aCons (vVar 2) aNil)) (gN 5) L__law_due_3)
    (fRet (v2 oInX (vVar 1) (vVar 3))))))
def F__law_due:List D -> Res R := runF N__law_due B__law_due
abbrev s_law:Stmt := top 14
abbrev N_law : List Str := ["_law_script", "_law_size", "_law_rooms", "_law_signs", "_law_machine_here", "_law_handed", "_law_plain", "_law_k", "_law_number", "_law_room", "_law_many", "_law_stack", "_law_given", "_law_found"]
abbrev P_law : List Str := ["_law_script"]
theorem sc_law:FnScope N_law P_law (defScope s_law) := ⟨rfl, rfl, rfl, by decide +kernel, rfl, by decide +kernel, by decide +kernel⟩
theorem ndc_law_1 : ((["_law_a"] : List Str) ++ (["_law_rooms"] : List Str)).Nodup := by decide +kernel
def T_law_1:En -> Res Bool := fun env =>
    (vB (v2 oLt (vIxX 0 (vC (.int 2))) (vVar 1))) env
def E_law_1:En -> Res R := fun env =>
    (vVar 0) env
def L_law_1:En -> Res Fl := fun env =>
    (fSeq (fSet 8 (v2 oMod (v2 oAdd (vCall F__law_cell_at (aCons (vVar 0) (aCons (vC (.int 3)) aNil))) (v2 oMul (v2 oMul (vC (.int 31)) (vVar 7)) (vVar 7))) (vC (.int 2147483647))))
    (fSeq (fSet 9 (v2 oMod (v2 oAdd (vCall F__law_cell_at (aCons (vVar 0) (aCons (vC (.int 4)) aNil))) (vVar 7)) (vVar 2)))
    (fSeq (fSet 10 (v2 oMod (vVar 8) (vC (.int 8))))
    (fSeq (fIf (vB (v2 oEq (v2 oMod (v2 oDiv (vVar 8) (vC (.int 8))) (vC (.int 9))) (vC (.int 4)))) (fSet 10 (v2 oAdd (vC (.int 20)) (v2 oMod (vVar 8) (vC (.int 21))))) fNil)
    (fSeq (fSet 11 (vCall F__law_any (aCons (vVar 10) (aCons (vVar 8) (aCons (vVar 3) aNil)))))
    (fSeq (fIf (vB (v2 oEq (v2 oMod (v2 oAdd (v2 oDiv (vCall F__law_cell_at (aCons (vVar 0) (aCons (vC (.int 4)) aNil))) (vC (.int 3))) (vVar 7)) (vC (.int 2))) (vC (.int 1)))) (fSet 11 (vCall F__law_along (aCons (vVar 4) (aCons (vVar 9) (aCons (vVar 10) (aCons (vVar 8) aNil)))))) fNil)
    (fSeq (fSet 12 (vB1 kList (aCons (vVar 11) aNil)))
    (fSeq (fSet 13 (vCall F_takes (aCons (vVar 5) (aCons (vTup (aCons (vVar 9) (aCons (vVar 12) aNil))) aNil))))
    (fIf (bOr (bNot (vTru (vIsi "bool" (vVar 13)))) (bOr (vB (v2 oNe (vVar 13) (vCall F__law_due (aCons (vVar 4) (aCons (vVar 9) (aCons (vVar 11) aNil)))))) (vB (v2 oNe (vVar 12) (vVar 11))))) (fRet (vC (.bl false))) fNil))))))))) env
def B_law_10:En -> Res Fl := fun env =>
    (fRet (v2 oEq (vVar 5) (vVar 4))) env
def B_law_9:En -> Res Fl := fun env =>
    (fSeq (fFor (sR1 (aCons (vC (.int 3)) aNil)) (gN 7) L_law_1)
    B_law_10) env
def B_law_8:En -> Res Fl := fun env =>
    (fSeq (fIf (bOr (bNot (vTru (vIsi "bool" (vVar 6)))) (vB (v2 oNe (vVar 6) (v2 oEq (vB1 kLen (aCons (vComp 1 [2] (sSeq (vIxX 4 (vC (.int 1)))) (gN 0) T_law_1 E_law_1) aNil)) (vC (.int 0)))))) (fRet (vC (.bl false))) fNil)
    B_law_9) env
def B_law_7:En -> Res Fl := fun env =>
    (fSeq (fSet 6 (vCall F_is_plain (aCons (vTup (aCons (vVar 2) (aCons (vVar 3) (aCons (vLst aNil) aNil)))) (aCons (vVar 5) aNil))))
    B_law_8) env
def B_law_6:En -> Res Fl := fun env =>
    (fSeq (fSet 5 (vTup (aCons (vIxX 4 (vC (.int 0))) (aCons (vB1 kList (aCons (vIxX 4 (vC (.int 1))) aNil)) (aCons (vB1 kList (aCons (vIxX 4 (vC (.int 2))) aNil)) aNil)))))
    B_law_7) env
def B_law_5:En -> Res Fl := fun env =>
    (fSeq (fSet 4 (vCall F__law_machine (aCons (vVar 0) (aCons (vVar 2) (aCons (vVar 3) aNil)))))
    B_law_6) env
def B_law_4:En -> Res Fl := fun env =>
    (fSeq (fIf (vB (v2 oEq (v2 oMod (v2 oDiv (vVar 1) (vC (.int 12))) (vC (.int 4))) (vC (.int 1)))) (fSeq (fSet 2 (v2 oAdd (vC (.int 1)) (v2 oMod (v2 oDiv (vVar 1) (vC (.int 48))) (vC (.int 8)))))
    (fSet 3 (v2 oAdd (vC (.int 1)) (v2 oMod (v2 oDiv (vVar 1) (vC (.int 384))) (vC (.int 300)))))) fNil)
    B_law_5) env
def B_law_3:En -> Res Fl := fun env =>
    (fSeq (fSet 3 (v2 oAdd (vC (.int 1)) (v2 oMod (v2 oDiv (vVar 1) (vC (.int 3))) (vC (.int 4)))))
    B_law_4) env
def B_law_2:En -> Res Fl := fun env =>
    (fSeq (fSet 2 (v2 oAdd (vC (.int 1)) (v2 oMod (vVar 1) (vC (.int 3)))))
    B_law_3) env
def B_law:En -> Res Fl :=
    (fSeq (fSet 1 (vCall F__law_cell_at (aCons (vVar 0) (aCons (vC (.int 0)) aNil))))
    B_law_2)
def F_law:List D -> Res R := runF N_law B_law
structure Tx (K:PySem.W.Frag) (mg:Str -> Option Value) where
  f__law_cell_at:Addr
  fd__law_cell_at:FuncData
  h__law_cell_at : Fn K mg "_law_cell_at" s__law_cell_at P__law_cell_at f__law_cell_at fd__law_cell_at
  f__law_arrow:Addr
  fd__law_arrow:FuncData
  h__law_arrow : Fn K mg "_law_arrow" s__law_arrow P__law_arrow f__law_arrow fd__law_arrow
  f__law_machine:Addr
  fd__law_machine:FuncData
  h__law_machine : Fn K mg "_law_machine" s__law_machine P__law_machine f__law_machine fd__law_machine
  f_is_plain:Addr
  fd_is_plain:FuncData
  h_is_plain : Fn K mg "is_plain" s_is_plain P_is_plain f_is_plain fd_is_plain
  f__law_any:Addr
  fd__law_any:FuncData
  h__law_any : Fn K mg "_law_any" s__law_any P__law_any f__law_any fd__law_any
  f__law_along:Addr
  fd__law_along:FuncData
  h__law_along : Fn K mg "_law_along" s__law_along P__law_along f__law_along fd__law_along
  f_arrows_from:Addr
  fd_arrows_from:FuncData
  h_arrows_from : Fn K mg "arrows_from" s_arrows_from P_arrows_from f_arrows_from fd_arrows_from
  f_marked:Addr
  fd_marked:FuncData
  h_marked : Fn K mg "marked" s_marked P_marked f_marked fd_marked
  f_along:Addr
  fd_along:FuncData
  h_along : Fn K mg "along" s_along P_along f_along fd_along
  f_takes:Addr
  fd_takes:FuncData
  h_takes : Fn K mg "takes" s_takes P_takes f_takes fd_takes
  f__law_due:Addr
  fd__law_due:FuncData
  h__law_due : Fn K mg "_law_due" s__law_due P__law_due f__law_due fd__law_due
  f_law:Addr
  fd_law:FuncData
  h_law : Fn K mg "law" s_law P_law f_law fd_law
  nb_all : mg "all" = none
  nb_any : mg "any" = none
  nb_bool : mg "bool" = none
  nb_dict : mg "dict" = none
  nb_isinstance : mg "isinstance" = none
  nb_len : mg "len" = none
  nb_list : mg "list" = none
  nb_range : mg "range" = none
  nb_reversed : mg "reversed" = none
  nb_set : mg "set" = none
  nb_sorted : mg "sorted" = none
section
variable {P:Program} {w:World} {K:PySem.W.Frag} {mg:Str -> Option Value} {base:Heap}
theorem ok__law_cell_at (t:Tx K mg) : FnOk P w K mg base CX0 1 t.f__law_cell_at t.fd__law_cell_at P__law_cell_at (spD mg 2 F__law_cell_at) :=
  fn_D0 t.h__law_cell_at.fu sc__law_cell_at fun cdv A outer s H E hr =>
    have hu := hr.units
    (pssd_cons (psd_if (pt_cmpD (od_lt) (pd_var (pv 1)) (pd_callB cd_len (by rfl) t.nb_len (by decide +kernel) (pad_cons (pd_var (pv 0)) pad_nil)) (nomark _)) (pssd_one (psd_ret (pd_op od_mod (pd_op od_mul (pd_op od_add (pd_op od_add (pd_op od_mod (pd_ixX (pd_ixV (pv 0) (pd_var (pv 1)) (fun _ _ => rfl)) (pd_dget hu (pd_var (pv 0)) (pd_var (pv 1)) (fun _ _ => rfl))) pd_int) pd_int) (pd_op od_mul (pd_var (pv 1)) (pd_var (pv 1)))) pd_int) pd_int))) pssd_nil)
      (pssd_one (psd_ret pd_int)))
theorem ok__law_arrow (t:Tx K mg) : FnOk P w K mg base CX0 1 t.f__law_arrow t.fd__law_arrow P__law_arrow (spD mg 4 F__law_arrow) :=
  fn_D0 t.h__law_arrow.fu sc__law_arrow fun cdv A outer s H E hr =>
    have hu := hr.units
    (pssd_cons (psd_set sc__law_arrow.nd rfl (.inl rfl) (pd_op od_mod (pd_op od_mul (pd_op od_add (pd_op od_mod (pd_var (pv 0)) pd_int) pd_int) pd_int) pd_int))
      (pssd_cons (psd_set sc__law_arrow.nd rfl (.inl rfl) (pd_op od_mod (pd_var (pv 0)) (pd_var (pv 1))))
      (pssd_cons (psd_set sc__law_arrow.nd rfl (.inl rfl) (pd_op od_div (pd_var (pv 0)) (pd_var (pv 1))))
      (pssd_cons (psd_set sc__law_arrow.nd rfl (.inl rfl) (pd_op od_mod (pd_var (pv 0)) (pd_var (pv 2))))
      (pssd_cons (psd_set sc__law_arrow.nd rfl (.inl rfl) (pd_op od_div (pd_var (pv 0)) (pd_var (pv 2))))
      (pssd_one (psd_ret (pd_tup (pad_cons (pd_var (pv 4)) (pad_cons (pd_var (pv 5)) (pad_cons (pd_op od_add (pd_var (pv 3)) (pd_op od_mod (pd_var (pv 0)) (pd_op od_sub (pd_var (pv 1)) (pd_var (pv 3))))) pad_nil)))))))))))
theorem ok__law_machine (t:Tx K mg) : FnOk P w K mg base CX0 2 t.f__law_machine t.fd__law_machine P__law_machine (spD mg 3 F__law_machine) :=
  fn_D0 t.h__law_machine.fu sc__law_machine fun cdv A outer s H E hr =>
    have hu := hr.units
    (pssd_cons (psd_set sc__law_machine.nd rfl (.inl rfl) (pd_call (ok__law_cell_at t) (hr.mono (by decide)) (by rfl) t.h__law_cell_at.gl t.h__law_cell_at.fu.kp t.h__law_cell_at.bi passE (pad_cons (pd_var (pv 0)) (pad_cons pd_int pad_nil)) (aCons_len (aCons_len aNil_len))))
      (pssd_cons (psd_set sc__law_machine.nd rfl (.inr rfl) (pd_op od_mod (pd_var (pv 3)) pd_int))
      (pssd_cons (psd_if (pt_cmpD (od_eq hu) (pd_op od_mod (pd_op od_div (pd_var (pv 3)) pd_int) pd_int) pd_int (nomark _)) (pssd_one (psd_set sc__law_machine.nd rfl (.inr rfl) (pd_op od_mod (pd_op od_div (pd_var (pv 3)) pd_int) pd_int))) pssd_nil)
      (pssd_cons (psd_set sc__law_machine.nd rfl (.inr rfl) pd_int)
      (pssd_cons (psd_if (PWD.pt (pw_andD (pt_cmpD (od_eq hu) (pd_op od_mod (pd_op od_div (pd_var (pv 3)) pd_int) pd_int) pd_int (nomark _)) (pw_and1D (pt_cmpD (od_gt) (pd_var (pv 4)) pd_int (nomark _))))) (pssd_one (psd_set sc__law_machine.nd rfl (.inr rfl) (pd_var (pv 1)))) pssd_nil)
      (pssd_cons (psd_comp rfl (CScope.of (osc := defScope s__law_machine) (N := N__law_machine) (tN := ["_law_cell"]) (capN := ["_law_rooms", "_law_signs", "_law_own", "_law_low"]) (caps := [1, 2, 4, 5]) rfl rfl (by decide +kernel)) sc__law_machine.nd rfl rfl (pid_seq (pd_slice (pd_var (pv 0)) (pod_some pd_int) (pod_some pd_int))) (by decide) (fun cl C s3 H3 fp => (pgd_name ndc__law_machine_1 rfl (.inl rfl))) (fun cl C s3 H3 fp => ptsd_nil) (fun cl C s3 H3 fp => (pd_call (ok__law_arrow t) (hr.mono (by decide)) (by rfl) t.h__law_arrow.gl t.h__law_arrow.fu.kp t.h__law_arrow.bi passE (pad_cons (pd_var (pv 0)) (pad_cons (pd_op od_add (pd_var (pv 1)) (pd_var (pv 3))) (pad_cons (pd_var (pv 2)) (pad_cons (pd_var (pv 4)) pad_nil)))) (aCons_len (aCons_len (aCons_len (aCons_len aNil_len)))))))
      (pssd_cons (psd_set sc__law_machine.nd rfl (.inr rfl) (pd_call (ok__law_cell_at t) (hr.mono (by decide)) (by rfl) t.h__law_cell_at.gl t.h__law_cell_at.fu.kp t.h__law_cell_at.bi passE (pad_cons (pd_var (pv 0)) (pad_cons pd_int pad_nil)) (aCons_len (aCons_len aNil_len))))
      (pssd_cons (psd_comp rfl (CScope.of (osc := defScope s__law_machine) (N := N__law_machine) (tN := ["_law_state"]) (capN := ["_law_bits"]) (caps := [7]) rfl rfl (by decide +kernel)) sc__law_machine.nd rfl rfl (pid_range1 (by rfl) t.nb_range (pad_cons (pd_op od_add (pd_var (pv 1)) (pd_var (pv 4))) pad_nil)) (by decide) (fun cl C s3 H3 fp => (pgd_name ndc__law_machine_2 rfl (.inl rfl))) (fun cl C s3 H3 fp => (ptsd_one (pt_cmpD (od_eq hu) (pd_op od_band (pd_op od_shr (pd_var (pv 1)) (pd_op od_mod (pd_var (pv 0)) pd_int)) pd_int) pd_int (nomark _)))) (fun cl C s3 H3 fp => (pd_var (pv 0))))
      (pssd_one (psd_ret (pd_tup (pad_cons (pd_op od_add (pd_var (pv 1)) (pd_var (pv 4))) (pad_cons (pd_sortedSet (by rfl) hu (pd_var (pv 6)) (by rfl) t.nb_sorted (by decide +kernel) (by rfl) t.nb_set (by decide +kernel)) (pad_cons (pd_var (pv 8)) pad_nil))))))))))))))
theorem ok_is_plain (t:Tx K mg) : FnOk P w K mg base CX0 1 t.f_is_plain t.fd_is_plain P_is_plain (spD mg 2 F_is_plain) :=
  fn_D0 t.h_is_plain.fu sc_is_plain fun cdv A outer s H E hr =>
    have hu := hr.units
    (pssd_one (psd_ret (pd_callB (cd_all (by rfl)) (by rfl) t.nb_all (by decide +kernel) (pad_cons (pd_comp rfl (CScope.of (osc := defScope s_is_plain) (N := N_is_plain) (tN := ["arrow"]) (capN := ["house"]) (caps := [0]) rfl rfl (by decide +kernel)) (pid_seq (pd_ixX (pd_ixV (pv 1) pd_int (fun _ _ => rfl)) (pd_dget hu (pd_var (pv 1)) pd_int (fun _ _ => rfl)))) (by decide) (fun cl C s3 H3 fp => (pgd_name ndc_is_plain_1 rfl (.inl rfl))) (fun cl C s3 H3 fp => ptsd_nil) (fun cl C s3 H3 fp => (pd_cmp (od_ge) (pd_ixX (pd_ixV (pv 0) pd_int (fun _ _ => rfl)) (pd_dget hu (pd_var (pv 0)) pd_int (fun _ _ => rfl))) (pd_ixX (pd_ixV (pv 1) pd_int (fun _ _ => rfl)) (pd_dget hu (pd_var (pv 1)) pd_int (fun _ _ => rfl))) (nomark _)))) pad_nil))))
theorem ok__law_any (t:Tx K mg) : FnOk P w K mg base CX0 1 t.f__law_any t.fd__law_any P__law_any (spD mg 3 F__law_any) :=
  fn_D0 t.h__law_any.fu sc__law_any fun cdv A outer s H E hr =>
    have hu := hr.units
    (pssd_cons (psd_set sc__law_any.nd rfl (.inl rfl) (pd_lst pad_nil))
      (pssd_cons (psd_for PassesOwn.never rfl (pid_range1 (by rfl) t.nb_range (pad_cons (pd_var (pv 0)) pad_nil)) (pgd_name sc__law_any.nd rfl (.inl rfl)) (pssd_cons (psd_set sc__law_any.nd rfl (.inl rfl) (pd_op od_mod (pd_op od_add (pd_op od_add (pd_op od_mul (pd_var (pv 1)) pd_int) (pd_op od_mul (pd_var (pv 4)) (pd_var (pv 4)))) pd_int) pd_int))
      (pssd_one (psd_app (pv 3) (pd_op od_mod (pd_op od_div (pd_var (pv 1)) pd_int) (pd_var (pv 2)))))))
      (pssd_one (psd_ret (pd_var (pv 3))))))
theorem ok__law_along (t:Tx K mg) : FnOk P w K mg base CX0 1 t.f__law_along t.fd__law_along P__law_along (spD mg 4 F__law_along) :=
  fn_D0 t.h__law_along.fu sc__law_along fun cdv A outer s H E hr =>
    have hu := hr.units
    (pssd_cons (psd_set sc__law_along.nd rfl (.inr rfl) (pd_var (pv 1)))
      (pssd_cons (psd_set sc__law_along.nd rfl (.inl rfl) (pd_lst pad_nil))
      (pssd_cons (psd_for PassesOwn.never rfl (pid_range1 (by rfl) t.nb_range (pad_cons (pd_var (pv 2)) pad_nil)) (pgd_name sc__law_along.nd rfl (.inl rfl)) (pssd_cons (psd_set sc__law_along.nd rfl (.inl rfl) (pd_op od_mod (pd_op od_add (pd_op od_add (pd_op od_mul (pd_var (pv 3)) pd_int) (pd_op od_mul (pd_var (pv 6)) (pd_var (pv 6)))) pd_int) pd_int))
      (pssd_cons (psd_comp rfl (CScope.of (osc := defScope s__law_along) (N := N__law_along) (tN := ["_law_arrow_here"]) (capN := ["_law_state"]) (caps := [4]) rfl rfl (by decide +kernel)) sc__law_along.nd rfl rfl (pid_seq (pd_ixX (pd_ixV (pv 0) pd_int (fun _ _ => rfl)) (pd_dget hu (pd_var (pv 0)) pd_int (fun _ _ => rfl)))) (by decide) (fun cl C s3 H3 fp => (pgd_name ndc__law_along_1 rfl (.inl rfl))) (fun cl C s3 H3 fp => (ptsd_one (pt_cmpD (od_eq hu) (pd_ixX (pd_ixV (pv 0) pd_int (fun _ _ => rfl)) (pd_dget hu (pd_var (pv 0)) pd_int (fun _ _ => rfl))) (pd_var (pv 1)) (nomark _)))) (fun cl C s3 H3 fp => (pd_var (pv 0))))
      (pssd_one (psd_if (pt_cmpD (od_gt) (pd_callB cd_len (by rfl) t.nb_len (by decide +kernel) (pad_cons (pd_var (pv 7)) pad_nil)) pd_int (nomark _)) (pssd_cons (psd_set sc__law_along.nd rfl (.inl rfl) (pd_ixX (pd_ixV (pv 7) (pd_op od_mod (pd_op od_div (pd_var (pv 3)) pd_int) (pd_callB cd_len (by rfl) t.nb_len (by decide +kernel) (pad_cons (pd_var (pv 7)) pad_nil))) (fun _ _ => rfl)) (pd_dget hu (pd_var (pv 7)) (pd_op od_mod (pd_op od_div (pd_var (pv 3)) pd_int) (pd_callB cd_len (by rfl) t.nb_len (by decide +kernel) (pad_cons (pd_var (pv 7)) pad_nil))) (fun _ _ => rfl))))
      (pssd_cons (psd_app (pv 5) (pd_ixX (pd_ixV (pv 8) pd_int (fun _ _ => rfl)) (pd_dget hu (pd_var (pv 8)) pd_int (fun _ _ => rfl))))
      (pssd_one (psd_set sc__law_along.nd rfl (.inr rfl) (pd_ixX (pd_ixV (pv 8) pd_int (fun _ _ => rfl)) (pd_dget hu (pd_var (pv 8)) pd_int (fun _ _ => rfl))))))) pssd_nil)))))
      (pssd_one (psd_ret (pd_var (pv 5)))))))
theorem ok_arrows_from (t:Tx K mg) : FnOk P w K mg base CX0 1 t.f_arrows_from t.fd_arrows_from P_arrows_from (spD mg 1 F_arrows_from) :=
  fn_D0 t.h_arrows_from.fu sc_arrows_from fun cdv A outer s H E hr =>
    have hu := hr.units
    (pssd_cons (psd_set sc_arrows_from.nd rfl (.inl rfl) pd_dnew)
      (pssd_cons (psd_grp PassesOwn.never rfl (pd_ixX (pd_ixV (pv 0) pd_int (fun _ _ => rfl)) (pd_dget hu (pd_var (pv 0)) pd_int (fun _ _ => rfl))) (pg_tup rfl (pgs_cons (pg_name sc_arrows_from.nd rfl (.inl rfl)) (pgs_cons (pg_name sc_arrows_from.nd rfl (.inl rfl)) (pgs_cons (pg_name sc_arrows_from.nd rfl (.inl rfl)) pgs_nil)))) (pss_one (ps_expr (pe_bm PySem.F.plainAttrs_list PySem.F.slot_list_append PySem.F.type_list_append mt_append (pe_bm PySem.F.plainAttrs_dict PySem.F.slot_dict_setdefault PySem.F.type_dict_setdefault mt_setD (pe_bm PySem.F.plainAttrs_dict PySem.F.slot_dict_setdefault PySem.F.type_dict_setdefault mt_setD (pv 1) (pa_cons (pv 2) (pa_cons pe_dnewK pa_nil))) (pa_cons (pv 3) (pa_cons (pe_lst pa_nil) pa_nil))) (pa_cons (pv 4) pa_nil)))))
      (pssd_one (psd_ret (pd_var (pv 1))))))
theorem ok_marked (t:Tx K mg) : FnOk P w K mg base CX0 1 t.f_marked t.fd_marked P_marked (spD mg 1 F_marked) :=
  fn_D0 t.h_marked.fu sc_marked fun cdv A outer s H E hr =>
    have hu := hr.units
    (pssd_one (psd_ret (pd_callTy (cd_dict2 (by rfl) hu) (by rfl) t.nb_dict (by decide +kernel) (pad_cons (pd_comp rfl (CScope.of (osc := defScope s_marked) (N := N_marked) (tN := ["thing"]) (capN := []) (caps := []) rfl rfl (by decide +kernel)) (pid_seq (pd_var (pv 0))) (by decide) (fun cl C s3 H3 fp => (pgd_name ndc_marked_1 rfl (.inl rfl))) (fun cl C s3 H3 fp => ptsd_nil) (fun cl C s3 H3 fp => (pd_tup (pad_cons (pd_var (pv 0)) (pad_cons pd_bl pad_nil))))) pad_nil))))
theorem ok_along (t:Tx K mg) : FnOk P w K mg base CX0 2 t.f_along t.fd_along P_along (spD mg 3 F_along) :=
  fn_D0 t.h_along.fu sc_along fun cdv A outer s H E hr =>
    have hu := hr.units
    (pssd_cons (psd_set sc_along.nd rfl (.inl rfl) pd_dnew)
      (pssd_cons (psd_forX (psd_for PassesOwn.never rfl (pid_seq (pd_var (pv 1))) (pgd_name sc_along.nd rfl (.inl rfl)) (pssd_one (psd_upd (pv 3) (pd_call (ok_marked t) (hr.mono (by decide)) (by rfl) t.h_marked.gl t.h_marked.fu.kp t.h_marked.bi passE (pad_cons (pd_get2 hu (pd_get2 hu (pd_var (pv 0)) (pd_var (pv 4)) pd_dnew ⟨rfl, rfl, rfl, rfl⟩) (pd_var (pv 2)) (pd_lst pad_nil) ⟨rfl, rfl, rfl, rfl⟩) pad_nil) (aCons_len aNil_len))))) (psd_forZ PassesOwn.never rfl (pd_var (pv 1)) (pgd_name sc_along.nd rfl (.inl rfl)) (pssd_one (psd_upd (pv 3) (pd_call (ok_marked t) (hr.mono (by decide)) (by rfl) t.h_marked.gl t.h_marked.fu.kp t.h_marked.bi passE (pad_cons (pd_get2 hu (pd_get2 hu (pd_var (pv 0)) (pd_var (pv 4)) pd_dnew ⟨rfl, rfl, rfl, rfl⟩) (pd_var (pv 2)) (pd_lst pad_nil) ⟨rfl, rfl, rfl, rfl⟩) pad_nil) (aCons_len aNil_len))))))
      (pssd_one (psd_ret (pd_var (pv 3))))))
theorem ok_takes (t:Tx K mg) : FnOk P w K mg base CX0 3 t.f_takes t.fd_takes P_takes (spD mg 2 F_takes) :=
  fn_D0 t.h_takes.fu sc_takes fun cdv A outer s H E hr =>
    have hu := hr.units
    (pssd_cons (psd_set sc_takes.nd rfl (.inl rfl) (pd_call (ok_arrows_from t) (hr.mono (by decide)) (by rfl) t.h_arrows_from.gl t.h_arrows_from.fu.kp t.h_arrows_from.bi passE (pad_cons (pd_var (pv 0)) pad_nil) (aCons_len aNil_len)))
      (pssd_cons (psd_set sc_takes.nd rfl (.inr rfl) (pd_disp1 (pd_ixX (pd_ixV (pv 1) pd_int (fun _ _ => rfl)) (pd_dget hu (pd_var (pv 1)) pd_int (fun _ _ => rfl))) pd_bl))
      (pssd_cons (psd_for PassesOwn.never rfl (pid_seq (pd_ixX (pd_ixV (pv 1) pd_int (fun _ _ => rfl)) (pd_dget hu (pd_var (pv 1)) pd_int (fun _ _ => rfl)))) (pgd_name sc_takes.nd rfl (.inl rfl)) (pssd_one (psd_set sc_takes.nd rfl (.inr rfl) (pd_call (ok_along t) (hr.mono (by decide)) (by rfl) t.h_along.gl t.h_along.fu.kp t.h_along.bi passE (pad_cons (pd_var (pv 2)) (pad_cons (pd_var (pv 3)) (pad_cons (pd_var (pv 4)) pad_nil))) (aCons_len (aCons_len (aCons_len aNil_len)))))))
      (pssd_one (psd_ret (pd_callB (cd_any (by rfl)) (by rfl) t.nb_any (by decide +kernel) (pad_cons (pd_comp rfl (CScope.of (osc := defScope s_takes) (N := N_takes) (tN := ["end"]) (capN := ["here"]) (caps := [3]) rfl rfl (by decide +kernel)) (pid_seq (pd_ixX (pd_ixV (pv 0) pd_int (fun _ _ => rfl)) (pd_dget hu (pd_var (pv 0)) pd_int (fun _ _ => rfl)))) (by decide) (fun cl C s3 H3 fp => (pgd_name ndc_takes_1 rfl (.inl rfl))) (fun cl C s3 H3 fp => ptsd_nil) (fun cl C s3 H3 fp => (pd_cmp (od_inX hu) (pd_var (pv 0)) (pd_var (pv 1)) (by rfl)))) pad_nil)))))))
theorem ok__law_due (t:Tx K mg) : FnOk P w K mg base CX0 1 t.f__law_due t.fd__law_due P__law_due (spD mg 3 F__law_due) :=
  fn_D0 t.h__law_due.fu sc__law_due fun cdv A outer s H E hr =>
    have hu := hr.units
    (pssd_cons (psd_set sc__law_due.nd rfl (.inl rfl) pd_dnew)
      (pssd_cons (psd_for PassesOwn.never rfl (pid_seq (pd_ixX (pd_ixV (pv 0) pd_int (fun _ _ => rfl)) (pd_dget hu (pd_var (pv 0)) pd_int (fun _ _ => rfl)))) (pgd_name sc__law_due.nd rfl (.inl rfl)) (pssd_one (psd_setX (psd_setI (pv 3) (pd_var (pv 4)) pd_bl) (psd_put hu (pv 3) (pd_var (pv 4)) pd_bl))))
      (pssd_cons (psd_for PassesOwn.never rfl (pid_rev (by rfl) t.nb_reversed (pad_cons (pd_var (pv 2)) pad_nil)) (pgd_name sc__law_due.nd rfl (.inl rfl)) (pssd_cons (psd_set sc__law_due.nd rfl (.inl rfl) pd_dnew)
      (pssd_cons (psd_for PassesOwn.never rfl (pid_seq (pd_ixX (pd_ixV (pv 0) pd_int (fun _ _ => rfl)) (pd_dget hu (pd_var (pv 0)) pd_int (fun _ _ => rfl)))) (pgd_name sc__law_due.nd rfl (.inl rfl)) (pssd_one (psd_if (PWD.pt (pw_andD (pt_cmpD (od_eq hu) (pd_ixX (pd_ixV (pv 7) pd_int (fun _ _ => rfl)) (pd_dget hu (pd_var (pv 7)) pd_int (fun _ _ => rfl))) (pd_var (pv 5)) (nomark _)) (pw_and1D (pt_cmpD (od_inX hu) (pd_ixX (pd_ixV (pv 7) pd_int (fun _ _ => rfl)) (pd_dget hu (pd_var (pv 7)) pd_int (fun _ _ => rfl))) (pd_var (pv 3)) (by rfl))))) (pssd_one (psd_setX (psd_setI (pv 6) (pd_ixX (pd_ixV (pv 7) pd_int (fun _ _ => rfl)) (pd_dget hu (pd_var (pv 7)) pd_int (fun _ _ => rfl))) pd_bl) (psd_put hu (pv 6) (pd_ixX (pd_ixV (pv 7) pd_int (fun _ _ => rfl)) (pd_dget hu (pd_var (pv 7)) pd_int (fun _ _ => rfl))) pd_bl))) pssd_nil)))
      (pssd_one (psd_set sc__law_due.nd rfl (.inl rfl) (pd_var (pv 6)))))))
      (pssd_one (psd_ret (pd_cmp (od_inX hu) (pd_var (pv 1)) (pd_var (pv 3)) (by rfl)))))))
theorem ok_law (t:Tx K mg) : FnOk P w K mg base CX0 4 t.f_law t.fd_law P_law (spD mg 1 F_law) :=
  fn_D0 t.h_law.fu sc_law fun cdv A outer s H E hr =>
    have hu := hr.units
    (pssd_cons (psd_set sc_law.nd rfl (.inl rfl) (pd_call (ok__law_cell_at t) (hr.mono (by decide)) (by rfl) t.h__law_cell_at.gl t.h__law_cell_at.fu.kp t.h__law_cell_at.bi passE (pad_cons (pd_var (pv 0)) (pad_cons pd_int pad_nil)) (aCons_len (aCons_len aNil_len))))
      (pssd_cons (psd_set sc_law.nd rfl (.inr rfl) (pd_op od_add pd_int (pd_op od_mod (pd_var (pv 1)) pd_int)))
      (pssd_cons (psd_set sc_law.nd rfl (.inl rfl) (pd_op od_add pd_int (pd_op od_mod (pd_op od_div (pd_var (pv 1)) pd_int) pd_int)))
      (pssd_cons (psd_if (pt_cmpD (od_eq hu) (pd_op od_mod (pd_op od_div (pd_var (pv 1)) pd_int) pd_int) pd_int (nomark _)) (pssd_cons (psd_set sc_law.nd rfl (.inr rfl) (pd_op od_add pd_int (pd_op od_mod (pd_op od_div (pd_var (pv 1)) pd_int) pd_int)))
      (pssd_one (psd_set sc_law.nd rfl (.inl rfl) (pd_op od_add pd_int (pd_op od_mod (pd_op od_div (pd_var (pv 1)) pd_int) pd_int))))) pssd_nil)
      (pssd_cons (psd_set sc_law.nd rfl (.inl rfl) (pd_call (ok__law_machine t) (hr.mono (by decide)) (by rfl) t.h__law_machine.gl t.h__law_machine.fu.kp t.h__law_machine.bi passE (pad_cons (pd_var (pv 0)) (pad_cons (pd_var (pv 2)) (pad_cons (pd_var (pv 3)) pad_nil))) (aCons_len (aCons_len (aCons_len aNil_len)))))
      (pssd_cons (psd_set sc_law.nd rfl (.inl rfl) (pd_tup (pad_cons (pd_ixX (pd_ixV (pv 4) pd_int (fun _ _ => rfl)) (pd_dget hu (pd_var (pv 4)) pd_int (fun _ _ => rfl))) (pad_cons (pd_callTy cd_list (by rfl) t.nb_list (by decide +kernel) (pad_cons (pd_ixX (pd_ixV (pv 4) pd_int (fun _ _ => rfl)) (pd_dget hu (pd_var (pv 4)) pd_int (fun _ _ => rfl))) pad_nil)) (pad_cons (pd_callTy cd_list (by rfl) t.nb_list (by decide +kernel) (pad_cons (pd_ixX (pd_ixV (pv 4) pd_int (fun _ _ => rfl)) (pd_dget hu (pd_var (pv 4)) pd_int (fun _ _ => rfl))) pad_nil)) pad_nil)))))
      (pssd_cons (psd_set sc_law.nd rfl (.inl rfl) (pd_call (ok_is_plain t) (hr.mono (by decide)) (by rfl) t.h_is_plain.gl t.h_is_plain.fu.kp t.h_is_plain.bi passE (pad_cons (pd_tup (pad_cons (pd_var (pv 2)) (pad_cons (pd_var (pv 3)) (pad_cons (pd_lst pad_nil) pad_nil)))) (pad_cons (pd_var (pv 5)) pad_nil)) (aCons_len (aCons_len aNil_len))))
      (pssd_cons (psd_if (PWD.pt (pw_orD (pt_notD (pt_tru (pd_isi kind_bool (by rfl) t.nb_isinstance (by rfl) t.nb_bool (by decide +kernel) (pd_var (pv 6))))) (pw_or1D (pt_cmpD (od_ne hu) (pd_var (pv 6)) (pd_cmp (od_eq hu) (pd_callB cd_len (by rfl) t.nb_len (by decide +kernel) (pad_cons (pd_comp rfl (CScope.of (osc := defScope s_law) (N := N_law) (tN := ["_law_a"]) (capN := ["_law_rooms"]) (caps := [2]) rfl rfl (by decide +kernel)) (pid_seq (pd_ixX (pd_ixV (pv 4) pd_int (fun _ _ => rfl)) (pd_dget hu (pd_var (pv 4)) pd_int (fun _ _ => rfl)))) (by decide) (fun cl C s3 H3 fp => (pgd_name ndc_law_1 rfl (.inl rfl))) (fun cl C s3 H3 fp => (ptsd_one (pt_cmpD (od_lt) (pd_ixX (pd_ixV (pv 0) pd_int (fun _ _ => rfl)) (pd_dget hu (pd_var (pv 0)) pd_int (fun _ _ => rfl))) (pd_var (pv 1)) (nomark _)))) (fun cl C s3 H3 fp => (pd_var (pv 0)))) pad_nil)) pd_int (nomark _)) (nomark _))))) (pssd_one (psd_ret pd_bl)) pssd_nil)
      (pssd_cons (psd_for PassesOwn.never rfl (pid_range1 (by rfl) t.nb_range (pad_cons pd_int pad_nil)) (pgd_name sc_law.nd rfl (.inl rfl)) (pssd_cons (psd_set sc_law.nd rfl (.inl rfl) (pd_op od_mod (pd_op od_add (pd_call (ok__law_cell_at t) (hr.mono (by decide)) (by rfl) t.h__law_cell_at.gl t.h__law_cell_at.fu.kp t.h__law_cell_at.bi passE (pad_cons (pd_var (pv 0)) (pad_cons pd_int pad_nil)) (aCons_len (aCons_len aNil_len))) (pd_op od_mul (pd_op od_mul pd_int (pd_var (pv 7))) (pd_var (pv 7)))) pd_int))
      (pssd_cons (psd_set sc_law.nd rfl (.inl rfl) (pd_op od_mod (pd_op od_add (pd_call (ok__law_cell_at t) (hr.mono (by decide)) (by rfl) t.h__law_cell_at.gl t.h__law_cell_at.fu.kp t.h__law_cell_at.bi passE (pad_cons (pd_var (pv 0)) (pad_cons pd_int pad_nil)) (aCons_len (aCons_len aNil_len))) (pd_var (pv 7))) (pd_var (pv 2))))
      (pssd_cons (psd_set sc_law.nd rfl (.inl rfl) (pd_op od_mod (pd_var (pv 8)) pd_int))
      (pssd_cons (psd_if (pt_cmpD (od_eq hu) (pd_op od_mod (pd_op od_div (pd_var (pv 8)) pd_int) pd_int) pd_int (nomark _)) (pssd_one (psd_set sc_law.nd rfl (.inl rfl) (pd_op od_add pd_int (pd_op od_mod (pd_var (pv 8)) pd_int)))) pssd_nil)
      (pssd_cons (psd_set sc_law.nd rfl (.inl rfl) (pd_call (ok__law_any t) (hr.mono (by decide)) (by rfl) t.h__law_any.gl t.h__law_any.fu.kp t.h__law_any.bi passE (pad_cons (pd_var (pv 10)) (pad_cons (pd_var (pv 8)) (pad_cons (pd_var (pv 3)) pad_nil))) (aCons_len (aCons_len (aCons_len aNil_len)))))
      (pssd_cons (psd_if (pt_cmpD (od_eq hu) (pd_op od_mod (pd_op od_add (pd_op od_div (pd_call (ok__law_cell_at t) (hr.mono (by decide)) (by rfl) t.h__law_cell_at.gl t.h__law_cell_at.fu.kp t.h__law_cell_at.bi passE (pad_cons (pd_var (pv 0)) (pad_cons pd_int pad_nil)) (aCons_len (aCons_len aNil_len))) pd_int) (pd_var (pv 7))) pd_int) pd_int (nomark _)) (pssd_one (psd_set sc_law.nd rfl (.inl rfl) (pd_call (ok__law_along t) (hr.mono (by decide)) (by rfl) t.h__law_along.gl t.h__law_along.fu.kp t.h__law_along.bi passE (pad_cons (pd_var (pv 4)) (pad_cons (pd_var (pv 9)) (pad_cons (pd_var (pv 10)) (pad_cons (pd_var (pv 8)) pad_nil)))) (aCons_len (aCons_len (aCons_len (aCons_len aNil_len))))))) pssd_nil)
      (pssd_cons (psd_set sc_law.nd rfl (.inl rfl) (pd_callTy cd_list (by rfl) t.nb_list (by decide +kernel) (pad_cons (pd_var (pv 11)) pad_nil)))
      (pssd_cons (psd_set sc_law.nd rfl (.inl rfl) (pd_call (ok_takes t) (hr.mono (by decide)) (by rfl) t.h_takes.gl t.h_takes.fu.kp t.h_takes.bi passE (pad_cons (pd_var (pv 5)) (pad_cons (pd_tup (pad_cons (pd_var (pv 9)) (pad_cons (pd_var (pv 12)) pad_nil))) pad_nil)) (aCons_len (aCons_len aNil_len))))
      (pssd_one (psd_if (PWD.pt (pw_orD (pt_notD (pt_tru (pd_isi kind_bool (by rfl) t.nb_isinstance (by rfl) t.nb_bool (by decide +kernel) (pd_var (pv 13))))) (pw_orD (pt_cmpD (od_ne hu) (pd_var (pv 13)) (pd_call (ok__law_due t) (hr.mono (by decide)) (by rfl) t.h__law_due.gl t.h__law_due.fu.kp t.h__law_due.bi passE (pad_cons (pd_var (pv 4)) (pad_cons (pd_var (pv 9)) (pad_cons (pd_var (pv 11)) pad_nil))) (aCons_len (aCons_len (aCons_len aNil_len)))) (nomark _)) (pw_or1D (pt_cmpD (od_ne hu) (pd_var (pv 12)) (pd_var (pv 11)) (nomark _)))))) (pssd_one (psd_ret pd_bl)) pssd_nil)))))))))))
      (pssd_one (psd_ret (pd_cmp (od_eq hu) (pd_var (pv 5)) (pd_var (pv 4)) (nomark _)))))))))))))
end
theorem tx_mk {K:PySem.W.Frag} {mg:Str -> Option Value} {h:Heap} (X:K.In h) (G:h.Ns mainGlobals mg)
    {f__law_cell_at:Addr} {od__law_cell_at an__law_cell_at:Option Addr} {sl__law_cell_at:Array (Option Value)} {oc__law_cell_at kV__law_cell_at dc__law_cell_at pm__law_cell_at cd__law_cell_at ct__law_cell_at:Value}
    (a__law_cell_at : PySem.W.nsIn K mainGlobals "_law_cell_at" = some (some (.ref f__law_cell_at))) (l__law_cell_at : K.lookup f__law_cell_at = some ⟨oc__law_cell_at, od__law_cell_at, .func (PySem.W.fnOf "_law_cell_at" "_law_cell_at" (defArgs s__law_cell_at) (defBody s__law_cell_at) (defScope s__law_cell_at) .none kV__law_cell_at dc__law_cell_at pm__law_cell_at an__law_cell_at cd__law_cell_at ct__law_cell_at), sl__law_cell_at⟩) (c__law_cell_at : PySem.W.codeIn K cd__law_cell_at "_law_cell_at" = true) (k__law_cell_at : PySem.W.keepIn K (.ref f__law_cell_at) = true)
    {f__law_arrow:Addr} {od__law_arrow an__law_arrow:Option Addr} {sl__law_arrow:Array (Option Value)} {oc__law_arrow kV__law_arrow dc__law_arrow pm__law_arrow cd__law_arrow ct__law_arrow:Value}
    (a__law_arrow : PySem.W.nsIn K mainGlobals "_law_arrow" = some (some (.ref f__law_arrow))) (l__law_arrow : K.lookup f__law_arrow = some ⟨oc__law_arrow, od__law_arrow, .func (PySem.W.fnOf "_law_arrow" "_law_arrow" (defArgs s__law_arrow) (defBody s__law_arrow) (defScope s__law_arrow) .none kV__law_arrow dc__law_arrow pm__law_arrow an__law_arrow cd__law_arrow ct__law_arrow), sl__law_arrow⟩) (c__law_arrow : PySem.W.codeIn K cd__law_arrow "_law_arrow" = true) (k__law_arrow : PySem.W.keepIn K (.ref f__law_arrow) = true)
    {f__law_machine:Addr} {od__law_machine an__law_machine:Option Addr} {sl__law_machine:Array (Option Value)} {oc__law_machine kV__law_machine dc__law_machine pm__law_machine cd__law_machine ct__law_machine:Value}
    (a__law_machine : PySem.W.nsIn K mainGlobals "_law_machine" = some (some (.ref f__law_machine))) (l__law_machine : K.lookup f__law_machine = some ⟨oc__law_machine, od__law_machine, .func (PySem.W.fnOf "_law_machine" "_law_machine" (defArgs s__law_machine) (defBody s__law_machine) (defScope s__law_machine) .none kV__law_machine dc__law_machine pm__law_machine an__law_machine cd__law_machine ct__law_machine), sl__law_machine⟩) (c__law_machine : PySem.W.codeIn K cd__law_machine "_law_machine" = true) (k__law_machine : PySem.W.keepIn K (.ref f__law_machine) = true)
    {f_is_plain:Addr} {od_is_plain an_is_plain:Option Addr} {sl_is_plain:Array (Option Value)} {oc_is_plain kV_is_plain dc_is_plain pm_is_plain cd_is_plain ct_is_plain:Value}
    (a_is_plain : PySem.W.nsIn K mainGlobals "is_plain" = some (some (.ref f_is_plain))) (l_is_plain : K.lookup f_is_plain = some ⟨oc_is_plain, od_is_plain, .func (PySem.W.fnOf "is_plain" "is_plain" (defArgs s_is_plain) (defBody s_is_plain) (defScope s_is_plain) .none kV_is_plain dc_is_plain pm_is_plain an_is_plain cd_is_plain ct_is_plain), sl_is_plain⟩) (c_is_plain : PySem.W.codeIn K cd_is_plain "is_plain" = true) (k_is_plain : PySem.W.keepIn K (.ref f_is_plain) = true)
    {f__law_any:Addr} {od__law_any an__law_any:Option Addr} {sl__law_any:Array (Option Value)} {oc__law_any kV__law_any dc__law_any pm__law_any cd__law_any ct__law_any:Value}
    (a__law_any : PySem.W.nsIn K mainGlobals "_law_any" = some (some (.ref f__law_any))) (l__law_any : K.lookup f__law_any = some ⟨oc__law_any, od__law_any, .func (PySem.W.fnOf "_law_any" "_law_any" (defArgs s__law_any) (defBody s__law_any) (defScope s__law_any) .none kV__law_any dc__law_any pm__law_any an__law_any cd__law_any ct__law_any), sl__law_any⟩) (c__law_any : PySem.W.codeIn K cd__law_any "_law_any" = true) (k__law_any : PySem.W.keepIn K (.ref f__law_any) = true)
    {f__law_along:Addr} {od__law_along an__law_along:Option Addr} {sl__law_along:Array (Option Value)} {oc__law_along kV__law_along dc__law_along pm__law_along cd__law_along ct__law_along:Value}
    (a__law_along : PySem.W.nsIn K mainGlobals "_law_along" = some (some (.ref f__law_along))) (l__law_along : K.lookup f__law_along = some ⟨oc__law_along, od__law_along, .func (PySem.W.fnOf "_law_along" "_law_along" (defArgs s__law_along) (defBody s__law_along) (defScope s__law_along) .none kV__law_along dc__law_along pm__law_along an__law_along cd__law_along ct__law_along), sl__law_along⟩) (c__law_along : PySem.W.codeIn K cd__law_along "_law_along" = true) (k__law_along : PySem.W.keepIn K (.ref f__law_along) = true)
    {f_arrows_from:Addr} {od_arrows_from an_arrows_from:Option Addr} {sl_arrows_from:Array (Option Value)} {oc_arrows_from kV_arrows_from dc_arrows_from pm_arrows_from cd_arrows_from ct_arrows_from:Value}
    (a_arrows_from : PySem.W.nsIn K mainGlobals "arrows_from" = some (some (.ref f_arrows_from))) (l_arrows_from : K.lookup f_arrows_from = some ⟨oc_arrows_from, od_arrows_from, .func (PySem.W.fnOf "arrows_from" "arrows_from" (defArgs s_arrows_from) (defBody s_arrows_from) (defScope s_arrows_from) .none kV_arrows_from dc_arrows_from pm_arrows_from an_arrows_from cd_arrows_from ct_arrows_from), sl_arrows_from⟩) (c_arrows_from : PySem.W.codeIn K cd_arrows_from "arrows_from" = true) (k_arrows_from : PySem.W.keepIn K (.ref f_arrows_from) = true)
    {f_marked:Addr} {od_marked an_marked:Option Addr} {sl_marked:Array (Option Value)} {oc_marked kV_marked dc_marked pm_marked cd_marked ct_marked:Value}
    (a_marked : PySem.W.nsIn K mainGlobals "marked" = some (some (.ref f_marked))) (l_marked : K.lookup f_marked = some ⟨oc_marked, od_marked, .func (PySem.W.fnOf "marked" "marked" (defArgs s_marked) (defBody s_marked) (defScope s_marked) .none kV_marked dc_marked pm_marked an_marked cd_marked ct_marked), sl_marked⟩) (c_marked : PySem.W.codeIn K cd_marked "marked" = true) (k_marked : PySem.W.keepIn K (.ref f_marked) = true)
    {f_along:Addr} {od_along an_along:Option Addr} {sl_along:Array (Option Value)} {oc_along kV_along dc_along pm_along cd_along ct_along:Value}
    (a_along : PySem.W.nsIn K mainGlobals "along" = some (some (.ref f_along))) (l_along : K.lookup f_along = some ⟨oc_along, od_along, .func (PySem.W.fnOf "along" "along" (defArgs s_along) (defBody s_along) (defScope s_along) .none kV_along dc_along pm_along an_along cd_along ct_along), sl_along⟩) (c_along : PySem.W.codeIn K cd_along "along" = true) (k_along : PySem.W.keepIn K (.ref f_along) = true)
    {f_takes:Addr} {od_takes an_takes:Option Addr} {sl_takes:Array (Option Value)} {oc_takes kV_takes dc_takes pm_takes cd_takes ct_takes:Value}
    (a_takes : PySem.W.nsIn K mainGlobals "takes" = some (some (.ref f_takes))) (l_takes : K.lookup f_takes = some ⟨oc_takes, od_takes, .func (PySem.W.fnOf "takes" "takes" (defArgs s_takes) (defBody s_takes) (defScope s_takes) .none kV_takes dc_takes pm_takes an_takes cd_takes ct_takes), sl_takes⟩) (c_takes : PySem.W.codeIn K cd_takes "takes" = true) (k_takes : PySem.W.keepIn K (.ref f_takes) = true)
    {f__law_due:Addr} {od__law_due an__law_due:Option Addr} {sl__law_due:Array (Option Value)} {oc__law_due kV__law_due dc__law_due pm__law_due cd__law_due ct__law_due:Value}
    (a__law_due : PySem.W.nsIn K mainGlobals "_law_due" = some (some (.ref f__law_due))) (l__law_due : K.lookup f__law_due = some ⟨oc__law_due, od__law_due, .func (PySem.W.fnOf "_law_due" "_law_due" (defArgs s__law_due) (defBody s__law_due) (defScope s__law_due) .none kV__law_due dc__law_due pm__law_due an__law_due cd__law_due ct__law_due), sl__law_due⟩) (c__law_due : PySem.W.codeIn K cd__law_due "_law_due" = true) (k__law_due : PySem.W.keepIn K (.ref f__law_due) = true)
    {f_law:Addr} {od_law an_law:Option Addr} {sl_law:Array (Option Value)} {oc_law kV_law dc_law pm_law cd_law ct_law:Value}
    (a_law : PySem.W.nsIn K mainGlobals "law" = some (some (.ref f_law))) (l_law : K.lookup f_law = some ⟨oc_law, od_law, .func (PySem.W.fnOf "law" "law" (defArgs s_law) (defBody s_law) (defScope s_law) .none kV_law dc_law pm_law an_law cd_law ct_law), sl_law⟩) (c_law : PySem.W.codeIn K cd_law "law" = true) (k_law : PySem.W.keepIn K (.ref f_law) = true)
    (z_all : PySem.W.nsIn K mainGlobals "all" = some none)
    (z_any : PySem.W.nsIn K mainGlobals "any" = some none)
    (z_bool : PySem.W.nsIn K mainGlobals "bool" = some none)
    (z_dict : PySem.W.nsIn K mainGlobals "dict" = some none)
    (z_isinstance : PySem.W.nsIn K mainGlobals "isinstance" = some none)
    (z_len : PySem.W.nsIn K mainGlobals "len" = some none)
    (z_list : PySem.W.nsIn K mainGlobals "list" = some none)
    (z_range : PySem.W.nsIn K mainGlobals "range" = some none)
    (z_reversed : PySem.W.nsIn K mainGlobals "reversed" = some none)
    (z_set : PySem.W.nsIn K mainGlobals "set" = some none)
    (z_sorted : PySem.W.nsIn K mainGlobals "sorted" = some none)
    : ∃ t:Tx K mg, t.f_law = f_law :=
  ⟨⟨f__law_cell_at, _, ⟨fun_mk (st := s__law_cell_at) l__law_cell_at c__law_cell_at k__law_cell_at, (fun_mk (st := s__law_cell_at) l__law_cell_at c__law_cell_at k__law_cell_at).binds (ps := P__law_cell_at) fun _ _ _ _ _ _ us hl => match us, hl with | [_, _], _ => rfl, PySem.W.mg_of X G a__law_cell_at⟩,
    f__law_arrow, _, ⟨fun_mk (st := s__law_arrow) l__law_arrow c__law_arrow k__law_arrow, (fun_mk (st := s__law_arrow) l__law_arrow c__law_arrow k__law_arrow).binds (ps := P__law_arrow) fun _ _ _ _ _ _ us hl => match us, hl with | [_, _, _, _], _ => rfl, PySem.W.mg_of X G a__law_arrow⟩,
    f__law_machine, _, ⟨fun_mk (st := s__law_machine) l__law_machine c__law_machine k__law_machine, (fun_mk (st := s__law_machine) l__law_machine c__law_machine k__law_machine).binds (ps := P__law_machine) fun _ _ _ _ _ _ us hl => match us, hl with | [_, _, _], _ => rfl, PySem.W.mg_of X G a__law_machine⟩,
    f_is_plain, _, ⟨fun_mk (st := s_is_plain) l_is_plain c_is_plain k_is_plain, (fun_mk (st := s_is_plain) l_is_plain c_is_plain k_is_plain).binds (ps := P_is_plain) fun _ _ _ _ _ _ us hl => match us, hl with | [_, _], _ => rfl, PySem.W.mg_of X G a_is_plain⟩,
    f__law_any, _, ⟨fun_mk (st := s__law_any) l__law_any c__law_any k__law_any, (fun_mk (st := s__law_any) l__law_any c__law_any k__law_any).binds (ps := P__law_any) fun _ _ _ _ _ _ us hl => match us, hl with | [_, _, _], _ => rfl, PySem.W.mg_of X G a__law_any⟩,
    f__law_along, _, ⟨fun_mk (st := s__law_along) l__law_along c__law_along k__law_along, (fun_mk (st := s__law_along) l__law_along c__law_along k__law_along).binds (ps := P__law_along) fun _ _ _ _ _ _ us hl => match us, hl with | [_, _, _, _], _ => rfl, PySem.W.mg_of X G a__law_along⟩,
    f_arrows_from, _, ⟨fun_mk (st := s_arrows_from) l_arrows_from c_arrows_from k_arrows_from, (fun_mk (st := s_arrows_from) l_arrows_from c_arrows_from k_arrows_from).binds (ps := P_arrows_from) fun _ _ _ _ _ _ us hl => match us, hl with | [_], _ => rfl, PySem.W.mg_of X G a_arrows_from⟩,
    f_marked, _, ⟨fun_mk (st := s_marked) l_marked c_marked k_marked, (fun_mk (st := s_marked) l_marked c_marked k_marked).binds (ps := P_marked) fun _ _ _ _ _ _ us hl => match us, hl with | [_], _ => rfl, PySem.W.mg_of X G a_marked⟩,
    f_along, _, ⟨fun_mk (st := s_along) l_along c_along k_along, (fun_mk (st := s_along) l_along c_along k_along).binds (ps := P_along) fun _ _ _ _ _ _ us hl => match us, hl with | [_, _, _], _ => rfl, PySem.W.mg_of X G a_along⟩,
    f_takes, _, ⟨fun_mk (st := s_takes) l_takes c_takes k_takes, (fun_mk (st := s_takes) l_takes c_takes k_takes).binds (ps := P_takes) fun _ _ _ _ _ _ us hl => match us, hl with | [_, _], _ => rfl, PySem.W.mg_of X G a_takes⟩,
    f__law_due, _, ⟨fun_mk (st := s__law_due) l__law_due c__law_due k__law_due, (fun_mk (st := s__law_due) l__law_due c__law_due k__law_due).binds (ps := P__law_due) fun _ _ _ _ _ _ us hl => match us, hl with | [_, _, _], _ => rfl, PySem.W.mg_of X G a__law_due⟩,
    f_law, _, ⟨fun_mk (st := s_law) l_law c_law k_law, (fun_mk (st := s_law) l_law c_law k_law).binds (ps := P_law) fun _ _ _ _ _ _ us hl => match us, hl with | [_], _ => rfl, PySem.W.mg_of X G a_law⟩,
    PySem.W.mg_none_of X G z_all,
    PySem.W.mg_none_of X G z_any,
    PySem.W.mg_none_of X G z_bool,
    PySem.W.mg_none_of X G z_dict,
    PySem.W.mg_none_of X G z_isinstance,
    PySem.W.mg_none_of X G z_len,
    PySem.W.mg_none_of X G z_list,
    PySem.W.mg_none_of X G z_range,
    PySem.W.mg_none_of X G z_reversed,
    PySem.W.mg_none_of X G z_set,
    PySem.W.mg_none_of X G z_sorted⟩, rfl⟩
theorem all_mk {l : PySem.W.OpenLaw} {w : World} {K : PySem.W.Frag} {mg : Str -> Option Value} {h : Heap} {fa : Addr} (X : K.In h) (G : h.Ns mainGlobals mg) (hfa : mg "law" = some (.ref fa)) (T : ∃ t : Tx K mg, True) :
    ∃ fd : FuncData, (∀ (s : Shared) (v : Value), BindsTo s fd ⟨[v], []⟩ [("_law_script", v)]) /\ ∀ base : Heap, K.In base -> base.Ns mainGlobals mg -> FnOk l.prog w K mg base CX0 4 fa fd ["_law_script"] (spT F_law) := by
  obtain ⟨t, _⟩ := T
  have e := hfa.symm.trans t.h_law.gl
  cases e
  obtain ⟨oc, od, kV, doc, pm, an, cdv, ct, osl, efd, lk, hcd⟩ := t.h_law.fu.ex
  exact ⟨t.fd_law, fun s v => by rw [efd]; exact .of_eq rfl, fun base _ _ => FnOk.top (ok_law t)⟩
end W
namespace W
open PySem L2 L3
theorem cell_at (ns:List Int) (k:Int) (h0:0 <= k) (h1:-18446744073709551616 < k) (h2:k < 18446744073709551616) : F__law_cell_at [.lst (ns.map .int), .int k] = .ok (.val (.int (cell ns k)) true []) := by
  by_cases h:k < ns.length
  · have hd:decide (k < (ns.length:Int)) = true := decide_eq_true h
    obtain ⟨a, ea, _⟩ := atI_in h0 h
    have ha:atI (ns.map D.int) k = some (.int a) := by rw [atI_map, ea]; rfl
    simp_arith [F__law_cell_at, B__law_cell_at, List.length_map, hd, ha, h1, h2]
    unfold cell; rw [if_pos h, ea]; rfl
  · have hd:decide (k < (ns.length:Int)) = false := decide_eq_false h
    simp_arith [F__law_cell_at, B__law_cell_at, List.length_map, hd]
    unfold cell; rw [if_neg h]
theorem cell0 (ns:List Int) : F__law_cell_at [.lst (ns.map .int), .int 0] = .ok (.val (.int (cell ns 0)) true []) := cell_at ns 0 (by decide) (by decide) (by decide)
theorem cell1 (ns:List Int) : F__law_cell_at [.lst (ns.map .int), .int 1] = .ok (.val (.int (cell ns 1)) true []) := cell_at ns 1 (by decide) (by decide) (by decide)
theorem cell2 (ns:List Int) : F__law_cell_at [.lst (ns.map .int), .int 2] = .ok (.val (.int (cell ns 2)) true []) := cell_at ns 2 (by decide) (by decide) (by decide)
theorem cell3 (ns:List Int) : F__law_cell_at [.lst (ns.map .int), .int 3] = .ok (.val (.int (cell ns 3)) true []) := cell_at ns 3 (by decide) (by decide) (by decide)
theorem cell4 (ns:List Int) : F__law_cell_at [.lst (ns.map .int), .int 4] = .ok (.val (.int (cell ns 4)) true []) := cell_at ns 4 (by decide) (by decide) (by decide)
def tD (t:Tri) : D := .tup [.int t.1, .int t.2.1, .int t.2.2]
theorem tD_flat (t:Tri) : (tD t).flat = true := (rfl)
theorem tD_dep (t:Tri) : (tD t).dep <= 1 := Nat.le_refl _
def mkArr (c n g low:Int) : Tri :=
  let c := (c % 2147483587 + 7) * 16807 % 2147483587
  (c % n, c / n % g, low + c / n / g % (n - low))
theorem arrow_ok (c n g low:Int) (h1:0 < n) (h2:n < 1073741824) (h3:0 < g) (h4:g < 1073741824) (h5:0 < n - low) : F__law_arrow [.int c, .int n, .int g, .int low] = .ok (.val (tD (mkArr c n g low)) true []) := by
  simp_arith [F__law_arrow, B__law_arrow, h1, h2, h3, h4, h5]
  rfl
def Mc (n:Int) (ts:List Tri) (es:List Int) : D := .tup [.int n, .lst (ts.map tD), .lst (es.map .int)]
theorem Mc_flat (n:Int) (ts:List Tri) (es:List Int) : (Mc n ts es).flat = false := by unfold Mc; simp only [flat_tup, flats_cons, flat_int, flat_lst, Bool.true_and, Bool.false_and]
def toTri:List Int -> Tri
  | [a, b, c] => (a, b, c)
  | _ => (0, 0, 0)
def triL (t:Tri) : List Int := [t.1, t.2.1, t.2.2]
theorem ins_len (k:List Int) : ∀ l, (insK k l).length <= l.length + 1
  | [] => by simp [insK]
  | h :: t => by
    have := ins_len k t
    unfold insK
    split
    · simp
    · split <;> simp <;> omega
theorem sort_len:∀ ks, (sortK ks).length <= ks.length
  | [] => Nat.le_refl _
  | k :: r => by have h1 := ins_len k (sortK r); have h2 := sort_len r; unfold sortK; simp only [List.length_cons]; omega
def arrsOf (ts:List Tri) : List Tri := (sortK (ts.map triL)).map toTri
theorem arrs_len (ts:List Tri) : (arrsOf ts).length <= ts.length := by
  have := sort_len (ts.map triL); unfold arrsOf; rw [List.length_map]; rw [List.length_map] at this; exact this
theorem arrs_tD (ts:List Tri) : (sortK (ts.map triL)).map tupD = (arrsOf ts).map tD := by
  unfold arrsOf; rw [List.map_map]
  refine List.map_congr_left fun k hk => ?_
  obtain ⟨t, _, rfl⟩ := List.mem_map.mp ((sort_mem k _).mp hk)
  rfl
theorem kss_ok (ts:List Tri) (h:ts.length <= 63) (f:Bool) (al:List Nat) : kSS (.val (.lst (ts.map tD)) f al) = .ok (.new ((arrsOf ts).map tD) true) := by
  have e:(R.val (.lst (ts.map tD)) f al).d = .lst ((ts.map triL).map tupD) := by
    rw [r_d_val, List.map_map]; rfl
  rw [e_kSSd e (by rw [List.length_map]; exact h) (by rw [List.all_map, List.all_eq_true]; intro t _; rfl), arrs_tD]
theorem machine_comp {e0 e3 e6 e7 e8:Option Sl} {rooms signs own low:Int} {g1 g2 g4 g5 fr:Bool} (h1:0 < rooms + own) (h2:rooms + own < 1073741824) (h3:0 < signs) (h4:signs < 1073741824) (h5:0 < rooms + own - low) (xs:List Int) (hl:xs.length <= 1000000) :
    kComp 1 [1, 2, 4, 5] (gN 0) (fun _ => .ok true) E__law_machine_1 [e0, some (.val (.int rooms) g1), some (.val (.int signs) g2), e3, some (.val (.int own) g4), some (.val (.int low) g5), e6, e7, e8] ⟨xs.map .int, fr, []⟩ = .ok (.new ((xs.map fun c => mkArr c (rooms + own) signs low).map tD) true) := by
  have h := compD_map (mk := fun d => gN 0 d fr (envB [e0, some (.val (.int rooms) g1), some (.val (.int signs) g2), e3, some (.val (.int own) g4), some (.val (.int low) g5), e6, e7, e8] 1 [1, 2, 4, 5])) (test := fun _ => .ok true)
    (elt := E__law_machine_1) D.int (fun c => .val (tD (mkArr c (rooms + own) signs low)) true []) xs fun c hc => ⟨_, rfl, rfl, by
      show E__law_machine_1 [some (.val (.int c) fr), some (.val (.int rooms) g1), some (.val (.int signs) g2), some (.val (.int own) g4), some (.val (.int low) g5)] = _
      simp_arith [E__law_machine_1, arrow_ok, h1, h2, h3, h4, h5, tD_flat]⟩
  rw [e_kComp (by rw [List.length_map]; exact hl) h, map_d, rfrs_val, List.map_map]
  rw [e_mkLt (flats_map _ _ fun c => rfl)]
  rfl
def bitOf (bits:Int) (k:Nat) : Bool := Builtin.bitAnd (bits / 2 ^ ((k:Int) % 17).toNat) 1 == 1
def endsOf (bits:Int) (n:Nat) : List Int := ((List.range n).filter (bitOf bits)).map fun k => ((k:Nat) : Int)
theorem ends_len (bits:Int) (n:Nat) : (endsOf bits n).length <= n := by
  unfold endsOf; rw [List.length_map]
  exact Nat.le_trans (List.length_filter_le _ _) (by rw [List.length_range]; exact Nat.le_refl _)
theorem ends_comp {e0 e1 e2 e3 e4 e5 e6 e8:Option Sl} {bits:Int} {g fr:Bool} (n:Nat) (hn:n <= 1000000) :
    kComp 1 [7] (gN 0) T__law_machine_2 E__law_machine_2 [e0, e1, e2, e3, e4, e5, e6, some (.val (.int bits) g), e8] ⟨numsD 0 n, fr, []⟩ = .ok (.new ((endsOf bits n).map .int) true) := by
  have h := compD_filter (mk := fun d => gN 0 d fr (envB [e0, e1, e2, e3, e4, e5, e6, some (.val (.int bits) g), e8] 1 [7])) (test := T__law_machine_2)
    (elt := E__law_machine_2) (fun k:Nat => D.int k) (bitOf bits) (fun k => .val (.int k) true []) (List.range n) fun k hk => ⟨_, rfl, by
      show T__law_machine_2 [some (.val (.int (k:Nat)) fr), some (.val (.int bits) g)] = _
      have hp:(0:Int) <= ((k:Nat) : Int) % 17 := by omega
      simp_arith [T__law_machine_2, hp, e_eq]
      rfl, fun _ => by
      show E__law_machine_2 [some (.val (.int (k:Nat)) fr), some (.val (.int bits) g)] = _
      simp_arith [E__law_machine_2]⟩
  rw [numsD_0, e_kComp (by rw [List.length_map, List.length_range]; exact hn) h, map_d, rfrs_val, e_mkLt (flats_map _ _ fun c => rfl)]
  unfold endsOf; rw [List.map_map]; rfl
theorem cut60 (ns:List Int) : (cutA ns (some 5) (some 65)).length <= 60 := by
  unfold cutA
  have h1:HT.sIx ns.length 0 (some 5) = min 5 ns.length := HT.sIx_nat ns.length 0 5
  have h2:HT.sIx ns.length ns.length (some 65) = min 65 ns.length := HT.sIx_nat ns.length ns.length 65
  rw [h1, h2, List.length_take, List.length_drop]; omega
theorem machine_ok (ns:List Int) (rooms signs:Int) (h1:0 < rooms) (h2:rooms < 1000) (h3:0 < signs) (h4:signs < 1000) :
    ∃ n ts es al, ts.length <= 63 /\ es.length <= 2000 /\ F__law_machine [.lst (ns.map .int), .int rooms, .int signs] = .ok (.val (Mc n ts es) true al) := by
  have hc:cutA (ns.map D.int) (some 5) (some 65) = (cutA ns (some 5) (some 65)).map D.int := cutA_map _ _ _ _
  have h60 := cut60 ns
  have hlen:(cutA ns (some 5) (some 65)).length <= 1000000 := by omega
  have hfl:D.flats (List.map D.int (cutA ns (some 5) (some 65))) = true := flats_ints _
  have hs := cell_ge ns 1
  generalize hS:cell ns 1 = s at hs
  have hkss:∀ (n low:Int) f al, kSS (.val (.lst (((cutA ns (some 5) (some 65)).map fun c => mkArr c n signs low).map tD)) f al) = .ok (.new ((arrsOf ((cutA ns (some 5) (some 65)).map fun c => mkArr c n signs low)).map tD) true) := fun n low f al => kss_ok _ (by rw [List.length_map]; omega) f al
  have hal:∀ n low, (arrsOf ((cutA ns (some 5) (some 65)).map fun c => mkArr c n signs low)).length <= 63 := fun n low => Nat.le_trans (arrs_len _) (by rw [List.length_map]; omega)
  have s3:signs < 1073741824 := by omega
  have key:∀ own low:Int, 0 <= own -> own < 1000 -> 0 < rooms + own - low ->
      ∃ n ts es al, ts.length <= 63 /\ es.length <= 2000 /\ retOf (
    (fSeq (fSet 6 (vComp 1 [1, 2, 4, 5] (sSeq (vSlice (vVar 0) (oSome (vC (.int 5))) (oSome (vC (.int 65))))) (gN 0) (fun _ => .ok true) E__law_machine_1))
    (fSeq (fSet 7 (vCall F__law_cell_at (aCons (vVar 0) (aCons (vC (.int 2)) aNil))))
    (fSeq (fSet 8 (vComp 1 [7] (sR1 (aCons (v2 oAdd (vVar 1) (vVar 4)) aNil)) (gN 0) T__law_machine_2 E__law_machine_2))
    (fRet (vTup (aCons (v2 oAdd (vVar 1) (vVar 4)) (aCons (vSS (vVar 6)) (aCons (vVar 8) aNil)))))))) [some (.val (.lst (ns.map .int)) false), some (.val (.int rooms) false), some (.val (.int signs) false), some (.val (.int s) true), some (.val (.int own) true), some (.val (.int low) true), none, none, none]) = .ok (.val (Mc n ts es) true al) := by
    intro own low ho1 ho2 ho3
    have b1:0 < rooms + own := by omega
    have b2:rooms + own < 1073741824 := by omega
    have m1:-4611686018427387904 <= rooms + own := by omega
    have m2:rooms + own < 4611686018427387904 := by omega
    have hn:(rooms + own).toNat <= 1000000 := by omega
    refine ⟨rooms + own, arrsOf ((cutA ns (some 5) (some 65)).map fun c => mkArr c (rooms + own) signs low), endsOf (cell ns 2) (rooms + own).toNat, ?_, hal _ _, Nat.le_trans (ends_len _ _) (by omega), ?_⟩
    rotate_left
    · simp_arith [cell2, hc, hfl, machine_comp b1 b2 h3 s3 ho3 _ hlen, hkss, ends_comp _ hn, e_kR1, m1, m2, flats_ints]
      rfl
  by_cases c1:s / 5 % 8 = 3
  · have hb:(s / 5 % 8 == 3) = true := by rw [c1]; rfl
    by_cases c2:s / 5 % 2 = 0
    · have hb2:(s / 5 % 2 == 0) = true := by rw [c2]; rfl
      by_cases c3:0 < s / 40 % 41
      · have hb3:decide (0 < s / 40 % 41) = true := decide_eq_true c3
        obtain ⟨n, ts, es, al, p1, p2, p3⟩ := key (s / 40 % 41) rooms (by omega) (by omega) (by omega)
        refine ⟨n, ts, es, al, p1, p2, ?_⟩
        rw [<- p3]
        simp_arith [F__law_machine, B__law_machine, cell1, hS, e_eq, hb, hb2, hb3]
      · have hb3:decide (0 < s / 40 % 41) = false := decide_eq_false c3
        obtain ⟨n, ts, es, al, p1, p2, p3⟩ := key (s / 40 % 41) 0 (by omega) (by omega) (by omega)
        refine ⟨n, ts, es, al, p1, p2, ?_⟩
        rw [<- p3]
        simp_arith [F__law_machine, B__law_machine, cell1, hS, e_eq, hb, hb2, hb3]
    · have hb2:(s / 5 % 2 == 0) = false := by simpa using c2
      obtain ⟨n, ts, es, al, p1, p2, p3⟩ := key (s / 40 % 41) 0 (by omega) (by omega) (by omega)
      refine ⟨n, ts, es, al, p1, p2, ?_⟩
      rw [<- p3]
      simp_arith [F__law_machine, B__law_machine, cell1, hS, e_eq, hb, hb2]
  · have hb:(s / 5 % 8 == 3) = false := by simpa using c1
    by_cases c2:s / 5 % 2 = 0
    · have hb2:(s / 5 % 2 == 0) = true := by rw [c2]; rfl
      by_cases c3:0 < s % 5
      · have hb3:decide (0 < s % 5) = true := decide_eq_true c3
        obtain ⟨n, ts, es, al, p1, p2, p3⟩ := key (s % 5) rooms (by omega) (by omega) (by omega)
        refine ⟨n, ts, es, al, p1, p2, ?_⟩
        rw [<- p3]
        simp_arith [F__law_machine, B__law_machine, cell1, hS, e_eq, hb, hb2, hb3]
      · have hb3:decide (0 < s % 5) = false := decide_eq_false c3
        obtain ⟨n, ts, es, al, p1, p2, p3⟩ := key (s % 5) 0 (by omega) (by omega) (by omega)
        refine ⟨n, ts, es, al, p1, p2, ?_⟩
        rw [<- p3]
        simp_arith [F__law_machine, B__law_machine, cell1, hS, e_eq, hb, hb2, hb3]
    · have hb2:(s / 5 % 2 == 0) = false := by simpa using c2
      obtain ⟨n, ts, es, al, p1, p2, p3⟩ := key (s % 5) 0 (by omega) (by omega) (by omega)
      refine ⟨n, ts, es, al, p1, p2, ?_⟩
      rw [<- p3]
      simp_arith [F__law_machine, B__law_machine, cell1, hS, e_eq, hb, hb2]
end W
namespace W
open PySem L2 L3
theorem flats_tD (ts:List Tri) : D.flats (ts.map tD) = true := flats_map _ _ tD_flat
theorem plain_comp {e1:Option Sl} {rooms:Int} {r1 r2:D} {g fr:Bool} {al:List Nat} (ts:List Tri) (hl:ts.length <= 1000000) :
    kComp 1 [0] (gN 0) (fun _ => .ok true) E_is_plain_1 [some (.val (.tup [.int rooms, r1, r2]) g), e1] ⟨ts.map tD, fr, al⟩ = .ok (.new (ts.map fun t => .bl (decide (rooms <= t.2.2))) true) := by
  have h := compD_map (mk := fun d => gN 0 d fr (envB [some (.val (.tup [.int rooms, r1, r2]) g), e1] 1 [0])) (test := fun _ => .ok true)
    (elt := E_is_plain_1) tD (fun t => .val (.bl (decide (rooms <= t.2.2))) true []) ts fun t hc => ⟨_, rfl, rfl, by
      show E_is_plain_1 [some (.val (tD t) fr), some (.val (.tup [.int rooms, r1, r2]) g)] = _
      unfold tD
      by_cases h1:(D.tup [.int rooms, r1, r2]).flat = true
      · simp_arith [E_is_plain_1, e_mkVt h1]
      · have h1:(D.tup [.int rooms, r1, r2]).flat = false := by simpa using h1
        simp_arith [E_is_plain_1, e_mkVf h1]⟩
  rw [e_kComp (by rw [List.length_map]; exact hl) h, map_d, rfrs_val, e_mkLt (flats_map _ _ fun c => rfl)]
theorem plain_ok (rooms signs n:Int) (ts:List Tri) (es:List Int) (hl:ts.length <= 63) : F_is_plain [.tup [.int rooms, .int signs, .lst []], Mc n ts es] = .ok (.val (.bl (ts.all fun t => decide (rooms <= t.2.2))) true []) := by
  have hl2:ts.length <= 1000000 := by omega
  simp_arith [F_is_plain, B_is_plain, Mc, flats_tD, plain_comp _ hl2, allD_map]
theorem any_loop {signs many:Int} {g0 g2:Bool} (h3:0 < signs) (h4:signs < 1073741824) : ∀ (n k:Nat) (x:Int) (acc:List Int) (e4:Option Sl) (g1:Bool), k + n < 1000 -> acc.length = k ->
    ∃ x' g' e4' out, forD (gN 4) true L__law_any_1 ((List.range' k n).map fun i => .int (i:Nat)) [some (.val (.int many) g0), some (.val (.int x) g1), some (.val (.int signs) g2), some (.own (acc.map .int) true), e4]
      = .ok (.nx [some (.val (.int many) g0), some (.val (.int x') g'), some (.val (.int signs) g2), some (.own (List.map .int out) true), e4']) /\ out.length <= k + n
  | 0, k, x, acc, e4, g1, _, ha => ⟨x, g1, e4, acc, by simp [forD], by omega⟩
  | n + 1, k, x, acc, e4, g1, hk, ha => by
    obtain ⟨x', g', e4', out, ih, ho⟩ := any_loop h3 h4 (many := many) (g0 := g0) (g2 := g2) n (k + 1) ((x * 69621 + k * k + 5) % 2147483629) (acc ++ [(x * 69621 + k * k + 5) % 2147483629 / 11 % signs]) (some (.val (.int (k:Nat)) true)) true (by omega) (by simp [ha])
    refine ⟨x', g', e4', out, ?_, by omega⟩
    rw [List.range'_succ, List.map_cons]
    rw [e_forC (e_gN (by simp))]
    generalize hz:((k:Nat) : Int) = z
    have k1:-18446744073709551616 < z := by omega
    have k2:z < 18446744073709551616 := by omega
    have hlen:(acc.map D.int).length < 1000000 := by rw [List.length_map]; omega
    rw [hz] at ih
    simp_arith [L__law_any_1, k1, k2, h3, h4, e_kApp, hlen]
    rw [<- ih, List.map_append]
    simp_arith
theorem any_ok (many x signs:Int) (h1:0 <= many) (h2:many < 100) (h3:0 < signs) (h4:signs < 1073741824) : ∃ st:List Int, st.length <= 100 /\ F__law_any [.int many, .int x, .int signs] = .ok (.val (.lst (st.map .int)) true [3]) := by
  have m1:-4611686018427387904 <= many := by omega
  have m2:many < 4611686018427387904 := by omega
  have hr:numsD 0 many.toNat = (List.range' 0 many.toNat).map fun i => .int (i:Nat) := by rw [numsD_0, List.range_eq_range']
  obtain ⟨x', g', e', out, lp, ho⟩ := any_loop (signs := signs) (many := many) (g0 := false) (g2 := false) h3 h4 many.toNat 0 x [] none false (by omega) rfl
  refine ⟨out, by omega, ?_⟩
  simp_arith [F__law_any, B__law_any, e_kR1, m1, m2, hr]
  simp_arith at lp
  simp_arith [lp]
theorem ways_comp {e0 e1 e2 e3 e5 e6 e7 e8:Option Sl} {state:Int} {g fr:Bool} {al:List Nat} (ts:List Tri) (hl:ts.length <= 1000000) :
    kComp 1 [4] (gN 0) T__law_along_1 E__law_along_1 [e0, e1, e2, e3, some (.val (.int state) g), e5, e6, e7, e8] ⟨ts.map tD, fr, al⟩ = .ok (.new ((ts.filter fun t => t.1 == state).map tD) true) := by
  have h := compD_filter (mk := fun d => gN 0 d fr (envB [e0, e1, e2, e3, some (.val (.int state) g), e5, e6, e7, e8] 1 [4])) (test := T__law_along_1)
    (elt := E__law_along_1) tD (fun t => t.1 == state) (fun t => .val (tD t) true []) ts fun t hk => ⟨_, rfl, by
      show T__law_along_1 [some (.val (tD t) fr), some (.val (.int state) g)] = _
      unfold tD
      simp_arith [T__law_along_1, e_eq], fun _ => by
      show E__law_along_1 [some (.val (tD t) fr), some (.val (.int state) g)] = _
      unfold tD
      simp_arith [E__law_along_1]⟩
  rw [e_kComp (by rw [List.length_map]; exact hl) h, map_d, rfrs_val, e_mkLt (flats_map _ _ tD_flat)]
theorem along_loop {n0 room many:Int} {ts:List Tri} {es:List Int} {g0 g1 g2:Bool} (hl:ts.length <= 63) : ∀ (n k:Nat) (x state:Int) (acc:List Int) (e6 e7 e8:Option Sl) (g3 g4:Bool), k + n < 1000 -> acc.length <= k ->
    ∃ e3' e4' e6' e7' e8' out, forD (gN 6) true L__law_along_1 ((List.range' k n).map fun i => .int (i:Nat)) [some (.val (Mc n0 ts es) g0), some (.val (.int room) g1), some (.val (.int many) g2), some (.val (.int x) g3), some (.val (.int state) g4), some (.own (acc.map .int) true), e6, e7, e8]
      = .ok (.nx [some (.val (Mc n0 ts es) g0), some (.val (.int room) g1), some (.val (.int many) g2), e3', e4', some (.own (List.map .int out) true), e6', e7', e8']) /\ out.length <= k + n
  | 0, k, x, state, acc, e6, e7, e8, g3, g4, _, ha => ⟨_, _, e6, e7, e8, acc, by simp [forD]; exact ⟨rfl, rfl⟩, by omega⟩
  | n + 1, k, x, state, acc, e6, e7, e8, g3, g4, hk, ha => by
    have hl2:ts.length <= 1000000 := by omega
    have hlen:(acc.map D.int).length < 1000000 := by rw [List.length_map]; omega
    have hlen':acc.length < 1000000 := by omega
    generalize hw:(ts.filter fun t => t.1 == state) = w
    have hwl:w.length <= 63 := by rw [<- hw]; exact Nat.le_trans (List.length_filter_le _ _) hl
    rw [List.range'_succ, List.map_cons]
    rw [e_forC (e_gN (by simp))]
    generalize hz:((k:Nat) : Int) = z
    have k1:-18446744073709551616 < z := by omega
    have k2:z < 18446744073709551616 := by omega
    generalize hy:(x * 48271 + z * z + 11) % 2147483647 = y
    by_cases hp:0 < w.length
    · have hd:decide ((0:Int) < ((w.length:Nat) : Int)) = true := decide_eq_true (by omega)
      have q1:(0:Int) < ((w.length:Nat) : Int) := by omega
      have q2 := Int.emod_nonneg (y / 7) (b := (w.length:Int)) (by omega)
      have q3 := Int.emod_lt_of_pos (y / 7) q1
      obtain ⟨t, et, _⟩ := atI_in (xs := w) q2 q3
      have et2:atI (w.map tD) (y / 7 % ((w.length:Nat) : Int)) = some (.tup [.int t.1, .int t.2.1, .int t.2.2]) := by rw [atI_map, et]; rfl
      obtain ⟨e3', e4', e6', e7', e8', out, ih, ho⟩ := along_loop hl (n0 := n0) (room := room) (many := many) (es := es) (g0 := g0) (g1 := g1) (g2 := g2) n (k + 1) y t.2.2 (acc ++ [t.2.1]) (some (.val (.int (k:Nat)) true)) (some (.own (w.map tD) true)) (some (.val (tD t) true)) true true (by omega) (by simp; omega)
      refine ⟨e3', e4', e6', e7', e8', out, ?_, by omega⟩
      rw [hz] at ih
      simp_arith [L__law_along_1, k1, k2, hy, Mc, flats_tD, Mc_flat, ways_comp _ hl2, hw, List.length_map, hd, q1, et2, e_kApp, hlen']
      rw [List.map_append] at ih
      simp_arith [Mc, tD] at ih
      exact ih
    · have hd:decide ((0:Int) < ((w.length:Nat) : Int)) = false := decide_eq_false (by omega)
      obtain ⟨e3', e4', e6', e7', e8', out, ih, ho⟩ := along_loop hl (n0 := n0) (room := room) (many := many) (es := es) (g0 := g0) (g1 := g1) (g2 := g2) n (k + 1) y state acc (some (.val (.int (k:Nat)) true)) (some (.own (w.map tD) true)) e8 true g4 (by omega) (by omega)
      refine ⟨e3', e4', e6', e7', e8', out, ?_, by omega⟩
      rw [hz] at ih
      simp_arith [L__law_along_1, k1, k2, hy, Mc, flats_tD, Mc_flat, ways_comp _ hl2, hw, List.length_map, hd]
      unfold Mc at ih
      exact ih
theorem along_stack (n0 room many x:Int) (ts:List Tri) (es:List Int) (hl:ts.length <= 63) (h1:0 <= many) (h2:many < 100) : ∃ st:List Int, st.length <= 100 /\ F__law_along [Mc n0 ts es, .int room, .int many, .int x] = .ok (.val (.lst (st.map .int)) true [5]) := by
  have m1:-4611686018427387904 <= many := by omega
  have m2:many < 4611686018427387904 := by omega
  have hr:numsD 0 many.toNat = (List.range' 0 many.toNat).map fun i => .int (i:Nat) := by rw [numsD_0, List.range_eq_range']
  obtain ⟨e3', e4', e6', e7', e8', out, lp, ho⟩ := along_loop (n0 := n0) (room := room) (many := many) (es := es) (g0 := false) (g1 := false) (g2 := false) hl many.toNat 0 x room [] none none none false true (by omega) (Nat.le_refl _)
  refine ⟨out, by omega, ?_⟩
  simp_arith [F__law_along, B__law_along, e_kR1, m1, m2, hr]
  simp_arith at lp
  simp_arith [lp]
end W
namespace W
open PySem L2 L3
def Path (ts:List Tri) : Int -> List Int -> Int -> Prop
  | s, [], e => s = e
  | s, c :: st, e => ∃ m, (s, c, m) ∈ ts /\ Path ts m st e
def stepF (ts:List Tri) (ks:List Int) (sign:Int) : List Int := ks.foldl (fun acc s => (ddup (g3 ts s sign)).foldl dd acc) []
theorem g3_mem (ts:List Tri) (x y z:Int) : z ∈ g3 ts x y ↔ (x, y, z) ∈ ts := by
  unfold g3
  rw [List.mem_map]
  constructor
  · rintro ⟨⟨a, b, c⟩, h, rfl⟩
    rw [List.mem_filter, Bool.and_eq_true, decide_eq_true_iff, decide_eq_true_iff] at h
    obtain ⟨h1, h2, h3⟩ := h
    dsimp only at h2 h3 ⊢
    rw [<- h2, <- h3]; exact h1
  · intro h
    exact ⟨(x, y, z), List.mem_filter.mpr ⟨h, by simp⟩, rfl⟩
theorem fwd1_mem (ts:List Tri) (sign x:Int) : ∀ (ks acc:List Int), x ∈ ks.foldl (fun acc s => (ddup (g3 ts s sign)).foldl dd acc) acc ↔ x ∈ acc \/ ∃ s ∈ ks, (s, sign, x) ∈ ts
  | [], acc => by simp
  | s :: r, acc => by
    rw [List.foldl_cons, fwd1_mem ts sign x r]
    rw [ddup_mem]
    have:x ∈ ddup (g3 ts s sign) ↔ (s, sign, x) ∈ ts := by
      unfold ddup; rw [ddup_mem, g3_mem]; simp
    rw [this]
    constructor
    · rintro ((h | h) | ⟨q, h1, h2⟩)
      · exact .inl h
      · exact .inr ⟨s, by simp, h⟩
      · exact .inr ⟨q, by simp [h1], h2⟩
    · rintro (h | ⟨q, h1, h2⟩)
      · exact .inl (.inl h)
      · rcases List.mem_cons.mp h1 with rfl | h1
        · exact .inl (.inr h2)
        · exact .inr ⟨q, h1, h2⟩
theorem stepF_mem (ts:List Tri) (ks:List Int) (sign x:Int) : x ∈ stepF ts ks sign ↔ ∃ s ∈ ks, (s, sign, x) ∈ ts := by
  unfold stepF; rw [fwd1_mem]; simp
theorem fwd_mem (ts:List Tri) (x:Int) : ∀ (st ks:List Int), x ∈ st.foldl (stepF ts) ks ↔ ∃ s ∈ ks, Path ts s st x
  | [], ks => by simp [Path]
  | c :: r, ks => by
    rw [List.foldl_cons, fwd_mem ts x r]
    constructor
    · rintro ⟨m, h1, h2⟩
      obtain ⟨s, h3, h4⟩ := (stepF_mem _ _ _ _).mp h1
      exact ⟨s, h3, m, h4, h2⟩
    · rintro ⟨s, h3, m, h4, h2⟩
      exact ⟨m, (stepF_mem _ _ _ _).mpr ⟨s, h3, h4⟩, h2⟩
def stepB (ts:List Tri) (good:List Int) (sign:Int) (acc:List Int) : List Int := ts.foldl (fun acc t => if (t.2.1 == sign && decide (t.2.2 ∈ good)) = true then dd acc t.1 else acc) acc
theorem stepB_mem (good:List Int) (sign x:Int) : ∀ (ts:List Tri) (acc:List Int), x ∈ stepB ts good sign acc ↔ x ∈ acc \/ ∃ m ∈ good, (x, sign, m) ∈ ts
  | [], acc => by simp [stepB]
  | t :: r, acc => by
    have ih := stepB_mem good sign x r
    unfold stepB at ih ⊢
    rw [List.foldl_cons, ih]
    by_cases h:(t.2.1 == sign && decide (t.2.2 ∈ good)) = true
    · rw [if_pos h, dd_mem]
      rw [Bool.and_eq_true, decide_eq_true_iff, beq_iff_eq] at h
      constructor
      · rintro ((h1 | h1) | ⟨m, h1, h2⟩)
        · exact .inl h1
        · exact .inr ⟨t.2.2, h.2, by rw [h1, <- h.1]; simp⟩
        · exact .inr ⟨m, h1, by simp [h2]⟩
      · rintro (h1 | ⟨m, h1, h2⟩)
        · exact .inl (.inl h1)
        · rcases List.mem_cons.mp h2 with e | h2
          · exact .inl (.inr (by rw [<- e]))
          · exact .inr ⟨m, h1, h2⟩
    · rw [if_neg h]
      rw [Bool.and_eq_true, decide_eq_true_iff, beq_iff_eq] at h
      constructor
      · rintro (h1 | ⟨m, h1, h2⟩)
        · exact .inl h1
        · exact .inr ⟨m, h1, by simp [h2]⟩
      · rintro (h1 | ⟨m, h1, h2⟩)
        · exact .inl h1
        · rcases List.mem_cons.mp h2 with e | h2
          · exact absurd (show t.2.1 = sign /\ t.2.2 ∈ good by rw [<- e]; exact ⟨rfl, h1⟩) h
          · exact .inr ⟨m, h1, h2⟩
def bwd (ts:List Tri) (rs good:List Int) : List Int := rs.foldl (fun g c => stepB ts g c []) good
theorem bwd_mem (ts:List Tri) (good:List Int) : ∀ (st:List Int) (x:Int), x ∈ bwd ts st.reverse good ↔ ∃ e ∈ good, Path ts x st e
  | [], x => by simp [bwd, Path]
  | c :: r, x => by
    have ih := bwd_mem ts good r
    unfold bwd at ih ⊢
    rw [List.reverse_cons, List.foldl_append]
    show x ∈ stepB ts (List.foldl (fun g c => stepB ts g c []) good r.reverse) c [] ↔ _
    rw [stepB_mem]
    constructor
    · rintro (h | ⟨m, h1, h2⟩)
      · cases h
      · obtain ⟨e, h3, h4⟩ := (ih m).mp h1
        exact ⟨e, h3, m, h2, h4⟩
    · rintro ⟨e, h3, m, h2, h4⟩
      exact .inr ⟨m, (ih m).mpr ⟨e, h3, h4⟩, h2⟩
def takesB (ts:List Tri) (es st:List Int) (room:Int) : Bool := decide (room ∈ bwd ts st.reverse (ddup es))
theorem takes_eq (ts:List Tri) (es st:List Int) (room:Int) : (es.any fun e => decide (e ∈ st.foldl (stepF ts) [room])) = takesB ts es st room := by
  unfold takesB
  rw [Bool.eq_iff_iff, List.any_eq_true, decide_eq_true_iff, bwd_mem]
  constructor
  · rintro ⟨e, h1, h2⟩
    obtain ⟨s, h3, h4⟩ := (fwd_mem ts e st [room]).mp (of_decide_eq_true h2)
    rw [List.mem_singleton] at h3
    exact ⟨e, by unfold ddup; rw [ddup_mem]; exact .inr h1, h3 ▸ h4⟩
  · rintro ⟨e, h1, h2⟩
    unfold ddup at h1; rw [ddup_mem] at h1
    rcases h1 with h1 | h1
    · cases h1
    · exact ⟨e, h1, decide_eq_true ((fwd_mem ts e st [room]).mpr ⟨room, by simp, h2⟩)⟩
theorem len_sub:∀ (l m:List Int), l.Nodup -> (∀ x ∈ l, x ∈ m) -> l.length <= m.length
  | [], m, _, _ => Nat.zero_le _
  | a :: r, m, hn, hs => by
    have hn' := List.nodup_cons.mp hn
    have ha:a ∈ m := hs a (by simp)
    have h := len_sub r (m.erase a) hn'.2 fun x hx => by
      have hne:x ≠ a := fun e => hn'.1 (e ▸ hx)
      exact (List.mem_erase_of_ne hne).mpr (hs x (by simp [hx]))
    have h2 := List.length_erase_of_mem ha
    have h3:0 < m.length := List.length_pos_of_mem ha
    simp only [List.length_cons]; omega
theorem dd_nodup {l:List Int} {x:Int} (h:l.Nodup) : (dd l x).Nodup := by
  unfold dd
  split
  · exact h
  · rename_i hx
    rw [List.nodup_append]
    refine ⟨h, by simp, ?_⟩
    intro a ha b hb e
    rw [List.mem_singleton] at hb
    exact hx (by rw [<- hb, <- e]; exact ha)
theorem ddl_nodup:∀ (xs l:List Int), l.Nodup -> (xs.foldl dd l).Nodup
  | [], l, h => h
  | x :: r, l, h => ddl_nodup r (dd l x) (dd_nodup h)
theorem g3_len (ts:List Tri) (x y:Int) : (g3 ts x y).length <= ts.length := by
  unfold g3; rw [List.length_map]; exact List.length_filter_le _ _
theorem ddup_len (xs:List Int) : (ddup xs).length <= xs.length := by
  have := ddl_len xs []; unfold ddup; simpa using this
theorem bD_flat (ks:List Int) : (bD ks).flat = false := (rfl)
theorem grpD_flat (ts:List Tri) : (grpD ts).flat = false := (rfl)
theorem grp_ok (n:Int) (ts:List Tri) (es:List Int) (hl:ts.length <= 63) : F_arrows_from [Mc n ts es] = .ok (.val (grpD ts) true [1]) := by
  have hg:∀ (e0 e1 e2 e3 e4:Option Sl) (f:Bool), kGrp 1 2 3 4 [e0, e1, e2, e3, e4] (.val (.lst (ts.map tD)) f []) = .ok (.nx [e0, some (.tre (grpD ts)), none, none, none]) := by
    intro e0 e1 e2 e3 e4 f
    unfold kGrp; rw [r_d_val]; dsimp only
    rw [show trisD (ts.map tD) = some ts from trisD_map ts]; dsimp only
    rw [if_pos (by refine ⟨by omega, ?_⟩; simp)]
    rfl
  simp_arith [F_arrows_from, B_arrows_from, Mc, hg]
theorem marked_ok (xs:List Int) (hl:xs.length <= 1000) : F_marked [.lst (xs.map .int)] = .ok (.fre (bD (ddup xs))) := by
  have hl2:xs.length <= 1000000 := by omega
  have hc:∀ (e0:Option Sl) (fr:Bool), kComp 1 [] (gN 0) (fun _ => .ok true) E_marked_1 [e0] ⟨xs.map .int, fr, []⟩ = .ok (.new (xs.map fun x => .tup [.int x, .bl true]) true) := by
    intro e0 fr
    have h := compD_map (mk := fun d => gN 0 d fr (envB [e0] 1 [])) (test := fun _ => .ok true)
      (elt := E_marked_1) D.int (fun x => .val (.tup [.int x, .bl true]) true []) xs fun x hc => ⟨_, rfl, rfl, by
        show E_marked_1 [some (.val (.int x) fr)] = _
        simp_arith [E_marked_1]⟩
    rw [e_kComp (by rw [List.length_map]; exact hl2) h, map_d, rfrs_val, e_mkLt (flats_map _ _ fun c => rfl)]
  have hd:∀ f, kDict2 [.new (xs.map fun x => .tup [.int x, .bl true]) f] = .ok (.fre (bD (ddup xs))) := fun f => e_dict2b rfl
  simp_arith [F_marked, B_marked, hc, hd]
theorem kG3_ik {ra rz:R} {ks:List Int} {g:Int -> D} {x:Int} {f:Bool} {al:List Nat} : kG3 ra (ks.map ik) (ks.map g) (.val (.int x) f al) rz = .ok (if x ∈ ks then mkV (g x) ra.fr ra.al else mkV rz.d rz.fr rz.al) := by
  unfold kG3; rw [r_d_val]; dsimp only [keyX]
  rw [if_pos (all_kin x ks), getD_ik]
  by_cases h:x ∈ ks
  · rw [if_pos h, if_pos h]
  · rw [if_neg h, if_neg h]
theorem kG1_ik {fk fx:En -> Res R} {env:En} {ra rz:R} {ks:List Int} {g:Int -> D} {x:Int} {f:Bool} {al:List Nat} (h:ra.d = .dic (ks.map ik) (ks.map g)) (hk:fk env = .ok (.val (.int x) f al)) (hx:fx env = .ok rz) :
    kG1 fk fx env ra = .ok (if x ∈ ks then mkV (g x) ra.fr ra.al else mkV rz.d rz.fr rz.al) := by
  rw [e_kG1 h, hk, b_ok, e_kG2, hx, b_ok, kG3_ik]
theorem get_ok {ts:List Tri} {sign s:Int} {f0 f2 f4:Bool} {e1 e3:Option Sl} : ∃ r, vGet2 (vGet2 (vVar 0) (vVar 4) (fun _ => .ok (.fre (.dic [] [])))) (vVar 2) (vLst aNil) [some (.val (grpD ts) f0), e1, some (.val (.int sign) f2), e3, some (.val (.int s) f4)] = .ok r /\ r.d = .lst ((g3 ts s sign).map .int) := by
  have h2:vVar 2 [some (.val (grpD ts) f0), e1, some (.val (.int sign) f2), e3, some (.val (.int s) f4)] = .ok (.val (.int sign) true []) := by simp_arith
  have h4:vVar 4 [some (.val (grpD ts) f0), e1, some (.val (.int sign) f2), e3, some (.val (.int s) f4)] = .ok (.val (.int s) true []) := by simp_arith
  have h0:vVar 0 [some (.val (grpD ts) f0), e1, some (.val (.int sign) f2), e3, some (.val (.int s) f4)] = .ok (.val (grpD ts) f0 []) := by simp_arith [grpD_flat]
  have hz:vLst aNil [some (.val (grpD ts) f0), e1, some (.val (.int sign) f2), e3, some (.val (.int s) f4)] = .ok (.new [] true) := by simp_arith
  have hin:vGet2 (vVar 0) (vVar 4) (fun _ => .ok (.fre (.dic [] []))) [some (.val (grpD ts) f0), e1, some (.val (.int sign) f2), e3, some (.val (.int s) f4)] = .ok (if s ∈ g1 ts then mkV (grpI ts s) f0 [] else mkV (.dic [] []) true []) := by
    rw [e_get2, h0, b_ok, kG1_ik (ks := g1 ts) (g := grpI ts) rfl h4 rfl]; rfl
  by_cases c1:s ∈ g1 ts
  · rw [if_pos c1] at hin
    refine ⟨_, by rw [e_get2, hin, b_ok, kG1_ik (ks := g2 ts s) (g := fun y => .lst ((g3 ts s y).map .int)) (by rw [mkV_d]; rfl) h2 hz], ?_⟩
    by_cases c2:sign ∈ g2 ts s
    · rw [if_pos c2, mkV_d]
    · rw [if_neg c2, mkV_d]
      have:g3 ts s sign = [] := by
        rw [List.eq_nil_iff_forall_not_mem]
        intro z hzz
        exact c2 ((g2_mem ts s sign).mpr ⟨_, (g3_mem _ _ _ _).mp hzz, rfl, rfl⟩)
      rw [this]; rfl
  · rw [if_neg c1] at hin
    refine ⟨_, by rw [e_get2, hin, b_ok, kG1_ik (ks := []) (g := fun _ => .non) (by rw [mkV_d]; rfl) h2 hz], ?_⟩
    rw [if_neg (by simp), mkV_d]
    have:g3 ts s sign = [] := by
      rw [List.eq_nil_iff_forall_not_mem]
      intro z hzz
      exact c1 ((g1_mem ts s).mpr ⟨_, (g3_mem _ _ _ _).mp hzz, rfl⟩)
    rw [this]; rfl
theorem upd_ok {env:En} {acc zs:List Int} (i:Nat) (h:acc.length + zs.length <= 1000000) : kUpd i env (acc.map ik) (acc.map fun _ => .bl true) (.fre (bD zs)) = .ok (.nx (env.set i (some (.tre (bD (zs.foldl dd acc)))))) := by
  unfold kUpd; rw [r_d_fre]; unfold bD; dsimp only
  rw [toE_b, toE_b]; dsimp only
  rw [if_pos ⟨by rw [r_al_fre]; simp, flats_map _ _ fun _ => rfl, by unfold bE; rw [List.length_map, List.length_map]; exact h⟩, putsE_bE, dicE_bE]
  rfl
theorem along1_ok {ts:List Tri} (hl:ts.length <= 63) {sign s:Int} {f0 f2 f4:Bool} {e1:Option Sl} {acc:List Int} (ha:acc.length <= 63) :
    L_along_1 [some (.val (grpD ts) f0), e1, some (.val (.int sign) f2), some (.tre (bD acc)), some (.val (.int s) f4)] = .ok (.nx [some (.val (grpD ts) f0), e1, some (.val (.int sign) f2), some (.tre (bD ((ddup (g3 ts s sign)).foldl dd acc))), some (.val (.int s) f4)]) := by
  obtain ⟨r, h1, h2⟩ := get_ok (ts := ts) (sign := sign) (s := s) (f0 := f0) (f2 := f2) (f4 := f4) (e1 := e1) (e3 := some (.tre (bD acc)))
  have hg := g3_len ts s sign
  have hd := ddup_len (g3 ts s sign)
  unfold L_along_1
  rw [e_upd]
  show updAt 3 _ _ (some (some (.tre (.dic (acc.map ik) (acc.map fun _ => .bl true))))) = _
  rw [e_updT, e_call, e_aCons, h1, b_ok, e_kCons, e_aNil, b_ok, e_kCons2, b_ok, e_kCall]
  rw [show [r].map R.d = [r.d] from rfl, h2, marked_ok _ (by omega), b_ok, e_kCall2, b_ok, e_callFre (bD_flat _), upd_ok 3 (by omega)]
  rfl
theorem along_loopZ {ts:List Tri} (hl:ts.length <= 63) {sign:Int} {f0 f2:Bool} {e1:Option Sl} : ∀ (ks acc:List Int) (e4:Option Sl), acc.Nodup -> (∀ x ∈ acc, x ∈ ts.map (·.2.2)) ->
    ∃ e4', forZ (gN 4) L_along_1 (ks.map .int) [some (.val (grpD ts) f0), e1, some (.val (.int sign) f2), some (.tre (bD acc)), e4] = .ok (.nx [some (.val (grpD ts) f0), e1, some (.val (.int sign) f2), some (.tre (bD (ks.foldl (fun acc s => (ddup (g3 ts s sign)).foldl dd acc) acc))), e4'])
  | [], acc, e4, _, _ => ⟨e4, rfl⟩
  | s :: r, acc, e4, hn, hs => by
    have h63:acc.length <= 63 := Nat.le_trans (len_sub acc _ hn hs) (by rw [List.length_map]; exact hl)
    obtain ⟨e4', ih⟩ := along_loopZ hl (sign := sign) (f0 := f0) (f2 := f2) (e1 := e1) r ((ddup (g3 ts s sign)).foldl dd acc) (some (.val (.int s) true)) (ddl_nodup _ _ hn) fun x hx => by
      rw [ddup_mem] at hx
      rcases hx with hx | hx
      · exact hs x hx
      · unfold ddup at hx; rw [ddup_mem] at hx
        rcases hx with hx | hx
        · cases hx
        · exact List.mem_map.mpr ⟨_, (g3_mem _ _ _ _).mp hx, rfl⟩
    refine ⟨e4', ?_⟩
    rw [List.map_cons]
    unfold forZ
    rw [e_gN (by simp)]; dsimp only [List.set_cons_succ, List.set_cons_zero]
    rw [along1_ok hl h63]; dsimp only
    rw [ih]; rfl
theorem along_ok {ts:List Tri} (hl:ts.length <= 63) (ks:List Int) (sign:Int) : F_along [grpD ts, bD ks, .int sign] = .ok (.val (bD (stepF ts ks sign)) true [3]) := by
  obtain ⟨e4', lp⟩ := along_loopZ hl (sign := sign) (f0 := false) (f2 := false) (e1 := some (.val (bD ks) false)) ks [] none List.nodup_nil (by simp)
  have hx:fForX (vVar 1) (gN 4) L_along_1 [some (.val (grpD ts) false), some (.val (bD ks) false), some (.val (.int sign) false), some (.tre (.dic [] [])), none] = .ok (.nx [some (.val (grpD ts) false), some (.val (bD ks) false), some (.val (.int sign) false), some (.tre (bD (stepF ts ks sign))), e4']) := by
    rw [e_forXD (ks := ks.map ik) (ds := ks.map fun _ => .bl true) (fr := false) (al := []) (by simp_arith [bD_flat]; rfl)]
    unfold kForZ; rw [r_d_val]; dsimp only
    rw [keyL_ik]; dsimp only
    exact lp
  simp_arith [F_along, B_along, hx]
theorem takes_loop {ts:List Tri} (hl:ts.length <= 63) {e0 e1:Option Sl} {fr:Bool} : ∀ (st ks:List Int) (e4:Option Sl),
    ∃ e4', forD (gN 4) fr L_takes_1 (st.map .int) [e0, e1, some (.tre (grpD ts)), some (.tre (bD ks)), e4] = .ok (.nx [e0, e1, some (.tre (grpD ts)), some (.tre (bD (st.foldl (stepF ts) ks))), e4'])
  | [], ks, e4 => ⟨e4, rfl⟩
  | c :: r, ks, e4 => by
    obtain ⟨e4', ih⟩ := takes_loop hl (e0 := e0) (e1 := e1) (fr := fr) r (stepF ts ks c) (some (.val (.int c) fr))
    refine ⟨e4', ?_⟩
    rw [List.map_cons, e_forC (e_gN (by simp))]
    simp_arith [L_takes_1, along_ok hl, bD_flat]
    exact ih
theorem takes_ok (n room:Int) (ts:List Tri) (es st:List Int) (hl:ts.length <= 63) (he:es.length <= 2000) : F_takes [Mc n ts es, .tup [.int room, .lst (st.map .int)]] = .ok (.val (.bl (takesB ts es st room)) true []) := by
  obtain ⟨e4', lp⟩ := takes_loop hl (e0 := some (.val (Mc n ts es) false)) (e1 := some (.val (.tup [.int room, .lst (st.map .int)]) false)) (fr := false) st [room] none
  have hc:∀ (e0 e1 e2 e4:Option Sl) (fr:Bool) (ks:List Int), kComp 1 [3] (gN 0) (fun _ => .ok true) E_takes_1 [e0, e1, e2, some (.tre (bD ks)), e4] ⟨es.map .int, fr, []⟩ = .ok (.new (es.map fun e => .bl (decide (e ∈ ks))) true) := by
    intro e0 e1 e2 e4 fr ks
    have h := compD_map (mk := fun d => gN 0 d fr (envB [e0, e1, e2, some (.tre (bD ks)), e4] 1 [3])) (test := fun _ => .ok true)
      (elt := E_takes_1) D.int (fun e => .val (.bl (decide (e ∈ ks))) true []) es fun x hc => ⟨_, rfl, rfl, by
        show E_takes_1 [some (.val (.int x) fr), some (.val (bD ks) true)] = _
        simp_arith [E_takes_1, bD_flat, e_inB]
        rfl⟩
    rw [e_kComp (by rw [List.length_map]; omega) h, map_d, rfrs_val, e_mkLt (flats_map _ _ fun c => rfl)]
  rw [<- takes_eq]
  have lp':forD (gN 4) false L_takes_1 (st.map .int) [some (.val (.tup [.int n, .lst (ts.map tD), .lst (es.map .int)]) false), some (.val (.tup [.int room, .lst (st.map .int)]) false), some (.tre (grpD ts)), some (.tre (.dic [ik room] [.bl true])), none] = .ok (.nx [some (.val (.tup [.int n, .lst (ts.map tD), .lst (es.map .int)]) false), some (.val (.tup [.int room, .lst (st.map .int)]) false), some (.tre (grpD ts)), some (.tre (bD (st.foldl (stepF ts) [room]))), e4']) := lp
  have hgo:F_arrows_from [.tup [.int n, .lst (ts.map tD), .lst (es.map .int)]] = .ok (.val (grpD ts) true [1]) := grp_ok n ts es hl
  simp_arith [F_takes, B_takes, Mc, hgo, grpD_flat, lp', hc, anyD_map]
end W
namespace W
open PySem L2 L3
theorem setB {i:Nat} {env:En} {ks:List Int} {x:Int} {fk:En -> Res R} {g:Bool} (h:env[i]? = some (some (.tre (bD ks)))) (hk:fk env = .ok (.val (.int x) g [])) (hl:ks.length < 1000000) : fSetX i fk (vC (.bl true)) env = .ok (.nx (env.set i (some (.tre (bD (dd ks x)))))) := by
  rw [e_setX, h]
  show setAtX i fk _ env (some (some (.tre (.dic (ks.map ik) (ks.map fun _ => .bl true))))) = _
  rw [e_setXD, e_putD, h]
  show putAt i fk _ env (some (some (.tre (.dic (ks.map ik) (ks.map fun _ => .bl true))))) = _
  rw [e_putAt, e_c, b_ok, e_kPut1 rfl, hk, b_ok, e_kPut2 (x := .inl (.inl x)) rfl (all_kin x ks) (by rw [List.length_map]; exact hl), r_d_val, dicPut_b]
theorem due_loop1 {e0 e1 e2 e5 e6 e7:Option Sl} {fr:Bool} : ∀ (es ks:List Int) (e4:Option Sl), ks.length + es.length < 1000000 ->
    ∃ e4', forD (gN 4) fr L__law_due_1 (es.map .int) [e0, e1, e2, some (.tre (bD ks)), e4, e5, e6, e7] = .ok (.nx [e0, e1, e2, some (.tre (bD (es.foldl dd ks))), e4', e5, e6, e7])
  | [], ks, e4, _ => ⟨e4, rfl⟩
  | x :: r, ks, e4, hl => by
    have hd := dd_len ks x
    simp only [List.length_cons] at hl
    obtain ⟨e4', ih⟩ := due_loop1 (e0 := e0) (e1 := e1) (e2 := e2) (e5 := e5) (e6 := e6) (e7 := e7) (fr := fr) r (dd ks x) (some (.val (.int x) fr)) (by omega)
    refine ⟨e4', ?_⟩
    rw [List.map_cons, e_forC (e_gN (by simp))]
    dsimp only [List.set_cons_succ, List.set_cons_zero]
    unfold L__law_due_1
    rw [setB (ks := ks) (x := x) (g := true) rfl (by simp_arith) (by omega), b_ok, e_forNx]
    exact ih
theorem due_loop2 {e0 e1 e2 e4:Option Sl} {sl:Sl} {good:List Int} {sign:Int} {g5 fr:Bool} {al:List Nat} (hv:vAt 3 (some (some sl)) = .ok (.val (bD good) true al)) : ∀ (ts:List Tri) (acc:List Int) (e7:Option Sl), acc.length + ts.length < 1000000 ->
    ∃ e7', forD (gN 7) fr L__law_due_2 (ts.map tD) [e0, e1, e2, some sl, e4, some (.val (.int sign) g5), some (.tre (bD acc)), e7] = .ok (.nx [e0, e1, e2, some sl, e4, some (.val (.int sign) g5), some (.tre (bD (stepB ts good sign acc))), e7'])
  | [], acc, e7, _ => ⟨e7, rfl⟩
  | t :: r, acc, e7, hl => by
    have hd := dd_len acc t.1
    simp only [List.length_cons] at hl
    rw [List.map_cons, e_forC (e_gN (by simp))]
    dsimp only [List.set_cons_succ, List.set_cons_zero]
    have hc:(bAnd (vB (v2 oEq (vIxX 7 (vC (.int 1))) (vVar 5))) (vB (v2 oInX (vIxX 7 (vC (.int 2))) (vVar 3)))) [e0, e1, e2, some sl, e4, some (.val (.int sign) g5), some (.tre (bD acc)), some (.val (tD t) fr)] = .ok (t.2.1 == sign && decide (t.2.2 ∈ good)) := by
      unfold tD
      cases hq:(t.2.1 == sign) with
      | true => simp_arith [e_eq, hq, hv, e_inB]; rfl
      | false => simp_arith [e_eq, hq]
    unfold L__law_due_2
    rw [e_if, hc, b_ok]
    by_cases h:(t.2.1 == sign && decide (t.2.2 ∈ good)) = true
    · obtain ⟨e7', ih⟩ := due_loop2 (e0 := e0) (e1 := e1) (e2 := e2) (e4 := e4) (sign := sign) (g5 := g5) (fr := fr) hv r (dd acc t.1) (some (.val (tD t) fr)) (by omega)
      refine ⟨e7', ?_⟩
      rw [h, e_ifT, setB (ks := acc) (x := t.1) (g := true) rfl (by unfold tD; simp_arith) (by omega), b_ok, e_forNx]
      unfold stepB at ih ⊢
      rw [List.foldl_cons, if_pos h]
      exact ih
    · obtain ⟨e7', ih⟩ := due_loop2 (e0 := e0) (e1 := e1) (e2 := e2) (e4 := e4) (sign := sign) (g5 := g5) (fr := fr) hv r acc (some (.val (tD t) fr)) (by omega)
      refine ⟨e7', ?_⟩
      rw [show (t.2.1 == sign && decide (t.2.2 ∈ good)) = false by simpa using h, e_ifF, e_nil, b_ok, e_forNx]
      unfold stepB at ih ⊢
      rw [List.foldl_cons, if_neg h]
      exact ih
theorem due_loop3 {n:Int} {ts:List Tri} {es:List Int} (hl:ts.length <= 63) {e1 e2 e4:Option Sl} {g0 fr:Bool} : ∀ (rs good:List Int) (sl:Sl) (al:List Nat) (e5 e6 e7:Option Sl), vAt 3 (some (some sl)) = .ok (.val (bD good) true al) ->
    ∃ sl' al' e5' e6' e7', forD (gN 5) fr L__law_due_3 (rs.map .int) [some (.val (Mc n ts es) g0), e1, e2, some sl, e4, e5, e6, e7] = .ok (.nx [some (.val (Mc n ts es) g0), e1, e2, some sl', e4, e5', e6', e7']) /\ vAt 3 (some (some sl')) = .ok (.val (bD (bwd ts rs good)) true al')
  | [], good, sl, al, e5, e6, e7, hv => ⟨sl, al, e5, e6, e7, rfl, hv⟩
  | c :: r, good, sl, al, e5, e6, e7, hv => by
    obtain ⟨e7', lp⟩ := due_loop2 (e0 := some (.val (Mc n ts es) g0)) (e1 := e1) (e2 := e2) (e4 := e4) (sign := c) (g5 := fr) (fr := g0) hv ts [] e7 (by simp; omega)
    obtain ⟨sl', al', e5', e6', e7'', ih, hv'⟩ := due_loop3 (n := n) (es := es) hl (e1 := e1) (e2 := e2) (e4 := e4) (g0 := g0) (fr := fr) r (stepB ts good c []) (.val (bD (stepB ts good c [])) true) [] (some (.val (.int c) fr)) (some (.val (bD (stepB ts good c [])) true)) e7' (by rw [e_atV, e_mkVf (bD_flat _)])
    refine ⟨sl', al', e5', e6', e7'', ?_, hv'⟩
    rw [List.map_cons, e_forC (e_gN (by simp))]
    dsimp only [List.set_cons_succ, List.set_cons_zero]
    have lp':forD (gN 7) g0 L__law_due_2 (ts.map tD) [some (.val (.tup [.int n, .lst (ts.map tD), .lst (es.map .int)]) g0), e1, e2, some sl, e4, some (.val (.int c) fr), some (.tre (.dic [] [])), e7] = .ok (.nx [some (.val (.tup [.int n, .lst (ts.map tD), .lst (es.map .int)]) g0), e1, e2, some sl, e4, some (.val (.int c) fr), some (.tre (bD (stepB ts good c []))), e7']) := lp
    simp_arith [L__law_due_3, Mc, lp', e_putA, e_frzC, e_frz1, e_frzT]
    exact ih
theorem due_ok (n room:Int) (ts:List Tri) (es st:List Int) (hl:ts.length <= 63) (he:es.length <= 2000) : F__law_due [Mc n ts es, .int room, .lst (st.map .int)] = .ok (.val (.bl (takesB ts es st room)) true []) := by
  obtain ⟨e4', l1⟩ := due_loop1 (e0 := some (.val (Mc n ts es) false)) (e1 := some (.val (.int room) false)) (e2 := some (.val (.lst (st.map .int)) false)) (e5 := none) (e6 := none) (e7 := none) (fr := false) es [] none (by simp; omega)
  obtain ⟨sl', al', e5', e6', e7', l3, hv'⟩ := due_loop3 (n := n) (es := es) hl (e1 := some (.val (.int room) false)) (e2 := some (.val (.lst (st.map .int)) false)) (e4 := e4') (g0 := false) (fr := false) st.reverse (ddup es) (.tre (bD (ddup es))) [3] none none none rfl
  have l1':forD (gN 4) false L__law_due_1 (es.map .int) [some (.val (.tup [.int n, .lst (ts.map tD), .lst (es.map .int)]) false), some (.val (.int room) false), some (.val (.lst (st.map .int)) false), some (.tre (.dic [] [])), none, none, none, none] = .ok (.nx [some (.val (.tup [.int n, .lst (ts.map tD), .lst (es.map .int)]) false), some (.val (.int room) false), some (.val (.lst (st.map .int)) false), some (.tre (bD (ddup es))), e4', none, none, none]) := l1
  unfold Mc at l3
  have hr:(st.map D.int).reverse = st.reverse.map D.int := by rw [List.map_reverse]
  simp_arith [F__law_due, B__law_due, Mc, l1', hr, l3, hv', e_inB]
  rfl
theorem Mc_dep (n:Int) (ts:List Tri) (es:List Int) : (Mc n ts es).dep <= 50 := by
  have h1:D.deps (ts.map tD) <= 1 := deps_map fun t => tD_dep t
  have h2 := deps_ints es
  unfold Mc; simp only [dep_tup, dep_lst, deps_cons, dep_int, deps_nil]; omega
theorem mach_eq {n:Int} {ts:List Tri} {es:List Int} {f g:Bool} {al bl:List Nat} : oEq (.val (Mc n ts es) f al) (.val (Mc n ts es) g bl) = .ok (.val (.bl true) true []) := by
  rw [e_eq (a := .val (Mc n ts es) f al) (b := .val (Mc n ts es) g bl) (Mc_dep _ _ _) (Mc_dep _ _ _), r_d_val, r_d_val, eqD_refl]
theorem ne_stack {st:List Int} {f g:Bool} {al bl:List Nat} : oNe (.val (.lst (st.map .int)) f al) (.val (.lst (st.map .int)) g bl) = .ok (.val (.bl false) true []) := by
  have h := deps_ints st
  have hd:(D.lst (st.map .int)).dep <= 50 := by rw [dep_lst]; omega
  rw [e_ne (a := .val (.lst (st.map .int)) f al) (b := .val (.lst (st.map .int)) g bl) hd hd, r_d_val, r_d_val, eqD_refl]; rfl
theorem low_comp {e0 e1 e3 e4 e5 e6 e7 e8 e9 e10 e11 e12 e13:Option Sl} {rooms:Int} {g fr:Bool} {al:List Nat} (ts:List Tri) (hl:ts.length <= 1000000) :
    kComp 1 [2] (gN 0) T_law_1 E_law_1 [e0, e1, some (.val (.int rooms) g), e3, e4, e5, e6, e7, e8, e9, e10, e11, e12, e13] ⟨ts.map tD, fr, al⟩ = .ok (.new ((ts.filter fun t => decide (t.2.2 < rooms)).map tD) true) := by
  have h := compD_filter (mk := fun d => gN 0 d fr (envB [e0, e1, some (.val (.int rooms) g), e3, e4, e5, e6, e7, e8, e9, e10, e11, e12, e13] 1 [2])) (test := T_law_1)
    (elt := E_law_1) tD (fun t => decide (t.2.2 < rooms)) (fun t => .val (tD t) true []) ts fun t hk => ⟨_, rfl, by
      show T_law_1 [some (.val (tD t) fr), some (.val (.int rooms) g)] = _
      unfold tD
      simp_arith [T_law_1], fun _ => by
      show E_law_1 [some (.val (tD t) fr), some (.val (.int rooms) g)] = _
      unfold tD
      simp_arith [E_law_1]⟩
  rw [e_kComp (by rw [List.length_map]; exact hl) h, map_d, rfrs_val, e_mkLt (flats_map _ _ tD_flat)]
theorem low_eq (ts:List Tri) (rooms:Int) : ((((ts.filter fun t => decide (t.2.2 < rooms)).length:Nat) : Int) == 0) = ts.all fun t => decide (rooms <= t.2.2) := by
  rw [Bool.eq_iff_iff, beq_iff_eq, List.all_eq_true]
  constructor
  · intro h t ht
    rw [decide_eq_true_iff]
    have h0:(ts.filter fun t => decide (t.2.2 < rooms)) = [] := List.length_eq_zero_iff.mp (by omega)
    have := List.filter_eq_nil_iff.mp h0 t ht
    rw [decide_eq_true_iff] at this
    omega
  · intro h
    have:(ts.filter fun t => decide (t.2.2 < rooms)) = [] := List.filter_eq_nil_iff.mpr fun t ht => by
      have := of_decide_eq_true (h t ht)
      rw [decide_eq_true_iff]; omega
    rw [this]; rfl
theorem ne_bool {b:Bool} {f g:Bool} {al bl:List Nat} : oNe (.val (.bl b) f al) (.val (.bl b) g bl) = .ok (.val (.bl false) true []) := by
  rw [e_ne (Nat.zero_le _) (Nat.zero_le _), r_d_val, r_d_val, eqD_refl]; rfl
def LawE (ns:List Int) (rooms signs:Int) (n:Int) (ts:List Tri) (es:List Int) (env:En) : Prop :=
  ∃ e1 e6 e7 e8 e9 e10 e11 e12 e13, env = [some (.val (.lst (ns.map .int)) false), e1, some (.val (.int rooms) true), some (.val (.int signs) true), some (.tre (Mc n ts es)), some (.val (Mc n ts es) true), e6, e7, e8, e9, e10, e11, e12, e13]
def bodyT:En -> Res Fl :=
    (fSeq (fSet 12 (vB1 kList (aCons (vVar 11) aNil)))
    (fSeq (fSet 13 (vCall F_takes (aCons (vVar 5) (aCons (vTup (aCons (vVar 9) (aCons (vVar 12) aNil))) aNil))))
    (fIf (bOr (bNot (vTru (vIsi "bool" (vVar 13)))) (bOr (vB (v2 oNe (vVar 13) (vCall F__law_due (aCons (vVar 4) (aCons (vVar 9) (aCons (vVar 11) aNil)))))) (vB (v2 oNe (vVar 12) (vVar 11))))) (fRet (vC (.bl false))) fNil)))
theorem tail_ok {ns:List Int} {rooms signs n room:Int} {ts:List Tri} {es st:List Int} (hl:ts.length <= 63) (he:es.length <= 2000) {e1 e6 e7 e8 e10 e12 e13:Option Sl} :
    ∃ env', bodyT [some (.val (.lst (ns.map .int)) false), e1, some (.val (.int rooms) true), some (.val (.int signs) true), some (.tre (Mc n ts es)), some (.val (Mc n ts es) true), e6, e7, e8, some (.val (.int room) true), e10, some (.tre (.lst (st.map .int))), e12, e13] = .ok (.nx env') /\ LawE ns rooms signs n ts es env' := by
  have ht := takes_ok n room ts es st hl he
  have hd := due_ok n room ts es st hl he
  refine ⟨[some (.val (.lst (ns.map .int)) false), e1, some (.val (.int rooms) true), some (.val (.int signs) true), some (.tre (Mc n ts es)), some (.val (Mc n ts es) true), e6, e7, e8, some (.val (.int room) true), e10, some (.tre (.lst (st.map .int))), some (.own (st.map .int) true), some (.val (.bl (takesB ts es st room)) true)], ?_, ⟨_, _, _, _, _, _, _, _, _, rfl⟩⟩
  simp_arith [bodyT, flats_ints, Mc_flat, ht, hd, ne_bool, ne_stack]
theorem turn_ok {ns:List Int} {rooms signs n:Int} {ts:List Tri} {es:List Int} (hl:ts.length <= 63) (he:es.length <= 2000) (r1:0 < rooms) (s1:0 < signs) (s2:signs < 1073741824) {z:Int} (z1:0 <= z) (z2:z < 3) {env:En} (h:LawE ns rooms signs n ts es env) :
    ∃ env', L_law_1 (env.set 7 (some (.val (.int z) true))) = .ok (.nx env') /\ LawE ns rooms signs n ts es env' := by
  obtain ⟨e1, e6, e7, e8, e9, e10, e11, e12, e13, rfl⟩ := h
  have k1:-18446744073709551616 < z := by omega
  have k2:z < 18446744073709551616 := by omega
  generalize hN:(cell ns 3 + 31 * z * z) % 2147483647 = num
  have n0:0 <= num := by omega
  by_cases c1:num / 8 % 9 = 4
  · have hb1:(num / 8 % 9 == 4) = true := by rw [c1]; rfl
    obtain ⟨sa, la, ha⟩ := any_ok (20 + num % 21) num signs (by omega) (by omega) s1 s2
    by_cases c2:(cell ns 4 / 3 + z) % 2 = 1
    · have hb2:((cell ns 4 / 3 + z) % 2 == 1) = true := by rw [c2]; rfl
      obtain ⟨sb, lb, hb⟩ := along_stack n ((cell ns 4 + z) % rooms) (20 + num % 21) num ts es hl (by omega) (by omega)
      obtain ⟨env', t1, t2⟩ := tail_ok (ns := ns) (rooms := rooms) (signs := signs) (n := n) (room := (cell ns 4 + z) % rooms) (st := sb) hl he (e1 := e1) (e6 := e6) (e7 := some (.val (.int z) true)) (e8 := some (.val (.int num) true)) (e10 := some (.val (.int (20 + num % 21)) true)) (e12 := e12) (e13 := e13)
      refine ⟨env', ?_, t2⟩
      simp_arith [L_law_1, cell3, cell4, k1, k2, r1, hN, e_eq, hb1, ha, hb2, Mc_flat, hb]
      simp_arith [bodyT] at t1
      exact t1
    · have hb2:((cell ns 4 / 3 + z) % 2 == 1) = false := by simpa using c2
      obtain ⟨env', t1, t2⟩ := tail_ok (ns := ns) (rooms := rooms) (signs := signs) (n := n) (room := (cell ns 4 + z) % rooms) (st := sa) hl he (e1 := e1) (e6 := e6) (e7 := some (.val (.int z) true)) (e8 := some (.val (.int num) true)) (e10 := some (.val (.int (20 + num % 21)) true)) (e12 := e12) (e13 := e13)
      refine ⟨env', ?_, t2⟩
      simp_arith [L_law_1, cell3, cell4, k1, k2, r1, hN, e_eq, hb1, ha, hb2, Mc_flat]
      simp_arith [bodyT] at t1
      exact t1
  · have hb1:(num / 8 % 9 == 4) = false := by simpa using c1
    obtain ⟨sa, la, ha⟩ := any_ok (num % 8) num signs (by omega) (by omega) s1 s2
    by_cases c2:(cell ns 4 / 3 + z) % 2 = 1
    · have hb2:((cell ns 4 / 3 + z) % 2 == 1) = true := by rw [c2]; rfl
      obtain ⟨sb, lb, hb⟩ := along_stack n ((cell ns 4 + z) % rooms) (num % 8) num ts es hl (by omega) (by omega)
      obtain ⟨env', t1, t2⟩ := tail_ok (ns := ns) (rooms := rooms) (signs := signs) (n := n) (room := (cell ns 4 + z) % rooms) (st := sb) hl he (e1 := e1) (e6 := e6) (e7 := some (.val (.int z) true)) (e8 := some (.val (.int num) true)) (e10 := some (.val (.int (num % 8)) true)) (e12 := e12) (e13 := e13)
      refine ⟨env', ?_, t2⟩
      simp_arith [L_law_1, cell3, cell4, k1, k2, r1, hN, e_eq, hb1, ha, hb2, Mc_flat, hb]
      simp_arith [bodyT] at t1
      exact t1
    · have hb2:((cell ns 4 / 3 + z) % 2 == 1) = false := by simpa using c2
      obtain ⟨env', t1, t2⟩ := tail_ok (ns := ns) (rooms := rooms) (signs := signs) (n := n) (room := (cell ns 4 + z) % rooms) (st := sa) hl he (e1 := e1) (e6 := e6) (e7 := some (.val (.int z) true)) (e8 := some (.val (.int num) true)) (e10 := some (.val (.int (num % 8)) true)) (e12 := e12) (e13 := e13)
      refine ⟨env', ?_, t2⟩
      simp_arith [L_law_1, cell3, cell4, k1, k2, r1, hN, e_eq, hb1, ha, hb2, Mc_flat]
      simp_arith [bodyT] at t1
      exact t1
theorem rest_ok (ns:List Int) (size rooms signs:Int) (r1:0 < rooms) (r2:rooms < 1000) (s1:0 < signs) (s2:signs < 1000) {g1:Bool} :
    retOf (B_law_5 [some (.val (.lst (ns.map .int)) false), some (.val (.int size) g1), some (.val (.int rooms) true), some (.val (.int signs) true), none, none, none, none, none, none, none, none, none, none]) = .ok (.val (.bl true) true []) := by
  obtain ⟨n, ts, es, al, hl, he, hm⟩ := machine_ok ns rooms signs r1 r2 s1 s2
  have s3:signs < 1073741824 := by omega
  have hl2:ts.length <= 1000000 := by omega
  have hp := plain_ok rooms signs n ts es hl
  obtain ⟨env', lp, e1, e6, e7, e8, e9, e10, e11, e12, e13, rfl⟩ := forD_inv (fun k:Nat => D.int k) (asg := gN 7) (fr := true) (body := L_law_1) (fun _ => LawE ns rooms signs n ts es) (List.range 3) [] [some (.val (.lst (ns.map .int)) false), some (.val (.int size) g1), some (.val (.int rooms) true), some (.val (.int signs) true), some (.tre (Mc n ts es)), some (.val (Mc n ts es) true), some (.val (.bl (ts.all fun t => decide (rooms <= t.2.2))) true), none, none, none, none, none, none, none] ⟨_, _, _, _, _, _, _, _, _, rfl⟩ (by
    intro pre post a env _ hP ha
    have ha := List.mem_range.mp ha
    obtain ⟨env2, t1, t2⟩ := turn_ok hl he r1 s1 s3 (z := (a:Int)) (by omega) (by omega) hP
    refine ⟨_, env2, e_gN ?_, t1, t2⟩
    obtain ⟨e1, e6, e7, e8, e9, e10, e11, e12, e13, rfl⟩ := hP
    simp)
  have hn3:numsD 0 (3:Int).toNat = (List.range 3).map fun k => .int (k:Nat) := numsD_0 3
  have hpl := low_eq ts rooms
  have hmc:D.tup [.int n, .lst (ts.map tD), .lst (es.map .int)] = Mc n ts es := rfl
  unfold B_law_5
  simp_arith [hm, Mc_flat, B_law_6]
  have h6:∀ env6, B_law_7 env6 = B_law_7 env6 := fun _ => rfl
  have hx:∀ (i:Nat) (fb:En -> Res R) (env:En), ixAtX i fb env (some (some (.tre (Mc n ts es)))) = vIxV i fb env := fun _ _ _ => rfl
  have h0:ixDD (Mc n ts es) (.int 0) true [4] = .ok (.val (.int n) true []) := rfl
  have h1:ixDD (Mc n ts es) (.int 1) true [4] = .ok (.val (.lst (ts.map tD)) true [4]) := rfl
  have h2:ixDD (Mc n ts es) (.int 2) true [4] = .ok (.val (.lst (es.map .int)) true [4]) := rfl
  simp_arith [hx, h0, h1, h2, flats_ints, flats_tD, hmc, Mc_flat, B_law_7, hp, B_law_8, low_comp _ hl2, e_eq, List.length_map, hpl, ne_bool, B_law_9, e_kR1, hn3, lp, B_law_10, mach_eq]
theorem law_ok (ns:List Int) (hl:ns.length <= 63) : F_law [.lst (ns.map .int)] = .ok (.val (.bl true) true []) := by
  have hc := cell_ge ns 0
  generalize hS:cell ns 0 = s at hc
  by_cases c:s / 12 % 4 = 1
  · have hb:(s / 12 % 4 == 1) = true := by rw [c]; rfl
    have hr := rest_ok ns s (1 + s / 48 % 8) (1 + s / 384 % 300) (by omega) (by omega) (by omega) (by omega) (g1 := true)
    simp_arith [F_law, B_law, cell0, hS, B_law_2, B_law_3, B_law_4, e_eq, hb, hr]
  · have hb:(s / 12 % 4 == 1) = false := by simpa using c
    have hr := rest_ok ns s (1 + s % 3) (1 + s / 3 % 4) (by omega) (by omega) (by omega) (by omega) (g1 := true)
    simp_arith [F_law, B_law, cell0, hS, B_law_2, B_law_3, B_law_4, e_eq, hb, hr]
end W
open PySem PySem.W PyProof.Rows
set_option maxRecDepth 100000 in
set_option maxHeartbeats 0 in
theorem PySem.Challenge.cw_callwalk_k11_takes_holds : PySem.Challenge.rw_callwalk_k11_takes.Holds := by
  w_on; o_law; k_head; (case hw => w_witness2)
  k_fill
  refine L2.walk_of (l := PySem.Challenge.rw_callwalk_k11_takes) (n := 63) (k := 4) (x := "_law_script") (CX := fun w => L2.CX0) (sp := fun _ => L3.spT W.F_law) rfl (by decide) rfl ⟨rfl, by decide, by decide⟩ (fun w h Y => PySem.W.kIn_of Y) ?F ?S ?C
  case F =>
    intro w mg fa h KX G hmg
    refine W.all_mk KX G hmg ?_
    refine' Exists.imp (fun _ _ => True.intro) (W.tx_mk KX G ?a__law_cell_at ?l__law_cell_at ?c__law_cell_at ?k__law_cell_at ?a__law_arrow ?l__law_arrow ?c__law_arrow ?k__law_arrow ?a__law_machine ?l__law_machine ?c__law_machine ?k__law_machine ?a_is_plain ?l_is_plain ?c_is_plain ?k_is_plain ?a__law_any ?l__law_any ?c__law_any ?k__law_any ?a__law_along ?l__law_along ?c__law_along ?k__law_along ?a_arrows_from ?l_arrows_from ?c_arrows_from ?k_arrows_from ?a_marked ?l_marked ?c_marked ?k_marked ?a_along ?l_along ?c_along ?k_along ?a_takes ?l_takes ?c_takes ?k_takes ?a__law_due ?l__law_due ?c__law_due ?k__law_due ?a_law ?l_law ?c_law ?k_law ?z_all ?z_any ?z_bool ?z_dict ?z_isinstance ?z_len ?z_list ?z_range ?z_reversed ?z_set ?z_sorted)
    (case a__law_cell_at => k_is)
    (case l__law_cell_at => k_is)
    (case c__law_cell_at => k_is)
    (case k__law_cell_at => k_is)
    (case a__law_arrow => k_is)
    (case l__law_arrow => k_is)
    (case c__law_arrow => k_is)
    (case k__law_arrow => k_is)
    (case a__law_machine => k_is)
    (case l__law_machine => k_is)
    (case c__law_machine => k_is)
    (case k__law_machine => k_is)
    (case a_is_plain => k_is)
    (case l_is_plain => k_is)
    (case c_is_plain => k_is)
    (case k_is_plain => k_is)
    (case a__law_any => k_is)
    (case l__law_any => k_is)
    (case c__law_any => k_is)
    (case k__law_any => k_is)
    (case a__law_along => k_is)
    (case l__law_along => k_is)
    (case c__law_along => k_is)
    (case k__law_along => k_is)
    (case a_arrows_from => k_is)
    (case l_arrows_from => k_is)
    (case c_arrows_from => k_is)
    (case k_arrows_from => k_is)
    (case a_marked => k_is)
    (case l_marked => k_is)
    (case c_marked => k_is)
    (case k_marked => k_is)
    (case a_along => k_is)
    (case l_along => k_is)
    (case c_along => k_is)
    (case k_along => k_is)
    (case a_takes => k_is)
    (case l_takes => k_is)
    (case c_takes => k_is)
    (case k_takes => k_is)
    (case a__law_due => k_is)
    (case l__law_due => k_is)
    (case c__law_due => k_is)
    (case k__law_due => k_is)
    (case a_law => k_is)
    (case l_law => k_is)
    (case c_law => k_is)
    (case k_law => k_is)
    (case z_all => k_is)
    (case z_any => k_is)
    (case z_bool => k_is)
    (case z_dict => k_is)
    (case z_isinstance => k_is)
    (case z_len => k_is)
    (case z_list => k_is)
    (case z_range => k_is)
    (case z_reversed => k_is)
    (case z_set => k_is)
    (case z_sorted => k_is)
  case S => exact fun w H a ns hl hO hS => L3.spT_of (fun ns hn => ⟨_, _, W.law_ok ns hn⟩) (by rfl) H a ns hl hO hS
  case C => exact fun _ _ _ _ _ z => z
